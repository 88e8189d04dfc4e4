import PyProof.Rows.All
import Wide.All
import OpenK.AllK
import Wide.FinOn
import Lean
import PyProof.EqAt
import PyProof.EqKinds
import PyProof.TupleCall
import PySem.Challenge.RW_fakehunt_k16_faults_of_one_line
set_option Elab.async false
set_option linter.all false
set_option maxRecDepth 100000
set_option maxHeartbeats 4000000
set_option genSizeOf false
def aD:=@Nat.le_refl
def aF:=@List.length_map
def aG:=@Nat.le_trans
def aI:=@List.length_append
def aJ:=@Nat.lt_of_lt_of_le
def aK:=@decide_eq_false
def aL:=@List.size_toArray
def aM:=@List.mem_cons
def aO:=@Option.bind_eq_some_iff
def aP:=@List.map_cons
def aQ:=@Nat.ne_of_lt
def aR:=@List.getElem?_set_ne
def aT:=@List.all_cons
def aV:=@List.map_map
def aW:=@decide_eq_true
def aX:=@List.getElem?_map
def aY:=@List.getElem?_append_right
def aZ:=@Array.length_toList
def bA:=@List.length_cons
def bB:=@List.lookup_cons
def bC:=@List.mem_map
def bD:=@Nat.lt_irrefl
def bE:=@List.getElem?_eq_some_iff
def bF:=@List.getElem?_append_left
def bG:=@List.mem_of_getElem?
def bH:=@beq_eq_false_iff_ne
def bI:=@List.length_set
def bJ:=@Bool.and_eq_true_iff
def bK:=@List.length_range
def bL:=@Int.toNat_natCast
def bM:=@List.mem_append
def bN:=@List.getElem?_set_self
def bO:=@List.append_assoc
def bP:=@Nat.min_eq_left
def bQ:=@List.length_replicate
def bR:=@decide_eq_true_eq
def bS:=@List.mem_range
def bT:=@Nat.zero_le
def bU:=@List.append_nil
def bV:=@List.contains_cons
def bW:=@List.mem_singleton
def bX:=@Nat.zero_add
def bY:=@List.all_eq_true
def bZ:=@List.not_mem_nil
def cA:=@List.map_append
def cF:=@Nat.min_eq_right
def cG:=@List.length_take
def cH:=@List.replicate_succ
def cJ:=@Int.emod_nonneg
def cK:=@Nat.sub_self
def cL:=@List.mem_append_right
def cM:=@Bool.eq_iff_iff
def cN:=@List.any_cons
def cP:=@List.length_drop
def cQ:=@Bool.or_false
def cR:=@Bool.not_eq_true'
def cT:=@Bool.or_eq_true
def cU:=@List.toList_toArray
def cV:=@Int.emod_lt_of_pos
def cW:=@Bool.true_and
def cX:=@Int.ediv_one
def cY:=@List.flatten_cons
def cZ:=@Option.map_eq_some_iff
def dA:=@List.length_zip
def dB:=@List.map_congr_left
def dC:=@List.getElem?_toArray
def dD:=@List.getElem?_set
def dE:=@Nat.le_add_right
def dF:=@Nat.le_of_eq
def dG:=@Nat.le_of_not_lt
def dH:=@Bool.or_true
def dI:=@List.cons_ne_nil
def dJ:=@Bool.and_eq_false_iff
def dL:=@List.mem_filter
def dM:=@List.filterMap_cons
def dN:=@List.mem_filterMap
def dO:=@List.nodup_cons
def dP:=@List.getElem?_replicate
def dQ:=@List.find?_cons
def dR:=@Array.getElem?_setIfInBounds
def dS:=@List.drop_eq_getElem_cons
def dU:=@List.range_succ_eq_map
def dW:=@List.length_eq_zero_iff
def dX:=@List.contains_iff_mem
def dY:=@List.forIn_cons
def dZ:=@List.getElem?_range
def eA:=@List.length_singleton
def eB:=@List.getElem?_eq_none
def eC:=@List.find?_cons_of_neg
def eD:=@List.drop_eq_nil_of_le
def eE:=@List.take_of_length_le
def eF:=@List.eq_of_mem_replicate
def eG:=@List.filter_cons_of_pos
def eI:=@List.filter_cons_of_neg
section
open PySem PySem.Spec PyProof.Rows
def aA:=@wpAny_bind
def aB:=@wpAny_pure
def aE:=@Heap.lt_size
def aH:=@Heap.get?_push_of_some
def aS:=@Heap.get?_push_size
def aU:=@wpAny_mono
end
abbrev Li.{u}(α:Type u):Type u:=List α
abbrev Ot.{u}(α:Type u):Type u:=Option α
abbrev vL:=PySem.Value
abbrev Ad:=PySem.Addr
abbrev Sd:=PySem.Shared
theorem Ob{α β:Type}{a:α}{f:α->Ot β}:(some a).bind f=f a:=rfl
abbrev Fg:=PySem.W.Frag
theorem Ba(a b:Bool):((a&&b)=true)=(a=true/\b=true):=Bool.and_eq_true a b
theorem Lg{α:Type _}{l:Li α}{i:Nat}(h:i<l.length):l[i]?=some l[i]:=List.getElem?_eq_getElem h
theorem Lm{α:Type _}(y:α){a:α}{l:Li α}(h:a∈l):a∈y::l:=List.mem_cons_of_mem y h
theorem Ls{α:Type _}{a:α}{l:Li α}:a∈a::l:=List.mem_cons_self
theorem Bf:¬false=true:=Bool.false_ne_true
namespace L2
open PySem PySem.Spec PyProof.Rows

noncomputable abbrev Key:=Sum Int Str
noncomputable def keyIs:Key->vL->Bool
  |.inl k,v=>Value.isInt k v
  |.inr x,v=>Value.isStrOf x v
noncomputable def keyH(w:World):Key->Int
  |.inl k=>hashInt k
  |.inr x=>hashStr w x
theorem keyIs_shape:∀ {k:Key}{v:vL},keyIs k v=true->(∃ i t,k=Sum.inl i/\v=Value.int i t)\/(∃ x t,k=Sum.inr x/\v=Value.str x t)
  |.inl i,v,h=>by
    obtain⟨t,e⟩:=Value.isInt_shape (k:=i) (v:=v) h;exact .inl ⟨i,t,rfl,e⟩
  |.inr x,v,h=>by
    obtain⟨t,e⟩:=Value.isStrOf_shape (x:=x) (v:=v) h;exact .inr ⟨x,t,rfl,e⟩
theorem keyIs_int(i:Int)(t:Tok):keyIs (.inl i) (.int i t)=true:=by simp[keyIs,Value.isInt]
theorem keyIs_str(x:Str)(t:Tok):keyIs (.inr x) (.str x t)=true:=by simp[keyIs,Value.isStrOf]
theorem key_ll(a b:Int):decide ((Sum.inl a:Key)=Sum.inl b)=(a==b):=by
  by_cases e:a=b
  · subst e;simp
  · have h:¬(Sum.inl a:Key)=Sum.inl b:=fun q=>e (Sum.inl.inj q)
    rw[aK h];exact(bH.mpr e).symm
theorem key_rr(a b:Str):decide ((Sum.inr a:Key)=Sum.inr b)=decide (a=b):=by
  by_cases e:a=b
  · subst e;simp
  · have h:¬(Sum.inr a:Key)=Sum.inr b:=fun q=>e (Sum.inr.inj q)
    rw[aK h,aK e]
theorem key_lr(a:Int)(b:Str):decide ((Sum.inl a:Key)=Sum.inr b)=false:=aK (fun q=>nomatch q)
theorem key_rl(a:Str)(b:Int):decide ((Sum.inr a:Key)=Sum.inl b)=false:=aK (fun q=>nomatch q)

noncomputable def mixKind(prog:Program)(w:World):PySem.KeyKind prog w Key where
  is:=keyIs
  hash:=keyH w
  inj:=fun v a b ha hb=>by
    rcases keyIs_shape ha with⟨i,t,rfl,rfl⟩|⟨x,t,rfl,rfl⟩
    · rcases keyIs_shape hb with⟨j,u,rfl,e⟩|⟨y,u,rfl,e⟩
      · injection e with e1 _;rw[e1]
      · exact nomatch e
    · rcases keyIs_shape hb with⟨j,u,rfl,e⟩|⟨y,u,rfl,e⟩
      · exact nomatch e
      · injection e with e1 _;rw[e1]
  byValue:=fun k v h=>by
    rcases keyIs_shape h with⟨i,t,rfl,rfl⟩|⟨x,t,rfl,rfl⟩<;>rfl
  pyHash:=fun hv h=>by
    rcases keyIs_shape hv with⟨i,t,rfl,rfl⟩|⟨x,t,rfl,rfl⟩
    · exact wpAny_pyHash_int h
    · exact wpAny_pyHash_str h
  eqBool:=fun hu hv h=>by
    rcases keyIs_shape hu with⟨i,t,rfl,rfl⟩|⟨x,t,rfl,rfl⟩
    · rcases keyIs_shape hv with⟨j,u,rfl,rfl⟩|⟨y,u,rfl,rfl⟩
      · rw[key_ll]at h;exact wpAny_eqBool_int h
      · rw[key_lr]at h;exact SeqAt.EqAt.int_str i t y u _ _ _ _ h
    · rcases keyIs_shape hv with⟨j,u,rfl,rfl⟩|⟨y,u,rfl,rfl⟩
      · rw[key_rl]at h;exact SeqAt.EqAt.str_int x t j u _ _ _ _ h
      · rw[key_rr]at h;exact wpAny_eqBool_str h
  «strs»:=fun k x t v h=>by
    rcases keyIs_shape h with⟨i,u,rfl,e⟩|⟨y,u,rfl,e⟩
    · exact nomatch e
    · injection e with e1 _
      subst e1;cases v<;>rfl

theorem mixKind_int(prog:Program)(w:World)(i:Int)(t:Tok):(mixKind prog w).is (.inl i) (.int i t)=true:=keyIs_int i t
theorem mixKind_str(prog:Program)(w:World)(x:Str)(t:Tok):(mixKind prog w).is (.inr x) (.str x t)=true:=keyIs_str x t
inductive V where
  |non|bl (b:Bool)|int (i:Int)|str (x:Str)|byt (b:Array UInt8)|flt (b:UInt64)|ref (a:Addr)|ty (n:String)
  deriving DecidableEq

def RelV:V->vL->Prop
  |.non,u=>u=Value.none
  |.bl b,u=>u=Value.bool b
  |.int i,u=>∃ t,u=Value.int i t
  |.str x,u=>∃ t,u=Value.str x t
  |.byt b,u=>∃ t,u=Value.bytes b t
  |.flt b,u=>∃ t,u=Value.float b t
  |.ref a,u=>u=Value.ref a
  |.ty n,u=>u=Value.type n

abbrev Vals:Li V->Li vL->Prop:=Paired RelV
variable{us:Li vL}
theorem Vals.length{xs:Li V}(r:Vals xs us):xs.length=us.length:=Paired.length r
theorem Vals.get:∀ {xs:Li V}{us:Li vL}{i:Nat}{x:V},Vals xs us->xs[i]?=some x->∃ u,us[i]?=some u/\RelV x u
  |_,_,_,_,.nil,e=>by simp at e
  |_,_,0,_,.cons r _,e=>by simp at e;subst e;exact⟨_,rfl,r⟩
  |_,_,i+1,x,.cons _ t,e=>by
    obtain⟨u,h1,h2⟩:=Vals.get (i:=i) (x:=x) t (by simpa using e)
    exact⟨u,by simpa using h1,h2⟩
theorem Vals.append:∀ {xs ys:Li V}{us ws:Li vL},Vals xs us->Vals ys ws->Vals (xs++ys) (us++ws)
  |_,_,_,_,.nil,s=>s
  |_,_,_,_,.cons r t,s=>.cons r (Vals.append t s)
theorem Vals.take:∀ {xs:Li V}{us:Li vL} (n:Nat),Vals xs us->Vals (xs.take n) (us.take n)
  |_,_,0,_=>.nil
  |_,_,_+1,.nil=>.nil
  |_,_,n+1,.cons r t=>.cons r (Vals.take n t)
theorem Vals.drop:∀ {xs:Li V}{us:Li vL} (n:Nat),Vals xs us->Vals (xs.drop n) (us.drop n)
  |_,_,0,r=>r
  |_,_,_+1,.nil=>.nil
  |_,_,n+1,.cons _ t=>Vals.drop n t

def RelO:Ot V->Ot vL->Prop
  |some v,some u=>RelV v u
  |none,none=>True
  |_,_=>False
def KV{κ:Type}:Li (κ×V)->Li (κ×vL)->Prop:=Paired fun(p:κ×V) (q:κ×vL)=>p.1=q.1/\RelV p.2 q.2

noncomputable def kV:Key->V
  |.inl i=>.int i
  |.inr x=>.str x

inductive HO where
    |lst (xs:List V)
    |tup (xs:List V)
    |dK (kvs:List (Key×V))|dT (kvs:List (List Key×V))
    |set (S:Int->Bool) (n:Nat)
    |ins (C dx:Addr) (fs:List (Str×V))
    |own (x:Addr)
    |xd (fs:List (Str×V))
    |met (f x:Addr)
    |rng (lo hi:Int)
    |frz (o:Obj) (u:HO)
    |tbl (ps:Array Value)
    |ext (φ:Heap->Prop)

noncomputable abbrev Hp:=Ad->Ot HO
noncomputable def upd(H:Hp)(a:Ad)(o:HO):Hp:=fun b=>if b=a then some o else H b
variable{H:Hp}
theorem upd_same{a:Ad}{o:HO}:upd H a o a=some o:=by unfold upd;rw[if_pos rfl]
theorem upd_ne{a b:Ad}{o:HO}(h:b≠a):upd H a o b=H b:=by unfold upd;rw[if_neg h]
theorem upd_upd{a:Ad}{o u:HO}:upd (upd H a o) a u=upd H a u:=by
  funext b;unfold upd;split<;>rfl
theorem ne_of{a b:Ad}{o u:HO}(h:H a=some o)(h':H b=some u)(d:o≠u):a≠b:=by
  intro e;subst e;rw[h]at h';exact d (Option.some.inj h')
theorem ne_of_none{a b:Ad}{o:HO}(h:H a=some o)(h':H b=none):a≠b:=by
  intro e;subst e;rw[h]at h';cases h'

section
variable (P:Program) (w:World)
def ObjOk(H:Hp)(h:Heap)(a:Ad):HO->Prop
  |.lst xs=>xs.length<=sizeLine/\∃ (its:Li vL) (n:Nat),Vals xs its/\h.get? a=some { cls:=.type "list",data:=.seq its.toArray n }
  |.tup xs=>xs.length<=sizeLine/\∃ its:Li vL,Vals xs its/\IsTup h a its.toArray
  |.dK kvs=>kvs.length<=sizeLine/\(a==sysModules)=false/\∃ vs,KV kvs vs/\h.DictOf (mixKind P w) a vs
  |.dT kvs=>kvs.length<=sizeLine/\(a==sysModules)=false/\∃ xs:Li (Li Key×Ad×vL),
      Paired (fun(p:Li Key×V) (q:Li Key×Ad×vL)=>p.1=q.1/\H q.2.1=some (.tup (p.1.map kV))/\RelV p.2 q.2.2) kvs xs /\
      ∃ o es ep,h.get? a=some o/\o.ExactDict/\o.data=.dict es ep/\es.toList=xs.map (entryOfKey (tupleKind (mixKind P w)))/\(xs.map (·.1)).Nodup
  |.set S n=>h.SetOf (intKind P w) a S n
  |.ins C dx fs=>H dx=some (.own a)/\fs.length<=1000/\dx≠a/\h.get? a=some (PySem.W.instObj C dx) /\
      ∃ mA,h.Ns1 dx mA/\(∀ f,RelO (fs.lookup f) (mA f))/\PySem.Within mA (fs.map (·.1))
  |.own _=>∃ o,h.get? a=some o
  |.xd fs=>∃ mA,h.Ns1 a mA/\∀ f,RelO (fs.lookup f) (mA f)
  |.rng lo hi=>∃ t u v,h.get? a=some { cls:=.type "range",data:=.fields #[.int lo t,.int hi u,.int 1 v] }
  |.frz o u=>h.get? a=some o/\ObjOk H h a u
  |.tbl ps=>h.get? a=some { cls:=.none,data:=.fields ps }
  |.met f x=>h.get? a=some (PySem.W.methodObj (.ref f) (.ref x))
  |.ext φ=>φ h/\(∃ o,h.get? a=some o)/\∀ h1 h2:Heap,φ h1->(∀ o,h1.get? a=some o->h2.get? a=some o)->φ h2
def HOk(H:Hp)(h:Heap):Prop:=∀ a o,H a=some o->ObjOk P w H h a o
end

section
variable {P:Program}{w:World}{H H':Hp}{h h':Heap}{a:Ad}{o:HO}
theorem ObjOk.lt(x:ObjOk P w H h a o):a < h.objs.size:=by
  cases o with
  |lst xs=>obtain⟨_,_,_,_,e⟩:=x;exact aE e
  |tup xs=>obtain⟨_,_,_,p⟩:=x;exact p.lt
  |dK kvs=>obtain⟨_,_,_,_,o,_,_,e,_⟩:=x;exact aE e
  |dT kvs=>obtain⟨_,_,_,_,o,_,_,e,_⟩:=x;exact aE e
  |set S n=>obtain⟨o,_,_,_,e,_⟩:=x;exact aE e
  |ins C dx fs=>obtain⟨_,_,_,e,_⟩:=x;exact aE e
  |own y=>obtain⟨_,e⟩:=x;exact aE e
  |xd fs=>obtain⟨_,⟨_,_,_,e,_⟩,_⟩:=x;exact aE e
  |rng lo hi=>obtain⟨_,_,_,e⟩:=x;exact aE e
  |frz ob u=>obtain⟨e,_⟩:=x;exact aE e
  |tbl ps=>exact aE (show h.get? a=some _ from x)
  |met f y=>exact aE (show h.get? a=some _ from x)
  |ext φ=>obtain⟨_,⟨_,e⟩,_⟩:=x;exact aE e
theorem Paired.mapP{α β:Type}{F G:α->β->Prop}:∀ {l₁:Li α}{l₂:Li β},Paired F l₁ l₂->(∀ a b,F a b->G a b)->Paired G l₁ l₂
  |_,_,.nil,_=>.nil
  |_,_,.cons r t,f=>.cons (f _ _ r) (Paired.mapP t f)
theorem ObjOk.stay(x:ObjOk P w H h a o)(k:∀ b u,(b=a\/H b=some (.own a))->h.get? b=some u->h'.get? b=some u)(ho:∀ b,H b=some (.own a)->H' b=some (.own a))(ht:∀ b xs,H b=some (.tup xs)->H' b=some (.tup xs)):ObjOk P w H' h' a o:=by
  induction o with
  |lst xs=>obtain⟨z,its,n,r,e⟩:=x;exact⟨z,its,n,r,k _ _ (.inl rfl) e⟩
  |tup xs=>obtain⟨z,its,r,ob,e,c⟩:=x;exact⟨z,its,r,ob,k _ _ (.inl rfl) e,c⟩
  |dK kvs=>obtain⟨z,y,vs,r,ob,es,ep,e,c⟩:=x;exact⟨z,y,vs,r,ob,es,ep,k _ _ (.inl rfl) e,c⟩
  |dT kvs=>
    obtain⟨z,y,xs,r,ob,es,ep,e,c⟩:=x;exact⟨z,y,xs,Paired.mapP r fun p q z=>⟨z.1,ht _ _ z.2.1,z.2.2⟩,ob,es,ep,k _ _ (.inl rfl) e,c⟩
  |set S n=>obtain⟨ob,es,ep,t,e,c⟩:=x;exact⟨ob,es,ep,t,k _ _ (.inl rfl) e,c⟩
  |ins C dx fs=>
    obtain⟨d,z,ne,e,mA,⟨od,es,ep,e2,c⟩,r⟩:=x;exact⟨ho _ d,z,ne,k _ _ (.inl rfl) e,mA,⟨od,es,ep,k _ _ (.inr d) e2,c⟩,r⟩
  |own y=>obtain⟨ob,e⟩:=x;exact⟨ob,k _ _ (.inl rfl) e⟩
  |xd fs=>obtain⟨mA,⟨od,es,ep,e,c⟩,r⟩:=x;exact⟨mA,⟨od,es,ep,k _ _ (.inl rfl) e,c⟩,r⟩
  |rng lo hi=>obtain⟨t,u,v,e⟩:=x;exact⟨t,u,v,k _ _ (.inl rfl) e⟩
  |frz ob u ih=>obtain⟨e,q⟩:=x;exact⟨k _ _ (.inl rfl) e,ih q⟩
  |tbl ps=>
    have e:h.get? a=some { cls:=.none,data:=.fields ps }:=x;show h'.get? a=some { cls:=.none,data:=.fields ps };exact k a _ (.inl rfl) e
  |met f y=>
    have e:h.get? a=some (PySem.W.methodObj (.ref f) (.ref y)):=x;show h'.get? a=some (PySem.W.methodObj (.ref f) (.ref y));exact k a _ (.inl rfl) e
  |ext φ=>obtain⟨p,⟨o,e⟩,st⟩:=x;exact⟨st _ _ p fun o q=>k _ _ (.inl rfl) q,⟨o,k _ _ (.inl rfl) e⟩,st⟩
theorem HOk.lt(x:HOk P w H h)(e:H a=some o):a < h.objs.size:=(x a o e).lt
theorem HOk.fresh(x:HOk P w H h)(e:h.objs.size<=a):H a=none:=by
  cases q:H a with
  |none=>rfl
  |some u=>exact absurd (aJ (x.lt q) e) (bD _)
theorem HOk.kept(x:HOk P w H h)(k:∀ b u,h.get? b=some u->h'.get? b=some u):HOk P w H h':=fun a o e=>
  (x a o e).stay (fun b u _ q=>k b u q) (fun _ q=>q) fun _ _ q=>q
theorem HOk.laid(x:HOk P w H h)(k:∀ b u,h.get? b=some u->h'.get? b=some u)(hp:h.objs.size<=a)(new:ObjOk P w (upd H a o) h' a o):HOk P w (upd H a o) h':=fun b u e=>by
  have hn:=x.fresh hp;by_cases hb:b=a
  · subst hb;rw[upd_same]at e;cases e;exact new
  · rw[upd_ne hb]at e
    exact(x b u e).stay (fun c v _ q=>k c v q) (fun c q=>by rw[upd_ne (ne_of_none q hn)];exact q) fun c xs q=>by rw[upd_ne (ne_of_none q hn)];exact q
end

def Rd(H:Hp)(a:Ad)(u:HO):Prop:=H a=some u\/∃ o,H a=some (.frz o u)
variable{w:World}{h:Heap}
theorem Rd.ok{P:Program}{a:Ad}{u:HO}(r:Rd H a u)(x:HOk P w H h):ObjOk P w H h a u:=by
  rcases r with r|⟨o,r⟩
  · exact x a u r
  · obtain⟨_,q⟩:=x a _ r
    exact q
def Mut:Ot HO->Prop
  |some (.lst _)=>True
  |some (.dK _)=>True
  |some (.dT _)=>True
  |some (.set _ _)=>True
  |some (.ins _ _ _)=>True
  |some (.ext _)=>True
  |_=>False
section
variable {P:Program}{w:World}{H:Hp}{h h':Heap}{x e:Ad}{o':HO}
theorem HOk.write(ok:HOk P w H h)(mu:Mut (H x))(he:e=x\/H e=some (.own x))(k:∀ b u,b≠e->h.get? b=some u->h'.get? b=some u)(heo:∃ u,h'.get? e=some u)(new:ObjOk P w (upd H x o') h' x o'):HOk P w (upd H x o') h':=fun b u q=>by
  have nown:∀ c y,H c=some (.own y)->c≠x:=fun c y r z=>by subst z;rw[r]at mu;exact mu
  have ntup:∀ c xs,H c=some (.tup xs)->c≠x:=fun c xs r z=>by subst z;rw[r]at mu;exact mu
  by_cases hb:b=x
  · subst hb;rw[upd_same]at q;cases q;exact new
  · rw[upd_ne hb]at q
    by_cases hbe:b=e
    · have q':H b=some (.own x):=by
        rcases he with z|z
        · exact absurd (hbe.trans z) hb
        · rw[hbe];exact z
      rw[q]at q';cases q'
      obtain⟨v,hv⟩:=heo;exact⟨v,by rw[hbe];exact hv⟩
    · refine(ok b u q).stay (fun c v hc r=>k c v ?_ r) (fun c r=>by rw[upd_ne (nown c b r)];exact r) fun c xs r=>by rw[upd_ne (ntup c xs r)];exact r
      rcases hc with rfl|hc
      · exact hbe
      · rintro rfl
        rcases he with z|z
        · exact nown c b hc z
        · rw[hc]at z;cases z;exact hb rfl
end

structure Un(fs ex:List Addr)(H H':Hp)(h h':Heap):Prop where
  keep:∀ b o,h.get? b=some o->H b=none->b∉fs->b∉ex->h'.get? b=some o
  slot:∀ b o,h.get? b=some o->H b=none->b∈fs->b∉ex->∃ sl,h'.get? b=some { o with slots:=sl }
  free:∀ b o,h.get? b=some o->H b=none->b∉ex->H' b=none
  there:∀ b o,h.get? b=some o->b∉ex->∃ o',h'.get? b=some o'
  tups:∀ b xs,H b=some (.tup xs)->H' b=some (.tup xs)
  frzs:∀ b o u,H b=some (.frz o u)->H' b=some (.frz o u)
  tbls:∀ b ps,H b=some (.tbl ps)->∃ more,H' b=some (.tbl (ps++more))
section
variable {fs fs' ex ex':Li Ad}{H H1 H2:Hp}{h h1 h2 h':Heap}{a x e:Ad}{o:HO}
theorem Un.any(u:Un fs ex H H1 h h1){b:Ad}{ob:Obj}(q:h.get? b=some ob)(n:H b=none)(hx:b∉ex):∃ sl,h1.get? b=some { ob with slots:=sl }:=by
  by_cases hb:b∈fs
  · exact u.slot b ob q n hb hx
  · exact⟨ob.slots,u.keep b ob q n hb hx⟩
theorem Un.kept(k:∀ b u,h.get? b=some u->h'.get? b=some u):Un fs ex H H h h':=
  ⟨fun b ob q _ _ _=>k b ob q,fun b ob q _ _ _=>⟨ob.slots,k b ob q⟩,fun _ _ _ n _=>n,fun b ob q _=>⟨ob,k b ob q⟩,fun _ _ q=>q,fun _ _ _ q=>q,fun _ ps q=>⟨#[],by rw[q];simp⟩⟩
theorem Un.refl:Un fs ex H H h h:=Un.kept fun _ _ q=>q
theorem Un.laid(k:∀ b u,h.get? b=some u->h'.get? b=some u)(hp:h.objs.size<=a)(hn:H a=none):Un fs ex H (upd H a o) h h' where
  keep:=fun b u q _ _ _=>k b u q
  slot:=fun b u q _ _ _=>⟨u.slots,k b u q⟩
  free:=fun b u q n _=>by rw[upd_ne (aQ (aJ (aE q) hp))];exact n
  there:=fun b u q _=>⟨u,k b u q⟩
  tups:=fun b xs q=>by rw[upd_ne (ne_of_none q hn)];exact q
  frzs:=fun b u xs q=>by rw[upd_ne (ne_of_none q hn)];exact q
  tbls:=fun b ps q=>⟨#[],by rw[upd_ne (ne_of_none q hn),q];simp⟩
theorem Un.write(mu:Mut (H x))(he:e=x\/H e=some (.own x))(k:∀ b u,b≠e->h.get? b=some u->h'.get? b=some u)(heo:∃ u,h'.get? e=some u):Un fs ex H (upd H x o) h h':=by
  have hx:∀ b,H b=none->b≠x:=fun b n z=>by subst z;rw[n]at mu;exact mu
  have hb:∀ b,H b=none->b≠e:=fun b n z=>by
    subst z;rcases he with r|r
    · exact hx b n r
    · rw[n]at r;cases r
  have hm:∀ b u,H b=some u->¬Mut (some u)->b≠x:=fun b u q nm z=>by subst z;rw[q]at mu;exact nm mu
  refine⟨fun b u q n _ _=>k b u (hb b n) q,fun b u q n _ _=>⟨u.slots,k b u (hb b n) q⟩,fun b u q n _=>by rw[upd_ne (hx b n)];exact n,fun b u q _=>?_,
    fun b xs q=>by rw[upd_ne (hm b _ q fun z=>z)];exact q,fun b u xs q=>by rw[upd_ne (hm b _ q fun z=>z)];exact q,fun b ps q=>⟨#[],by rw[upd_ne (hm b _ q fun z=>z),q];simp⟩⟩
  by_cases hbe:b=e
  · subst hbe;exact heo
  · exact⟨u,k b u hbe q⟩
end

noncomputable def trk(h:Heap)(H:Hp):Li Ad:=(List.range h.objs.size).filter fun a=>(H a).isSome
noncomputable def hidT(h:Heap)(H:Hp):Heap:=PySem.W.hideAll h (trk h H)
theorem hidT_size(h:Heap)(H:Hp):(hidT h H).objs.size=h.objs.size:=PySem.W.hideAll_size _ _
theorem hidT_get{b:Ad}{o:Obj}(e:h.get? b=some o)(n:H b=none):(hidT h H).get? b=some o:=
  PySem.W.hideAll_get _ e fun hm=>by
    have q:(H b).isSome=true:=(dL.mp hm).2;rw[n]at q;simp at q
theorem of_hidT{b:Ad}{o:Obj}(e:(hidT h H).get? b=some o):h.get? b=some o/\H b=none:=by
  have e':h.get? b=some o:=PySem.W.of_hideAll (trk h H) e;refine⟨e',?_⟩;cases q:H b with
  |none=>rfl
  |some x=>
    have hm:b∈trk h H:=dL.mpr ⟨bS.mpr (aE e'),by simp[q]⟩
    have z:(hidT h H).get? b=none:=PySem.W.hideAll_none (trk h H) hm;rw[z]at e;cases e

structure Mod(K:Fg)(mg:Str->Option Value)(base:Heap):Prop where
  kin:K.In base
  glob:base.Ns mainGlobals mg
  blt:∃ mb,base.Ns builtinsNs mb/\∀ x:Str,x ≠ "__name__"->mb x=bootBuiltins x
  nolimit:base.NoLimit

structure Cx where
  prog:Program
  w:World
  K:Fg
  mg:Str->Option Value
  base:Heap
  A:Around
  N:List Str
  s₀:Shared
  H₀:Hp
  env:Env
  outer:List Env
  stack:List Env
  ex:List Addr
  fn:Str->Bool
  calm:Bool
  pn:List (Addr×Obj)
  xe:Value->Shared->Prop
noncomputable def frs(l:Li Env):Li Ad:=l.filterMap (·.frame)
noncomputable abbrev Cx.fs(X:Cx):Li Ad:=frs X.outer

def Vis(sc:Scope)(x:Str):Prop:=sc.names.lookup x=some .local\/sc.names.lookup x=some .cell\/sc.names.lookup x=some .free
def Loc(sc:Scope)(x:Str):Prop:=sc.names.lookup x=some .local\/sc.names.lookup x=some .cell
def Look(env:Env)(h:Heap)(m:Str->Ot vL)(x:Str)(u:vL):Prop:=
  (env.kindOf x=some .local/\m x=some u)\/((env.kindOf x=some .cell\/env.kindOf x=some .free)/\∃ c,env.cells.lookup x=some c/\h.IsCell c (some u))

structure Cx.Ok(X:Cx):Prop where
  mod:Mod X.K X.mg X.base
  kind:X.env.scope.kind=.function
  glob:X.env.globals=mainGlobals
  blt:X.env.builtins=builtinsNs
  above:X.s₀.heap.objs.size<=X.env.locals
  inj:∀ x y c,X.env.cells.lookup x=some c->X.env.cells.lookup y=some c->x=y
  has:∀ x,(X.env.kindOf x=some .cell\/X.env.kindOf x=some .free)->∃ c,X.env.cells.lookup x=some c
  cab:∀ x c,X.fn x=true->X.env.cells.lookup x=some c->X.s₀.heap.objs.size<=c
  hd:X.calm=true->X.A.handled=none
  frames:X.A.frames=some X.stack
  stk:X.stack=X.outer\/(X.stack=X.env :: X.outer/\X.env.frame=some X.env.locals)
  exf:∀ b∈X.ex,b≠X.env.locals/\∀ x c,X.env.cells.lookup x=some c->c≠b
  bs:∀ b o,X.base.get? b=some o->X.s₀.heap.get? b=some o/\X.H₀ b=none
  bsz:X.base.objs.size<=X.s₀.heap.objs.size
  noex:∀ b o,X.base.get? b=some o->b∉X.ex
  exfs:∀ b∈X.ex,b∉X.fs
  funs:X.s₀.heap.FunFrames X.base X.outer
  frf:∀ b∈X.fs,X.H₀ b=none

structure Inv(X:Cx)(pQ:List (Addr×Obj))(σ:List (Option V))(H:Hp)(s:Shared):Prop where
  ok:X.Ok
  os:s.os=X.s₀.os
  bare:AllBare s.gens
  base:Un X.fs X.ex X.H₀ H X.s₀.heap s.heap
  loc:∃ m,s.heap.Ns X.env.locals m/\∀ (i:Nat) (x:Str) (v:V),X.N[i]?=some x->σ[i]?=some (some v)->Vis X.env.scope x->∃ u,RelV v u/\Look X.env s.heap m x u
  cell:∀ x c,X.env.cells.lookup x=some c->∃ v,s.heap.IsCell c v
  free:H X.env.locals=none
  freeC:∀ x c,X.env.cells.lookup x=some c->H c=none
  pin:∀ p∈X.pn++pQ,s.heap.get? p.1=some p.2/\H p.1=none/\p.1≠X.env.locals/\p.1∉X.fs/\∀ v,p.2.data≠.cell v
  hok:HOk X.prog X.w H s.heap
  len:σ.length=X.N.length

variable{g':Array GenState}{t' i:Nat}{d':Drawn}{N:Li Str}
section
variable {X:Cx}{pQ:Li (Ad×Obj)}{σ:Li (Ot V)}{H H':Hp}{s:Sd}{h':Heap}

theorem Cx.Ok.nofr(ok:X.Ok){b:Ad}{o:Obj}(e:X.base.get? b=some o):b∉X.fs:=fun hb=>by
  have:=(ok.funs.mem hb).1;rw[e]at this;cases this
theorem Inv.bs(I:Inv X pQ σ H s):∀ b o,X.base.get? b=some o->s.heap.get? b=some o/\H b=none:=fun b o e=>
  ⟨I.base.keep b o (I.ok.bs b o e).1 (I.ok.bs b o e).2 (I.ok.nofr e) (I.ok.noex b o e),I.base.free b o (I.ok.bs b o e).1 (I.ok.bs b o e).2 (I.ok.noex b o e)⟩
theorem Inv.bk(I:Inv X pQ σ H s):∀ b o,X.base.get? b=some o->s.heap.get? b=some o:=fun b o e=>(I.bs b o e).1
theorem Inv.mod(I:Inv X pQ σ H s):Mod X.K X.mg X.base:=I.ok.mod
theorem Inv.kIn(I:Inv X pQ σ H s):X.K.In s.heap:=I.ok.mod.kin.keeps I.bk
theorem Inv.lt(I:Inv X pQ σ H s):X.env.locals < s.heap.objs.size:=let ⟨_,hn,_⟩:=I.loc;hn.lt
theorem Inv.sz(I:Inv X pQ σ H s):X.s₀.heap.objs.size<=s.heap.objs.size:=aG I.ok.above (Nat.le_of_lt I.lt)
theorem Inv.nofs(I:Inv X pQ σ H s){a:Ad}(h:s.heap.objs.size<=a):a∉X.fs:=fun hb=>by
  obtain⟨_,o,ho,_⟩:=I.ok.funs.mem hb;exact absurd (aJ (aE ho) (aG I.sz h)) (bD _)
theorem Inv.cne(I:Inv X pQ σ H s):∀ x c,X.env.cells.lookup x=some c->c≠X.env.locals:=fun x c e z=>by
  obtain⟨v,o,ho,hd⟩:=I.cell x c e;obtain⟨m,⟨o',es,ep,ho',hd',_⟩,_⟩:=I.loc;rw[z,ho']at ho;cases ho;rw[hd']at hd;cases hd
theorem Inv.funs(I:Inv X pQ σ H s):s.heap.FunFrames X.base X.outer:=by
  have all:∀ (l:Li Env),(∀ b∈frs l,b∈X.fs)->X.s₀.heap.FunFrames X.base l->s.heap.FunFrames X.base l:=by
    intro l
    induction l with
    |nil=>intro _ _;trivial
    |cons env r ih=>
      intro hs hl;obtain⟨hk,⟨L,o,hf,hn,ho,hd⟩,hr⟩:=hl;have hL:L∈X.fs:=hs L (by unfold frs;rw[dM,hf];exact Ls)
      obtain⟨sl,e⟩:=I.base.slot L o ho (I.ok.frf L hL) hL fun z=>I.ok.exfs L z hL
      exact⟨hk,⟨L,_,hf,hn,e,hd⟩,ih (fun b hb=>hs b (by unfold frs;rw[dM,hf];exact Lm _ hb)) hr⟩
  exact all X.outer (fun _ hb=>hb) I.ok.funs

theorem Inv.stack(I:Inv X pQ σ H s):s.heap.FunFrames X.base X.stack:=by
  rcases I.ok.stk with e|⟨e,hf⟩
  · rw[e];exact I.funs
  · rw[e]
    obtain⟨m,hn,_⟩:=I.loc;refine .cons (by rw[I.ok.kind];decide) hf hn ?_ I.funs
    exact Heap.get?_none_of_le (aG I.ok.bsz I.ok.above)
theorem Inv.stkSub(I:Inv X pQ σ H s):∀ b∈frs X.stack,b∈X.env.locals :: X.fs:=fun b hb=>by
  rcases I.ok.stk with e|⟨e,hf⟩
  · rw[e]at hb;exact Lm _ hb
  · rw[e]at hb
    unfold frs at hb;rw[dM,hf]at hb;exact hb
theorem Inv.stkFree(I:Inv X pQ σ H s):∀ b∈frs X.stack,H b=none:=fun b hb=>by
  rcases aM.mp (I.stkSub b hb) with e|hb
  · rw[e];exact I.free
  · obtain⟨_,o,ho,_⟩:=I.ok.funs.mem hb
    exact I.base.free b o ho (I.ok.frf b hb) fun z=>I.ok.exfs b z hb

theorem Inv.step{ch:Li Ad}(I:Inv X pQ σ H s)(hch:∀ b∈ch,(b∈X.ex\/X.s₀.heap.objs.size<=b)/\b≠X.env.locals/\(∀ x c,X.env.cells.lookup x=some c->c≠b)/\∀ p∈X.pn++pQ,p.1≠b)(keep:∀ b o,b≠X.env.locals->b∉X.fs->b∉ch->s.heap.get? b=some o->H b=none->h'.get? b=some o)(slot:∀ b o,b≠X.env.locals->b∈X.fs->b∉ch->s.heap.get? b=some o->H b=none->∃ sl,h'.get? b=some { o with slots:=sl })(free:∀ b o,b∉ch->s.heap.get? b=some o->H b=none->H' b=none)(there:∀ b o,b∉ch->s.heap.get? b=some o->∃ o',h'.get? b=some o')(tups:∀ b xs,H b=some (.tup xs)->H' b=some (.tup xs))(frzs:∀ b o u,H b=some (.frz o u)->H' b=some (.frz o u))(tbls:∀ b ps,H b=some (.tbl ps)->∃ more,H' b=some (.tbl (ps++more)))(ns:∀ m,s.heap.Ns X.env.locals m->h'.Ns X.env.locals m)(hok:HOk X.prog X.w H' h')(hg:AllBare g') :
    Inv X pQ σ H' { s with heap:=h',gens:=g',drawn:=d',toks:=t' }:=by
  have neL:∀ b o,X.s₀.heap.get? b=some o->b≠X.env.locals:=fun b o e=>aQ (aJ (aE e) I.ok.above)
  have neC:∀ b o,X.s₀.heap.get? b=some o->b∉X.ex->b∉ch:=fun b o e hx hb=>by
    rcases (hch b hb).1 with z|z
    · exact hx z
    · exact absurd (aJ (aE e) z) (bD _)
  have cellK:∀ x c,X.env.cells.lookup x=some c->∀ v,s.heap.IsCell c v->h'.IsCell c v:=fun x c e v ⟨o,ho,hd⟩=>by
    have nch:c∉ch:=fun z=>(hch c z).2.2.1 x c e rfl
    by_cases hc:c∈X.fs
    · obtain⟨sl,q⟩:=slot c o (I.cne x c e) hc nch ho (I.freeC x c e)
      exact⟨_,q,hd⟩
    · exact⟨o,keep c o (I.cne x c e) hc nch ho (I.freeC x c e),hd⟩
  refine⟨I.ok,I.os,hg,⟨fun b o e n hb hx=>?_,fun b o e n hb hx=>?_,fun b o e n hx=>?_,fun b o e hx=>?_,fun b xs e=>tups b xs (I.base.tups b xs e),fun b o xs e=>frzs b o xs (I.base.frzs b o xs e),fun b ps e=>?_⟩,?_,fun x c e=>?_,?_,fun x c e=>?_,fun p hp=>?_,hok,I.len⟩
  · exact keep b o (neL b o e) hb (neC b o e hx) (I.base.keep b o e n hb hx) (I.base.free b o e n hx)
  · obtain⟨sl,e1⟩:=I.base.slot b o e n hb hx
    obtain⟨sl',e2⟩:=slot b _ (neL b o e) hb (neC b o e hx) e1 (I.base.free b o e n hx);exact⟨sl',e2⟩
  · obtain⟨o',e1⟩:=I.base.there b o e hx
    exact free b o' (neC b o e hx) e1 (I.base.free b o e n hx)
  · obtain⟨o',e1⟩:=I.base.there b o e hx
    exact there b o' (neC b o e hx) e1
  · obtain⟨m1,e1⟩:=I.base.tbls b ps e
    obtain⟨m2,e2⟩:=tbls b _ e1;exact⟨m1++m2,by rw[e2,Array.append_assoc]⟩
  · obtain⟨m,hn,hl⟩:=I.loc
    refine⟨m,ns m hn,fun i x v e1 e2 e3=>?_⟩
    obtain⟨u,r,l⟩:=hl i x v e1 e2 e3;refine⟨u,r,?_⟩;rcases l with l|⟨k,c,e,z⟩
    · exact .inl l
    · exact .inr ⟨k,c,e,cellK x c e _ z⟩
  · obtain⟨v,z⟩:=I.cell x c e
    exact⟨v,cellK x c e v z⟩
  · obtain⟨m,⟨o,_,_,ho,_⟩,_⟩:=I.loc
    exact free _ o (fun z=>(hch _ z).2.1 rfl) ho I.free
  · obtain⟨v,o,ho,hd⟩:=I.cell x c e
    exact free c o (fun z=>(hch c z).2.2.1 x c e rfl) ho (I.freeC x c e)
  · obtain⟨e,n,ne,nf,d⟩:=I.pin p hp
    have nch:p.1∉ch:=fun z=>(hch p.1 z).2.2.2 p hp rfl
    exact⟨keep p.1 p.2 ne nf nch e n,free p.1 p.2 nch e n,ne,nf,d⟩
theorem Inv.un(I:Inv X pQ σ H s)(u:Un X.fs [] H H' s.heap h')(hok:HOk X.prog X.w H' h'):Inv X pQ σ H' { s with heap:=h',toks:=t' }:=by
  obtain⟨m,⟨o,es,ep,ho,r⟩,_⟩:=id I.loc;obtain⟨sl,hL⟩:=u.any ho I.free (by simp)
  exact I.step (g':=s.gens) (d':=s.drawn) (ch:=[]) (fun _ z=>nomatch z) (fun b o _ hb _ e n=>u.keep b o e n hb (by simp)) (fun b o _ hb _ e n=>u.slot b o e n hb (by simp)) (fun b o _ e n=>u.free b o e n (by simp)) (fun b o _ e=>u.there b o e (by simp)) u.tups u.frzs u.tbls (fun m' hm=>by
    obtain⟨o',es',ep',ho',r'⟩:=hm;rw[ho]at ho';cases ho'
    exact⟨_,es',ep',hL,r'⟩) hok I.bare
theorem Inv.call{ch:Li Ad}(I:Inv X pQ σ H s)(u:Un (frs X.stack) ch H H' s.heap h')(hok:HOk X.prog X.w H' h')(hg:AllBare g')(hch:∀ b∈ch,(b∈X.ex\/X.s₀.heap.objs.size<=b)/\b≠X.env.locals/\(∀ x c,X.env.cells.lookup x=some c->c≠b)/\∀ p∈X.pn++pQ,p.1≠b) :
    Inv X pQ σ H' { s with heap:=h',gens:=g',drawn:=d',toks:=t' }:=by
  obtain⟨m,⟨o,es,ep,ho,r⟩,_⟩:=id I.loc;obtain⟨sl,hL⟩:=u.any ho I.free fun z=>(hch _ z).2.1 rfl
  exact I.step (ch:=ch) hch (fun b o hL hb hc e n=>u.keep b o e n (fun z=>(aM.mp (I.stkSub b z)).elim hL hb) hc) (fun b o _ _ hc e n=>u.any e n hc) (fun b o hc e n=>u.free b o e n hc) (fun b o hc e=>u.there b o e hc) u.tups u.frzs u.tbls (fun m' hm=>by
    obtain⟨o',es',ep',ho',r'⟩:=hm;rw[ho]at ho';cases ho'
    exact⟨_,es',ep',hL,r'⟩) hok hg
theorem Inv.turned{it:Ad}(I:Inv X pQ σ H s)(k:∀ b o,b≠it->s.heap.get? b=some o->h'.get? b=some o)(hn:H it=none)(hL:it≠X.env.locals)(h1:it∈X.ex\/X.s₀.heap.objs.size<=it)(h2:∀ x c,X.env.cells.lookup x=some c->c≠it)(h3:∀ p∈X.pn++pQ,p.1≠it):Inv X pQ σ H { s with heap:=h',toks:=t' }:=by
  have nit:∀ b u,H b=some u->b≠it:=fun b u e z=>by rw[z,hn]at e;cases e
  refine I.step (g':=s.gens) (d':=s.drawn) (ch:=[it]) (fun b hb=>?_) (fun b o _ _ hc e _=>k b o (fun z=>hc (by simp[z])) e) (fun b o _ _ hc e _=>⟨o.slots,k b o (fun z=>hc (by simp[z])) e⟩) (fun _ _ _ _ n=>n)
    (fun b o hc e=>⟨o,k b o (fun z=>hc (by simp[z])) e⟩) (fun _ _ e=>e) (fun _ _ _ e=>e) (fun b ps e=>⟨#[],by rw[e];simp⟩) (fun m hm=>?_) (fun b u e=>?_) I.bare
  · have e:b=it:=by simpa using hb
    subst e;exact⟨h1,hL,h2,h3⟩
  · obtain⟨o,es,ep,ho,r⟩:=hm
    exact⟨o,es,ep,k _ o (Ne.symm hL) ho,r⟩
  · refine(I.hok b u e).stay (fun c v hc q=>k c v ?_ q) (fun _ q=>q) fun _ _ q=>q
    rcases hc with z|z
    · rw[z];exact nit b u e
    · exact nit c _ z
theorem Inv.tok(I:Inv X pQ σ H s)(t:Nat):Inv X pQ σ H { s with toks:=t }:=I.un (h':=s.heap) (t':=t) Un.refl I.hok
theorem Inv.kept{t':Nat}(I:Inv X pQ σ H s)(k:∀ b u,s.heap.get? b=some u->h'.get? b=some u):Inv X pQ σ H { s with heap:=h',toks:=t' }:=I.un (Un.kept k) (I.hok.kept k)
theorem Inv.laid{a:Ad}{o:HO}{t':Nat}(I:Inv X pQ σ H s)(k:∀ b u,s.heap.get? b=some u->h'.get? b=some u)(hp:s.heap.objs.size<=a)(new:ObjOk X.prog X.w (upd H a o) h' a o) :
    Inv X pQ σ (upd H a o) { s with heap:=h',toks:=t' }:=I.un (Un.laid k hp (I.hok.fresh hp)) (I.hok.laid k hp new)
theorem Inv.write{x e:Ad}{o:HO}{t':Nat}(I:Inv X pQ σ H s)(mu:Mut (H x))(he:e=x\/H e=some (.own x))(k:∀ b u,b≠e->s.heap.get? b=some u->h'.get? b=some u)(heo:∃ u,h'.get? e=some u)(new:ObjOk X.prog X.w (upd H x o) h' x o):Inv X pQ σ (upd H x o) { s with heap:=h',toks:=t' }:=I.un (Un.write mu he k heo) (I.hok.write mu he k heo new)
theorem Inv.pins_of{pins':Li (Ad×Obj)}(I:Inv X pQ σ H s)(h:∀ p∈pins',s.heap.get? p.1=some p.2/\H p.1=none/\p.1≠X.env.locals/\p.1∉X.fs/\∀ v,p.2.data≠.cell v):Inv X pins' σ H s:=
  ⟨I.ok,I.os,I.bare,I.base,I.loc,I.cell,I.free,I.freeC,fun p hp=>(bM.mp hp).elim (fun z=>I.pin p (List.mem_append_left _ z)) (h p),I.hok,I.len⟩

theorem nodup_ix(hN:N.Nodup){j:Nat}{x:Str}(a:N[i]?=some x)(b:N[j]?=some x):i=j:=by
  obtain⟨h1,e1⟩:=bE.mp a;obtain⟨h2,e2⟩:=bE.mp b;exact(List.getElem_inj hN).mp (e1.trans e2.symm)

theorem store_ok2{M:Model}{A:Around}{E:vL->Sd->Prop}{x:Str}{v:V}{u:vL}{Q:Unit->Sd->Prop}(I:Inv X pQ σ H s)(hN:X.N.Nodup)(hi:X.N[i]?=some x)(hx:Loc X.env.scope x)(r:RelV v u)(h:∀ s',Inv X pQ (σ.set i (some v)) H s'->(∃ a,Heap.SameBut a s.heap s'.heap/\(a=X.env.locals\/X.env.cells.lookup x=some a))->Q () s')(hf:X.fn x=true\/X.env.scope.names.lookup x=some .local:=by first|exact .inl rfl|exact .inr rfl|assumption):wpAny M A (storeName X.env x u) Q E s:=by
  obtain⟨m,hn,hl⟩:=id I.loc;have hcls:(X.env.scope.kind==.class||(X.env.scope.kind==.module&&X.env.locals != X.env.globals))=false:=by rw[I.ok.kind];rfl
  have hiσ:i < σ.length:=by rw[I.len];exact(bE.mp hi).1
  have cne:=I.cne;have tracked:∀ {a:Ad}{h':Heap},(∃ o,s.heap.get? a=some o/\H a=none)->Heap.SameBut a s.heap h'->HOk X.prog X.w H h':=fun {a h'} ha hs b ob e=>by
    obtain⟨_,_,hfree⟩:=ha;refine(I.hok b ob e).stay (fun c w' hc q=>(hs.2 c ?_).trans q) (fun _ q=>q) fun _ _ q=>q
    rintro rfl
    rcases hc with rfl|hc
    · rw[hfree]at e;cases e
    · rw[hfree]at hc;cases hc
  rcases hx with hk|hk
  · refine wpAny_storeName_local hk hn (fun h' hn' hs=>?_) hcls
    obtain⟨oL,_,_,hoL,_⟩:=id hn;refine h _ ⟨I.ok,I.os,I.bare,⟨fun b o e n hb hx=>?_,fun b o e n hb hx=>?_,I.base.free,fun b o e hx=>?_,I.base.tups,I.base.frzs,I.base.tbls⟩,⟨_,hn',fun j y v' e1 e2 e3=>?_⟩,fun y c e=>?_,I.free,I.freeC,fun p hp=>?_,tracked ⟨oL,hoL,I.free⟩ hs,by simpa using I.len⟩ ⟨_,hs,.inl rfl⟩
    · exact(hs.2 b (aQ (aJ (aE e) I.ok.above))).trans (I.base.keep b o e n hb hx)
    · obtain⟨sl,e1⟩:=I.base.slot b o e n hb hx
      exact⟨sl,(hs.2 b (aQ (aJ (aE e) I.ok.above))).trans e1⟩
    · obtain⟨o',e1⟩:=I.base.there b o e hx
      exact⟨o',(hs.2 b (aQ (aJ (aE e) I.ok.above))).trans e1⟩
    · by_cases hj:j=i
      · subst hj
        rw[hi]at e1;cases e1
        rw[bN hiσ]at e2;cases e2;exact⟨u,r,.inl ⟨hk,by simp⟩⟩
      · rw[aR (Ne.symm hj)]at e2
        obtain⟨u',r',q⟩:=hl j y v' e1 e2 e3;refine⟨u',r',?_⟩;rcases q with⟨k,e⟩|⟨k,c,e,z⟩
        · refine .inl ⟨k,?_⟩
          have:y≠x:=fun e=>hj (nodup_ix hN e1 (e ▸ hi))
          simp[this,e]
        · exact .inr ⟨k,c,e,z.sameBut hs (cne y c e)⟩
    · obtain⟨w',z⟩:=I.cell y c e
      exact⟨w',z.sameBut hs (cne y c e)⟩
    · obtain⟨e,n,ne,nf,d⟩:=I.pin p hp
      exact⟨(hs.2 p.1 ne).trans e,n,ne,nf,d⟩
  · have hfn:X.fn x=true:=by
      rcases hf with z|z
      · exact z
      · rw[z]at hk;cases hk
    obtain⟨c,hc⟩:=I.ok.has x (.inl hk);obtain⟨w',z⟩:=I.cell x c hc;refine wpAny_storeName_cell I.ok.kind hk hc z (fun h' hc' hs=>?_)
    obtain⟨oc,hoc,hocd⟩:=id z;refine h { s with heap:=h' } ⟨I.ok,I.os,I.bare,⟨fun b o e n hb hx=>?_,fun b o e n hb hx=>?_,I.base.free,fun b o e hx=>?_,I.base.tups,I.base.frzs,I.base.tbls⟩,⟨m,hn.sameBut hs (Ne.symm (cne x c hc)),fun j y v' e1 e2 e3=>?_⟩,fun y c' e=>?_,I.free,I.freeC,fun p hp=>?_,tracked ⟨oc,hoc,I.freeC x c hc⟩ hs,by simpa using I.len⟩ ⟨c,hs,.inr hc⟩
    · exact(hs.2 b (aQ (aJ (aE e) (I.ok.cab x c hfn hc)))).trans (I.base.keep b o e n hb hx)
    · obtain⟨sl,e1⟩:=I.base.slot b o e n hb hx
      exact⟨sl,(hs.2 b (aQ (aJ (aE e) (I.ok.cab x c hfn hc)))).trans e1⟩
    · obtain⟨o',e1⟩:=I.base.there b o e hx
      exact⟨o',(hs.2 b (aQ (aJ (aE e) (I.ok.cab x c hfn hc)))).trans e1⟩
    · by_cases hj:j=i
      · subst hj
        rw[hi]at e1;cases e1
        rw[bN hiσ]at e2;cases e2;exact⟨u,r,.inr ⟨.inl hk,c,hc,hc'⟩⟩
      · rw[aR (Ne.symm hj)]at e2
        obtain⟨u',r',q⟩:=hl j y v' e1 e2 e3;refine⟨u',r',?_⟩;rcases q with q|⟨k,c',e,z'⟩
        · exact .inl q
        · refine .inr ⟨k,c',e,z'.sameBut hs ?_⟩
          rintro rfl
          exact hj (nodup_ix hN e1 (I.ok.inj _ _ _ e hc ▸ hi))
    · by_cases hcc:c'=c
      · subst hcc;exact⟨_,hc'⟩
      · obtain⟨w2,z2⟩:=I.cell y c' e
        exact⟨w2,z2.sameBut hs hcc⟩
    · obtain⟨e,n,ne,nf,d⟩:=I.pin p hp
      refine⟨(hs.2 p.1 ?_).trans e,n,ne,nf,d⟩;intro q;rw[q,hoc]at e;have q':oc=p.2:=Option.some.inj e;exact d w' (by rw[<-q'];exact hocd)
theorem store_ok{M:Model}{A:Around}{E:vL->Sd->Prop}{x:Str}{v:V}{u:vL}{Q:Unit->Sd->Prop}(I:Inv X pQ σ H s)(hN:X.N.Nodup)(hi:X.N[i]?=some x)(hx:Loc X.env.scope x)(r:RelV v u)(h:∀ s',Inv X pQ (σ.set i (some v)) H s'->Q () s')(hf:X.fn x=true\/X.env.scope.names.lookup x=some .local:=by first|exact .inl rfl|exact .inr rfl|assumption):wpAny M A (storeName X.env x u) Q E s:=
  store_ok2 I hN hi hx r (fun s' I' _=>h s' I') hf
theorem Inv.call'{s':Sd}{ch:Li Ad}(I:Inv X pQ σ H s)(ho:s'.os=s.os)(u:Un (frs X.stack) ch H H' s.heap s'.heap)(hok:HOk X.prog X.w H' s'.heap)(hg:AllBare s'.gens)(hch:∀ b∈ch,(b∈X.ex\/X.s₀.heap.objs.size<=b)/\b≠X.env.locals/\(∀ x c,X.env.cells.lookup x=some c->c≠b)/\∀ p∈X.pn++pQ,p.1≠b):Inv X pQ σ H' s':=by
  obtain⟨h',g',d',t',o'⟩:=s';have e:o'=s.os:=ho;subst e;exact I.call (g':=g') (t':=t') (d':=d') u hok hg hch
end

abbrev XK:=vL->Ot Ad->Hp->Prop
noncomputable abbrev St:=Li (Ot V)
abbrev VK:=V->Hp->Prop
abbrev TE:=St->Hp->VK->Prop
abbrev TT:=St->Hp->(Bool->Hp->Prop)->Prop
abbrev TA:=St->Hp->(Li V->Hp->Prop)->Prop
structure Ends where
  nx:St->Hp->Prop
  rt:VK
  bk:St->Hp->Prop:=fun _ _=>False
  ct:St->Hp->Prop:=fun _ _=>False
abbrev TS:=Ends->St->Hp->Prop

def EP(X:Cx)(pQ:Li (Ad×Obj))(σ:St)(Q:VK)(u:vL)(s':Sd):Prop:=∃ v H',Inv X pQ σ H' s'/\RelV v u/\Q v H'
def TP(X:Cx)(pQ:Li (Ad×Obj))(σ:St)(Q:Bool->Hp->Prop)(b:Bool)(s':Sd):Prop:=∃ H',Inv X pQ σ H' s'/\Q b H'
def AP(X:Cx)(pQ:Li (Ad×Obj))(σ:St)(Q:Li V->Hp->Prop)(us:Li vL)(s':Sd):Prop:=∃ vs H',Inv X pQ σ H' s'/\Vals vs us/\Q vs H'
def SP(X:Cx)(pQ:Li (Ad×Obj))(D:Ends)(f:Flow)(s':Sd):Prop:=
  match f with
  |.next=>∃ σ' H',Inv X pQ σ' H' s'/\D.nx σ' H'
  |.brk=>∃ σ' H',Inv X pQ σ' H' s'/\D.bk σ' H'
  |.cont=>∃ σ' H',Inv X pQ σ' H' s'/\D.ct σ' H'
  |.ret u=>∃ v σ' H',Inv X pQ σ' H' s'/\RelV v u/\D.rt v H'

def PE(X:Cx)(e:Expr)(t:TE):Prop:=
  ∀ (pQ:Li (Ad×Obj)) (s:Sd) (σ:St) (H:Hp) (Q:VK),Inv X pQ σ H s->t σ H Q->wpAny (model X.prog X.w) X.A (eval e X.env) (EP X pQ σ Q) X.xe s
def PT(X:Cx)(e:Expr)(t:TT):Prop:=
  ∀ (pQ:Li (Ad×Obj)) (s:Sd) (σ:St) (H:Hp) (Q:Bool->Hp->Prop),Inv X pQ σ H s->t σ H Q->wpAny (model X.prog X.w) X.A (isTrue e X.env (eval e X.env)) (TP X pQ σ Q) X.xe s
def PW(X:Cx)(e:Expr)(t:TT):Prop:=
  ∀ (whole:Sem vL) (pQ:Li (Ad×Obj)) (s:Sd) (σ:St) (H:Hp) (Q:Bool->Hp->Prop),Inv X pQ σ H s->t σ H Q->wpAny (model X.prog X.w) X.A (isTrue e X.env whole) (TP X pQ σ Q) X.xe s
variable{X:Cx}
theorem PW.pt{e:Expr}{t:TT}(h:PW X e t):PT X e t:=h _
def PA(X:Cx)(es:Li Expr)(t:TA):Prop:=
  ∀ (pos:Pos) (pQ:Li (Ad×Obj)) (s:Sd) (σ:St) (H:Hp) (Q:Li V->Hp->Prop),Inv X pQ σ H s->t σ H Q->wpAny (model X.prog X.w) X.A (spliced (backTo pos (starEach es X.env))) (AP X pQ σ Q) X.xe s
def PS(X:Cx)(st:Stmt)(t:TS):Prop:=
  ∀ (pQ:Li (Ad×Obj)) (s:Sd) (σ:St) (H:Hp) (D:Ends),Inv X pQ σ H s->t D σ H->wpAny (model X.prog X.w) X.A (exec st X.env) (SP X pQ D) X.xe s
def PSs(X:Cx)(st:Li Stmt)(t:TS):Prop:=
  ∀ (pQ:Li (Ad×Obj)) (s:Sd) (σ:St) (H:Hp) (D:Ends),Inv X pQ σ H s->t D σ H->wpAny (model X.prog X.w) X.A (execs st X.env) (SP X pQ D) X.xe s
variable{M:Model}{A:Around}
theorem thn{α:Type}{t:Sem α}{Q Q':α->Sd->Prop}{E:vL->Sd->Prop}{s:Sd}(h:wpAny M A t Q E s)(hQ:∀ a s,Q a s->Q' a s):wpAny M A t Q' E s:=aU h hQ fun _ _ x=>x
variable{pQ:Li (Ad×Obj)}{s:Sd}{Q:vL->Sd->Prop}
section
variable {X:Cx}


noncomputable def tVar(i:Nat):TE:=fun σ H Q=>∃ v,σ[i]?=some (some v)/\Q v H
noncomputable def tC(v:V):TE:=fun _ H Q=>Q v H
theorem pe_var{x:Str}{pos:Pos}(hN:X.N[i]?=some x)(hv:Vis X.env.scope x)(hd:(x==("__debug__":Str))=false:=by decide)(hcd:(x==("__classdict__":Str))=false:=by decide):PE X (.Name x pos) (tVar i):=by
  intro pQ s σ H Q I h;obtain⟨v,e,h⟩:=h;obtain⟨m,hn,hl⟩:=I.loc;obtain⟨u,r,l⟩:=hl i x v hN e hv;have fin:EP X pQ σ Q u s:=⟨v,H,I,r,h⟩;rcases l with⟨hk,hm⟩|⟨hk,c,hc,hcell⟩
  · exact wpAny_Name (wpAny_loadName_local I.ok.kind hk hn hm fin) hd
  · rcases hk with hk|hk
    · exact wpAny_Name (wpAny_loadName_cell I.ok.kind hk hc hcell fin) hd
    · exact wpAny_Name (wpAny_loadName_free I.ok.kind hk hc hcell fin hcd) hd
theorem pe_int{i j pos}:PE X (.Constant (.int i) j pos) (tC (.int i)):=fun _ _ _ H _ I h=>wpAny_Constant_int ⟨.int i,H,I.tok _,⟨_,rfl⟩,h⟩
theorem pe_bl{b j pos}:PE X (.Constant (.bool b) j pos) (tC (.bl b)):=fun _ _ _ H _ I h=>Constant_bool ⟨.bl b,H,I,rfl,h⟩
theorem pe_non{j pos}:PE X (.Constant .none j pos) (tC .non):=fun _ _ _ H _ I h=>Constant_none ⟨.non,H,I,rfl,h⟩
theorem pe_str{x j pos}:PE X (.Constant (.str x) j pos) (tC (.str x)):=fun _ _ _ H _ I h=>Calls.Constant_str ⟨.str x,H,I.tok _,⟨_,rfl⟩,h⟩

def Gl(X:Cx)(x:Str):Prop:=X.env.kindOf x=some .globalImplicit
theorem ld_glob{E:vL->Sd->Prop}{σ:St}{x:Str}{u:vL}{pos:Pos}(I:Inv X pQ σ H s)(hg:Gl X x)(hm:X.mg x=some u)(h:Q u s)(hd:(x==("__debug__":Str))=false:=by decide):wpAny (model X.prog X.w) X.A (eval (.Name x pos) X.env) Q E s:=
  Calls.Name_function_global I.ok.kind hg (Calls.loadGlobal_global (by rw[I.ok.glob];exact I.mod.glob.keeps I.bk) hm h) hd
theorem ld_blt{E:vL->Sd->Prop}{σ:St}{x:Str}{u:vL}{pos:Pos}(I:Inv X pQ σ H s)(hg:Gl X x)(hm:X.mg x=none)(hv:bootBuiltins x=some u)(h:Q u s)(hn:x ≠ "__name__":=by decide)(hd:(x==("__debug__":Str))=false:=by decide):wpAny (model X.prog X.w) X.A (eval (.Name x pos) X.env) Q E s:=by
  obtain⟨mb,h1,h2⟩:=I.mod.blt;exact Calls.Name_function_global I.ok.kind hg (Calls.loadGlobal_builtin (by rw[I.ok.glob];exact I.mod.glob.keeps I.bk) hm (by rw[I.ok.blt];exact h1.keeps I.bk) ((h2 x hn).trans hv) h) hd
theorem pe_glob{x:Str}{v:V}{u:vL}{pos:Pos}(hg:Gl X x)(hm:X.mg x=some u)(r:RelV v u)(hd:(x==("__debug__":Str))=false:=by decide):PE X (.Name x pos) (tC v):=
  fun _ _ _ H _ I h=>ld_glob I hg hm ⟨v,H,I,r,h⟩ hd
theorem pe_bltn{x:Str}{v:V}{u:vL}{pos:Pos}(hg:Gl X x)(hm:X.mg x=none)(hv:bootBuiltins x=some u)(r:RelV v u)(hn:x ≠ "__name__":=by decide)(hd:(x==("__debug__":Str))=false:=by decide):PE X (.Name x pos) (tC v):=
  fun _ _ _ H _ I h=>ld_blt I hg hm hv ⟨v,H,I,r,h⟩ hn hd

variable {a b:Expr}{ta tb:TE}{pos:Pos}

def PC(X:Cx)(op:CmpOp)(a b:Expr)(t:TE):Prop:=
  ∀ (pQ:Li (Ad×Obj)) (s:Sd) (σ:St) (H:Hp) (Q:VK),Inv X pQ σ H s->t σ H Q->
    wpAny (model X.prog X.w) X.A (eval a X.env) (fun v s₁=>wpAny (model X.prog X.w) X.A (eval b X.env) (fun u s₂=>wpAny (model X.prog X.w) X.A (compareOp op v u) (EP X pQ σ Q) X.xe s₂) X.xe s₁) X.xe s
noncomputable def tB(t:TE):TT:=fun σ H Q=>t σ H fun x H1=>∃ c,x=.bl c/\Q c H1
theorem pt_val{e:Expr}{t:TE}(h:PE X e t)(he:∀ whole,isTrue e X.env whole=(do let v <-whole;standAt e.pos;holding [v] (truthy v)):=by intro _;rfl):PT X e (tB t):=by
  intro pQ s σ H Q I hw;refine isTrue_plain (thn (h pQ s σ H _ I hw) fun v s1 ⟨x,H1,I1,r1,q1⟩=>?_) (he _)
  obtain⟨d,rfl,q⟩:=q1;cases r1;exact wpAny_truthy_bool ⟨H1,I1,q⟩

variable {tA tB':TT}{rest:Li Expr}
noncomputable def tAnd(t u:TT):TT:=fun σ H Q=>t σ H fun c H1=>if c=true then u σ H1 Q else Q false H1
noncomputable def tOr(t u:TT):TT:=fun σ H Q=>t σ H fun c H1=>if c=true then Q true H1 else u σ H1 Q
noncomputable def tNot(t:TT):TT:=fun σ H Q=>t σ H fun c H1=>Q (!c) H1
theorem pw_and1(ha:PT X a tA):PW X (.BoolOp .And [a] pos) tA:=by
  intro wh pQ s σ H Q I h;refine isTrue_and (thn (ha pQ s σ H Q I h) fun c s1 e=>?_)
  cases c with
  |true=>exact isTrue_and_nil e
  |false=>exact e
theorem pw_or1(ha:PT X a tA):PW X (.BoolOp .Or [a] pos) tA:=by
  intro wh pQ s σ H Q I h;refine isTrue_or (thn (ha pQ s σ H Q I h) fun c s1 e=>?_)
  cases c with
  |false=>exact isTrue_or_nil e
  |true=>exact e
theorem pw_and(ha:PT X a tA)(hb:PW X (.BoolOp .And (b :: rest) pos) tB'):PW X (.BoolOp .And (a :: b :: rest) pos) (tAnd tA tB'):=by
  intro wh pQ s σ H Q I h;refine isTrue_and (thn (ha pQ s σ H _ I h) fun c s1 ⟨H1,I1,q1⟩=>?_)
  cases c with
  |true=>exact hb wh pQ s1 σ H1 Q I1 q1
  |false=>exact⟨H1,I1,q1⟩
theorem pw_or(ha:PT X a tA)(hb:PW X (.BoolOp .Or (b :: rest) pos) tB'):PW X (.BoolOp .Or (a :: b :: rest) pos) (tOr tA tB'):=by
  intro wh pQ s σ H Q I h;refine isTrue_or (thn (ha pQ s σ H _ I h) fun c s1 ⟨H1,I1,q1⟩=>?_)
  cases c with
  |true=>exact⟨H1,I1,q1⟩
  |false=>exact hb wh pQ s1 σ H1 Q I1 q1
theorem pt_not(ha:PT X a tA):PT X (.UnaryOp .Not a pos) (tNot tA):=by
  intro pQ s σ H Q I h;exact isTrue_not (ha pQ s σ H (fun c H1=>Q (!c) H1) I h)
noncomputable def tAndV(ta tb:TE):TE:=fun σ H Q=>ta σ H fun x H1=>∃ c,x=.bl c/\if c=true then tb σ H1 Q else Q (.bl false) H1
noncomputable def tOrV(ta tb:TE):TE:=fun σ H Q=>ta σ H fun x H1=>∃ c,x=.bl c/\if c=true then Q (.bl true) H1 else tb σ H1 Q
noncomputable def tNotV(ta:TE):TE:=fun σ H Q=>ta σ H fun x H1=>∃ c,x=.bl c/\Q (.bl (!c)) H1
theorem pe_one{op}{t:TE}(h:PE X a t):PE X (.BoolOp op [a] pos) t:=fun pQ s σ H Q I hw=>BoolOp_one (h pQ s σ H Q I hw)
theorem pe_and(ha:PE X a ta)(hb:PE X (.BoolOp .And (b :: rest) pos) tb):PE X (.BoolOp .And (a :: b :: rest) pos) (tAndV ta tb):=by
  intro pQ s σ H Q I h;refine BoolOp_and (thn (ha pQ s σ H _ I h) fun v s1 ⟨x,H1,I1,r1,q1⟩=>?_)
  obtain⟨c,rfl,q1⟩:=q1;cases r1;refine wpAny_truthy_bool ?_;cases c with
  |true=>exact hb pQ s1 σ H1 Q I1 q1
  |false=>exact⟨.bl false,H1,I1,rfl,q1⟩
theorem pe_or(ha:PE X a ta)(hb:PE X (.BoolOp .Or (b :: rest) pos) tb):PE X (.BoolOp .Or (a :: b :: rest) pos) (tOrV ta tb):=by
  intro pQ s σ H Q I h;refine BoolOp_or (thn (ha pQ s σ H _ I h) fun v s1 ⟨x,H1,I1,r1,q1⟩=>?_)
  obtain⟨c,rfl,q1⟩:=q1;cases r1;refine wpAny_truthy_bool ?_;cases c with
  |false=>exact hb pQ s1 σ H1 Q I1 q1
  |true=>exact⟨.bl true,H1,I1,rfl,q1⟩
theorem pe_not(ha:PE X a ta):PE X (.UnaryOp .Not a pos) (tNotV ta):=by
  intro pQ s σ H Q I h;refine UnaryOp_ (thn (ha pQ s σ H _ I h) fun v s1 ⟨x,H1,I1,r1,q1⟩=>?_)
  obtain⟨c,rfl,q1⟩:=q1;cases r1;exact not_of (wpAny_truthy_bool ⟨.bl (!c),H1,I1,rfl,q1⟩)
noncomputable def tIf(t:TT)(ta tb:TE):TE:=fun σ H Q=>t σ H fun c H1=>if c=true then ta σ H1 Q else tb σ H1 Q
theorem pe_ifExp{c:Expr}(hc:PT X c tA)(ha:PE X a ta)(hb:PE X b tb):PE X (.IfExp c a b pos) (tIf tA ta tb):=by
  intro pQ s σ H Q I h;refine wpAny_IfExp (thn (hc pQ s σ H _ I h) fun d s1 ⟨H1,I1,q1⟩=>?_)
  cases d with
  |true=>exact ha pQ s1 σ H1 Q I1 q1
  |false=>exact hb pQ s1 σ H1 Q I1 q1
end
def SqL(K:Fg)(H:Hp)(a:Ad)(xs:Li V):Prop:=
  Rd H a (.lst xs) \/
    ∃ (o:Obj) (its:Array vL) (n:Nat),K.lookup a=some o/\o.cls=.type "list"/\o.dict=none/\o.data=.seq its n/\its.size<=sizeLine/\Vals xs its.toList
def SqT(K:Fg)(H:Hp)(a:Ad)(xs:Li V):Prop:=
  Rd H a (.tup xs) \/
    ∃ (o:Obj) (its:Array vL) (n:Nat),K.lookup a=some o/\o.cls=.type "tuple"/\o.data=.seq its n/\its.size<=sizeLine/\Vals xs its.toList
noncomputable def absV:vL->Ot V
  |.none=>some .non
  |.bool b=>some (.bl b)
  |.int i _=>some (.int i)
  |.str x _=>some (.str x)
  |.bytes b _=>some (.byt b)
  |.float b _=>some (.flt b)
  |.ref a=>some (.ref a)
  |.type n=>some (.ty n)
  |_=>none
theorem RelV.abs{x:V}{u:vL}(r:RelV x u):absV u=some x:=by
  cases x with
  |non=>cases r;rfl
  |bl _=>cases r;rfl
  |int _=>obtain⟨t,rfl⟩:=r;rfl
  |str _=>obtain⟨t,rfl⟩:=r;rfl
  |byt _=>obtain⟨t,rfl⟩:=r;rfl
  |flt _=>obtain⟨t,rfl⟩:=r;rfl
  |ref _=>cases r;rfl
  |ty _=>cases r;rfl
variable{y:V}
theorem RelV.inj{x:V}{u:vL}(r:RelV x u)(q:RelV y u):x=y:=Option.some.inj (r.abs.symm.trans q.abs)
theorem Vals.inj:∀ {xs ys:Li V}{us:Li vL},Vals xs us->Vals ys us->xs=ys
  |_,_,_,.nil,.nil=>rfl
  |_,_,_,.cons r t,.cons r' t'=>by rw[r.inj r',Vals.inj t t']
variable{K:Fg}
section
variable {X:Cx}{pQ:Li (Ad×Obj)}{σ:St}{H:Hp}{s:Sd}{a:Ad}{xs ys:Li V}
theorem SqT.of(h:H a=some (.tup xs)):SqT K H a xs:=.inl (.inl h)
theorem Inv.list(I:Inv X pQ σ H s)(h:SqL X.K H a xs):∃ its:Li vL,Vals xs its/\PlainL s.heap a its.toArray/\xs.length<=sizeLine:=by
  rcases h with h|⟨o,its,n,hk,hc,hd,hs,hz,r⟩
  · obtain⟨z,its,n,r,e⟩:=h.ok I.hok
    exact⟨its,r,⟨_,n,e,rfl,rfl,rfl⟩,z⟩
  · refine⟨its.toList,r,⟨o,n,I.kIn a o hk,hc,hd,by simpa using hs⟩,?_⟩
    have e:=r.length;simp only[aZ]at e;omega
theorem Inv.tuple(I:Inv X pQ σ H s)(h:SqT X.K H a xs):∃ its:Li vL,Vals xs its/\IsTup s.heap a its.toArray/\xs.length<=sizeLine:=by
  rcases h with h|⟨o,its,n,hk,hc,hs,hz,r⟩
  · obtain⟨z,its,r,p⟩:=h.ok I.hok
    exact⟨its,r,p,z⟩
  · refine⟨its.toList,r,⟨o,I.kIn a o hk,hc,n,by simpa using hs⟩,?_⟩
    have e:=r.length;simp only[aZ]at e;omega
theorem Inv.list_inj(I:Inv X pQ σ H s)(h:SqL X.K H a xs)(h':SqL X.K H a ys):xs=ys:=by
  obtain⟨its,r,⟨o,n,e,_,_,d⟩,_⟩:=I.list h;obtain⟨its',r',⟨o',n',e',_,_,d'⟩,_⟩:=I.list h';rw[e]at e';cases e'
  rw[d]at d'
  injection d' with d1 _
  have:its=its':=by simpa using congrArg Array.toList d1
  subst this;exact r.inj r'
theorem Inv.tuple_inj(I:Inv X pQ σ H s)(h:SqT X.K H a xs)(h':SqT X.K H a ys):xs=ys:=by
  obtain⟨its,r,⟨o,e,_,n,d⟩,_⟩:=I.tuple h;obtain⟨its',r',⟨o',e',_,n',d'⟩,_⟩:=I.tuple h';rw[e]at e';cases e'
  rw[d]at d'
  injection d' with d1 _
  have:its=its':=by simpa using congrArg Array.toList d1
  subst this;exact r.inj r'
end

noncomputable abbrev Cx.wish(X:Cx)(E:vL->Sd->Prop):Cx:={ X with xe:=E }
noncomputable abbrev Cx.nox(X:Cx):Cx:=X.wish fun _ _=>False
theorem Cx.Ok.wish(ok:X.Ok)(E:vL->Sd->Prop):(X.wish E).Ok:=
  ⟨ok.mod,ok.kind,ok.glob,ok.blt,ok.above,ok.inj,ok.has,ok.cab,ok.hd,ok.frames,ok.stk,ok.exf,ok.bs,ok.bsz,ok.noex,ok.exfs,ok.funs,ok.frf⟩
theorem Cx.Ok.unwish{E:vL->Sd->Prop}(ok:(X.wish E).Ok):X.Ok:=
  ⟨ok.mod,ok.kind,ok.glob,ok.blt,ok.above,ok.inj,ok.has,ok.cab,ok.hd,ok.frames,ok.stk,ok.exf,ok.bs,ok.bsz,ok.noex,ok.exfs,ok.funs,ok.frf⟩
section
variable {X:Cx}{pQ:Li (Ad×Obj)}{σ:St}{H:Hp}{s:Sd}{E:vL->Sd->Prop}
theorem Inv.wish(I:Inv X pQ σ H s)(E:vL->Sd->Prop):Inv (X.wish E) pQ σ H s:=⟨I.ok.wish E,I.os,I.bare,I.base,I.loc,I.cell,I.free,I.freeC,I.pin,I.hok,I.len⟩
theorem Inv.unwish(I:Inv (X.wish E) pQ σ H s):Inv X pQ σ H s:=⟨I.ok.unwish,I.os,I.bare,I.base,I.loc,I.cell,I.free,I.freeC,I.pin,I.hok,I.len⟩
theorem SP.unwish{D:Ends}{f:Flow}{s':Sd}(h:SP (X.wish E) pQ D f s'):SP X pQ D f s':=by
  cases f with
  |next=>obtain⟨σ',H',I,q⟩:=h;exact⟨σ',H',I.unwish,q⟩
  |brk=>obtain⟨σ',H',I,q⟩:=h;exact⟨σ',H',I.unwish,q⟩
  |cont=>obtain⟨σ',H',I,q⟩:=h;exact⟨σ',H',I.unwish,q⟩
  |ret u=>obtain⟨v,σ',H',I,r,q⟩:=h;exact⟨v,σ',H',I.unwish,r,q⟩
end

section
variable {X:Cx}{st:Stmt}{rest:Li Stmt}{t u:TS}{e:Expr}{te:TE}{pos:Pos}
noncomputable def tNext:TS:=fun D σ H=>D.nx σ H
noncomputable def tSeq(t u:TS):TS:=fun D σ H=>t { D with nx:=u D } σ H
theorem pss_nil:PSs X [] tNext:=fun _ _ σ H _ I h=>wpAny_execs_nil ⟨σ,H,I,h⟩
theorem pss_cons(h1:PS X st t)(h2:PSs X rest u):PSs X (st :: rest) (tSeq t u):=by
  intro pQ s σ H D I h;refine wpAny_execs_cons (thn (h1 pQ s σ H { D with nx:=u D } I h) fun f s1 q=>?_)
  cases f with
  |next=>
    obtain⟨σ',H',I',q⟩:=q;exact h2 pQ s1 σ' H' D I' q
  |ret v=>exact q
  |brk=>exact q
  |cont=>exact q
theorem pss_one(h1:PS X st t):PSs X [st] t:=by
  intro pQ s σ H D I h;refine wpAny_execs_cons (thn (h1 pQ s σ H D I h) fun f s1 q=>?_)
  cases f with
  |next=>exact wpAny_execs_nil q
  |ret v=>exact q
  |brk=>exact q
  |cont=>exact q
noncomputable def tBreak:TS:=fun D σ H=>D.bk σ H
noncomputable def tCont:TS:=fun D σ H=>D.ct σ H
theorem ps_pass:PS X (.Pass pos) tNext:=fun _ _ σ H _ I h=>wpAny_Pass ⟨σ,H,I,h⟩
theorem ps_break:PS X (.Break pos) tBreak:=fun _ _ σ H _ I h=>wpAny_Break ⟨σ,H,I,h⟩
theorem ps_continue:PS X (.Continue pos) tCont:=fun _ _ σ H _ I h=>wpAny_Continue ⟨σ,H,I,h⟩
theorem Inv.quiet{σ:St}(I:Inv X pQ σ H s):interactive X.env=false:=by simp[interactive,I.ok.kind]
noncomputable def tDrop(te:TE):TS:=fun D σ H=>te σ H fun _ H1=>D.nx σ H1
theorem ps_expr(he:PE X e te)(hs:swapsWith e none pos.line X.env=pure false:=by rfl):PS X (.Expr e pos) (tDrop te):=by
  intro pQ s σ H D I h;exact wpAny_Expr_any (thn (he pQ s σ H _ I h) fun v s1 ⟨x,H1,I1,r1,q1⟩=>⟨σ,H1,I1,q1⟩) I.quiet hs
noncomputable def tRet(te:TE):TS:=fun D σ H=>te σ H D.rt
theorem ps_ret(he:PE X e te):PS X (.Return (some e) pos) (tRet te):=by
  intro pQ s σ H D I h;exact wpAny_Return_some (thn (he pQ s σ H _ I h) fun v s1 ⟨x,H1,I1,r1,q1⟩=>⟨x,σ,H1,I1,r1,q1⟩)
noncomputable def tIfS(c:TT)(t u:TS):TS:=fun D σ H=>c σ H fun b H1=>if b=true then t D σ H1 else u D σ H1
theorem ps_if{c:Expr}{a b:Li Stmt}{tc:TT}(hc:PT X c tc)(ha:PSs X a t)(hb:PSs X b u):PS X (.If c a b pos) (tIfS tc t u):=by
  intro pQ s σ H D I h;refine wpAny_If (thn (hc pQ s σ H _ I h) fun d s1 ⟨H1,I1,q1⟩=>?_)
  cases d with
  |true=>exact ha pQ s1 σ H1 D I1 q1
  |false=>exact hb pQ s1 σ H1 D I1 q1
end

abbrev TG:=V->St->Hp->(St->Hp->Prop)->Prop
abbrev TGs:=Li V->St->Hp->(St->Hp->Prop)->Prop
def PG(X:Cx)(target:Expr)(t:TG):Prop:=
  ∀ (pQ:Li (Ad×Obj)) (s:Sd) (σ:St) (H:Hp) (v:V) (u:vL) (Q:St->Hp->Prop),Inv X pQ σ H s->RelV v u->t v σ H Q->
    wpAny (model X.prog X.w) X.A (assign target X.env u) (fun _ s'=>∃ σ' H',Inv X pQ σ' H' s'/\Q σ' H') X.xe s
def PGs(X:Cx)(ts:Li Expr)(t:TGs):Prop:=
  ∀ (pQ:Li (Ad×Obj)) (s:Sd) (σ:St) (H:Hp) (vs:Li V) (us:Li vL) (Q:St->Hp->Prop),Inv X pQ σ H s->Vals vs us->t vs σ H Q->
    wpAny (model X.prog X.w) X.A (assignInOrder ((assignEach ts X.env).map (·.2)) us) (fun _ s'=>∃ σ' H',Inv X pQ σ' H' s'/\Q σ' H') X.xe s
abbrev TSet:=V->V->V->Hp->(Hp->Prop)->Prop
def PSet(X:Cx)(t:TSet):Prop:=
  ∀ (pQ:Li (Ad×Obj)) (s:Sd) (σ:St) (H:Hp) (o i v:V) (ov iv u:vL) (Q:Hp->Prop),Inv X pQ σ H s->RelV o ov->RelV i iv->RelV v u->t o i v H Q->
    wpAny (model X.prog X.w) X.A (setItem ov iv u) (fun _ s'=>∃ H',Inv X pQ σ H' s'/\Q H') X.xe s
variable{es:Li Expr}{tg:Expr}
section
variable {X:Cx}{pos:Pos}
noncomputable def gName(i:Nat):TG:=fun v σ H Q=>Q (σ.set i (some v)) H
theorem pg_name{x:Str}(hN:X.N.Nodup)(hi:X.N[i]?=some x)(hx:Loc X.env.scope x)(hf:X.fn x=true\/X.env.scope.names.lookup x=some .local:=by first|exact .inl rfl|exact .inr rfl|assumption):PG X (.Name x pos) (gName i):=by
  intro pQ s σ H v u Q I r h;exact wpAny_assign_Name (store_ok I hN hi hx r (fun s' I'=>⟨_,H,I',h⟩) hf)
noncomputable def gNil:TGs:=fun vs σ H Q=>vs=[]/\Q σ H
noncomputable def gCons(t:TG)(u:TGs):TGs:=fun vs σ H Q=>∃ v r,vs=v :: r/\t v σ H fun σ' H'=>u r σ' H' Q
theorem pgs_nil:PGs X [] gNil:=by
  intro pQ s σ H vs us Q I r h;obtain⟨e,h⟩:=h;subst e;cases r;exact assignInOrder_nil ⟨σ,H,I,h⟩
theorem pgs_cons{e:Expr}{t:TG}{u:TGs}(h1:PG X e t)(h2:PGs X es u)(hs:(assignEach (e :: es) X.env).map (·.2)=assign e X.env :: (assignEach es X.env).map (·.2):=by rfl):PGs X (e :: es) (gCons t u):=by
  intro pQ s σ H vs us Q I r h;obtain⟨v,vr,e1,h⟩:=h;subst e1;cases r with
  |cons r rr=>
    rw[hs];refine assignInOrder_cons (thn (h1 pQ s σ H _ _ _ I r h) fun _ s1 ⟨σ1,H1,I1,q1⟩=>?_)
    exact h2 pQ s1 σ1 H1 _ _ Q I1 rr q1
noncomputable def gTup(K:Fg)(n:Nat)(t:TGs):TG:=fun v σ H Q=>∃ a xs,v=.ref a/\SqT K H a xs/\xs.length=n/\t xs σ H Q
theorem pg_tup{k:Nat}{t:TGs}{n:Nat}(hc:X.calm=true)(h:PGs X es t)(hn:(assignEach es X.env).length=n:=by rfl)(hst:(assignEach es X.env).findIdx? (·.1)=none:=by rfl):PG X (.Tuple es k pos) (gTup X.K n t):=by
  intro pQ s σ H v u Q I r hw;obtain⟨a,xs,e1,hq,hl,hw⟩:=hw;subst e1;cases r;obtain⟨its,rv,ht,hz⟩:=I.tuple hq;refine assign_Tuple_tuple (I.ok.hd hc) ht (by simp[hn,<-hl,rv.length]) hst fun h' hx=>?_
  have I1:Inv X pQ σ H { s with heap:=h' }:=I.kept (t':=s.toks) fun b o e=>hx b o (aQ (aE e)) e
  exact h pQ _ σ H xs _ Q I1 (by simpa using rv) hw
noncomputable def gSub(to ti:TE)(t:TSet):TG:=fun v σ H Q=>to σ H fun o H1=>ti σ H1 fun i H2=>t o i v H2 fun H3=>Q σ H3
theorem pg_sub{o i:Expr}{to ti:TE}{t:TSet}(ho:PE X o to)(hi:PE X i ti)(hs:PSet X t)(ha:∀ v,assign (.Subscript o i pos) X.env v=(do
      let ov <-holding [v] (eval o X.env)
      let iv <-holding [v,ov] (eval i X.env)
      standAt pos
      holding [v,ov,iv] (setItem ov iv v)
      release [v,ov,iv] []):=by intro _;rfl):PG X (.Subscript o i pos) (gSub to ti t):=by
  intro pQ s σ H v u Q I r h;rw[ha];refine aA (wpAny_holding (thn (ho pQ s σ H _ I h) fun ov s1 ⟨x,H1,I1,r1,q1⟩=>?_))
  refine aA (wpAny_holding (thn (hi pQ s1 σ H1 _ I1 q1) fun iv s2 ⟨y,H2,I2,r2,q2⟩=>?_))
  refine aA (wpAny_standAt (aA (wpAny_holding (thn (hs pQ s2 σ H2 x y v ov iv u _ I2 r1 r2 r q2) fun _ s3 ⟨H3,I3,q3⟩=>?_))))
  exact wpAny_release ⟨σ,H3,I3,q3⟩
noncomputable def tAsg(te:TE)(g:TG):TS:=fun D σ H=>te σ H fun x H1=>g x σ H1 D.nx
theorem ps_asg{e:Expr}{te:TE}{g:TG}(he:PE X e te)(hg:PG X tg g)(hs:swapsWithSole [tg] e pos.line X.env=pure false:=by rfl)(hw:swappedStores [tg] e X.env=pure none:=by rfl)(h1:(assignEach [tg] X.env).map (·.2)=[assign tg X.env]:=by rfl):PS X (.Assign [tg] e pos) (tAsg te g):=by
  intro pQ s σ H D I h;refine wpAny_Assign_stores (thn (he pQ s σ H _ I h) fun v s1 ⟨x,H1,I1,r1,q1⟩=>?_) hs hw
  rw[h1];exact thn (hg pQ s1 σ H1 x v _ I1 r1 q1) fun _ s2 q=>q
theorem ps_set{x:Str}{e:Expr}{te:TE}{pos':Pos}(hN:X.N.Nodup)(hi:X.N[i]?=some x)(hx:Loc X.env.scope x)(he:PE X e te)(hs:swapsWith e (some (.Name x pos')) pos.line X.env=pure false:=by rfl)(hf:X.fn x=true\/X.env.scope.names.lookup x=some .local:=by first|exact .inl rfl|exact .inr rfl|assumption) :
    PS X (.Assign [.Name x pos'] e pos) (tAsg te (gName i)):=by
  intro pQ s σ H D I h;refine wpAny_Assign_Name (thn (he pQ s σ H _ I h) fun v s1 ⟨y,H1,I1,r1,q1⟩=>?_) hs
  exact store_ok I1 hN hi hx r1 (fun s2 I2=>⟨_,H1,I2,q1⟩) hf
end

section
variable {X:Cx}{pos:Pos}
end

structure It where
  go:Nat->Hp->Prop
  yld:Nat->Hp->V->Hp->Prop
  stop:Nat->Hp->Prop
def FpOk(X:Cx)(pQ:Li (Ad×Obj))(H:Hp)(b:Ad):Prop:=
  H b=none/\b≠X.env.locals/\b∉X.fs/\(b∈X.ex\/X.s₀.heap.objs.size<=b)/\(∀ x c,X.env.cells.lookup x=some c->c≠b)/\∀ p∈X.pn++pQ,p.1≠b
theorem Inv.fpOk{σ:St}{H':Hp}{b:Ad}(I:Inv X pQ σ H s)(hb:s.heap.objs.size<=b)(hn:H' b=none):FpOk X pQ H' b:=by
  refine⟨hn,Nat.ne_of_gt (aJ I.lt hb),I.nofs hb,.inr (aG I.sz hb),fun x c e z=>?_,fun p hp z=>?_⟩
  · obtain⟨v,q⟩:=I.cell x c e
    exact absurd (aJ q.lt (by rw[z];exact hb)) (bD _)
  · exact absurd (aJ (aE (I.pin p hp).1) (by rw[z];exact hb)) (bD _)
structure Turn(P:Program)(w:World)(K:Fg)(tg:Expr)(J:It)(fp:List Addr)(it:Addr)(tn:Nat->Heap->Prop):Prop where
  mem:it∈fp
  obj:∀ i h,tn i h->∀ b∈fp,∃ o,h.get? b=some o/\∀ v,o.data≠.cell v
  keep:∀ i h h',tn i h->(∀ b∈fp,∀ o,h.get? b=some o->h'.get? b=some o)->tn i h'
  item:∀ (X:Cx),X.prog=P->X.w=w->X.K=K->X.calm=true->∀ (i:Nat) (pQ:List (Addr×Obj)) (s:Shared) (σ:St) (H:Hp) (E:Value->Shared->Prop),Inv X pQ σ H s->(∀ b∈fp,FpOk X pQ H b)->tn i s.heap->J.go i H->
    wpAny (model P w) X.A (pyNext (.ref it)) (fun r s1=>∃ u,r=some u /\
      wpAny (model P w) X.A (letOwnedTupleGo tg (.ref it) u) (fun _ s2=>∃ x H',Inv X pQ σ H' s2/\RelV x u/\J.yld i H x H'/\tn (i+1) s2.heap/\∀ b∈fp,H' b=none) E s1) E s
  done:∀ (X:Cx),X.prog=P->X.w=w->X.K=K->X.calm=true->∀ (i:Nat) (pQ:List (Addr×Obj)) (s:Shared) (σ:St) (H:Hp) (E:Value->Shared->Prop),Inv X pQ σ H s->(∀ b∈fp,FpOk X pQ H b)->tn i s.heap->J.stop i H->
    wpAny (model P w) X.A (pyNext (.ref it)) (fun r s1=>r=none/\Inv X pQ σ H s1) E s
  self:∀ (A:Around) (i:Nat) (s:Shared) (Q:Value->Shared->Prop) (E:Value->Shared->Prop),tn i s.heap->Q (.ref it) s->wpAny (model P w) A (pyIter (.ref it)) Q E s
abbrev TI:=St->Hp->(It->Hp->Prop)->Prop
def PIE(X:Cx)(pQ:Li (Ad×Obj))(σ:St)(tg:Expr)(R:It->Hp->Prop)(itv:vL)(s2:Sd):Prop:=
  ∃ (it:Ad) (fp:Li Ad) (tn:Nat->Heap->Prop) (J:It) (H':Hp),itv=.ref it/\Inv X pQ σ H' s2/\Turn X.prog X.w X.K tg J fp it tn/\tn 0 s2.heap/\(∀ b∈fp,FpOk X pQ H' b)/\R J H'
def PI(X:Cx)(tg iter:Expr)(wi:TI):Prop:=
  ∀ (pQ:Li (Ad×Obj)) (s:Sd) (σ:St) (H:Hp) (R:It->Hp->Prop),Inv X pQ σ H s->wi σ H R->
    wpAny (model X.prog X.w) X.A (eval iter X.env) (fun v s1=>wpAny (model X.prog X.w) X.A (pyIter v) (PIE X pQ σ tg R) X.xe s1) X.xe s

theorem go_of{E:vL->Sd->Prop}{it:Ad}{u:vL}{o:Obj}{n:String}{vs:Array vL}{Q:Unit->Sd->Prop}(ho:s.heap.get? it=some o)(hc:o.cls=.type n)(hd:o.data=.fields vs)(hn:["enumerate", "zip", "dict_itemiterator", "dict_reverseitemiterator", "odict_iterator", "itertools.zip_longest", "itertools.pairwise"].contains n=false)(hQ:Q () s):wpAny M A (letOwnedTupleGo tg (.ref it) u) Q E s:=by
  unfold letOwnedTupleGo;cases tg<;>first
    |exact aB hQ
    | (cases u<;>first
        |exact aB hQ
        | (refine aA (wpAny_load ho ?_)
           rw[hc,hd];show wpAny M A (if (["enumerate", "zip", "dict_itemiterator", "dict_reverseitemiterator", "odict_iterator", "itertools.zip_longest", "itertools.pairwise"].contains n&&vs[0]?==some (rawInt _))=true then _ else _) Q E s
           rw[if_neg (by intro h;rw[hn,Bool.false_and]at h;cases h)]
           exact aB hQ))

noncomputable def Itl(K:Fg)(a:Ad):It:=
  ⟨fun i H=>∃ xs x,SqL K H a xs/\xs[i]?=some x,fun i H x H'=>H'=H/\∀ xs,SqL K H a xs->xs[i]?=some x,fun i H=>∃ xs,SqL K H a xs/\xs.length<=i⟩
noncomputable def Itr(lo:Int)(n:Nat):It:=⟨fun i _=>i < n,fun i H x H'=>H'=H/\x=.int (lo+i),fun i _=>n<=i⟩
theorem turn_list{P:Program}(a it:Ad):Turn P w K tg (Itl K a) [it] it (fun i h=>h.IsListIter it a i) where
  mem:=by simp
  obj:=fun i h st b hb=>by
    have e:b=it:=by simpa using hb
    subst e;obtain⟨o,e,c,d⟩:=st;exact⟨o,e,fun v z=>by rw[d]at z;cases z⟩
  keep:=fun i h h' st k=>st.at fun o e=>k it (by simp) o e
  item:=by
    intro X hP hw hK hc i pQ s σ H E I hf st hg;subst hP hw hK;obtain⟨xs,x,hq,hx⟩:=hg;obtain⟨its,rv,p,hz⟩:=I.list hq;obtain⟨u,hu,ru⟩:=rv.get hx;obtain⟨f0,f1,f2,f3,f4,f5⟩:=hf it (by simp)
    refine wpAny_pyNext_list_item st p.isList (x:=u) (by simpa using hu) fun h' st' sb=>?_
    have I1:Inv X pQ σ H { s with heap:=h' }:=I.turned (t':=s.toks) (fun b o hb e=>(sb.2 b hb).trans e) f0 f1 f3 f4 f5
    obtain⟨o,e,c,d⟩:=id st';exact⟨u,rfl,go_of (s:={ s with heap:=h' }) e c d (by decide) ⟨x,H,I1,ru,⟨rfl,fun ys hy=>by rw[I.list_inj hy hq];exact hx⟩,st',fun b hb=>(hf b hb).1⟩⟩
  done:=by
    intro X hP hw hK hc i pQ s σ H E I hf st hg;subst hP hw hK;obtain⟨xs,hq,hx⟩:=hg;obtain⟨its,rv,p,hz⟩:=I.list hq;obtain⟨f0,f1,f2,f3,f4,f5⟩:=hf it (by simp)
    have hl:=rv.length;exact wpAny_pyNext_list_end (I.ok.hd hc) st p.isList (by simp;omega) fun h' eb=>⟨rfl,I.turned (t':=s.toks) (fun b o hb e=>eb b o hb e) f0 f1 f3 f4 f5⟩
  self:=fun _ _ _ _ _ st h=>wpAny_pyIter_listiter st h
theorem turn_range{P:Program}(it:Ad)(lo:Int)(n:Nat):Turn P w K tg (Itr lo n) [it] it (fun i h=>IsRangeIter h it (lo+(i:Nat) * 1) ((n:Int) - (i:Nat)) 1) where
  mem:=by simp
  obj:=fun i h st b hb=>by
    have e:b=it:=by simpa using hb
    subst e;exact⟨_,st,fun v z=>by
      have z':Data.fields _=Data.cell v:=z;cases z'⟩
  keep:=fun i h h' st k=>k it (by simp) _ st
  item:=by
    intro X hP hw hK hc i pQ s σ H E I hf st hg;subst hP hw hK;obtain⟨f0,f1,f2,f3,f4,f5⟩:=hf it (by simp)
    have W:=Walks.range (prog:=X.prog) (w:=X.w) (I.ok.hd hc) it lo 1 n;refine W.item i s _ _ hg st fun v h' tk hv st' kk=>?_
    obtain⟨t,rfl⟩:=hv;have I1:Inv X pQ σ H { s with heap:=h',toks:=tk }:=I.turned (fun b o hb e=>kk b o (by simpa using hb) e) f0 f1 f3 f4 f5
    refine⟨_,rfl,go_of (s:={ s with heap:=h',toks:=tk }) (n := "range_iterator") st' rfl rfl (by decide) ⟨.int (lo+i),H,I1,⟨t,?_⟩,⟨rfl,rfl⟩,st',fun b hb=>(hf b hb).1⟩⟩
    rw[Int.mul_one]
  done:=by
    intro X hP hw hK hc i pQ s σ H E I hf st hg;subst hP hw hK;obtain⟨f0,f1,f2,f3,f4,f5⟩:=hf it (by simp)
    exact wpAny_pyNext_range_end (I.ok.hd hc) st (by have:n<=i:=hg;omega) fun h' eb=>⟨rfl,I.turned (t':=s.toks) (fun b o hb e=>eb b o hb e) f0 f1 f3 f4 f5⟩
  self:=fun _ _ _ _ _ st h=>wpAny_pyIter_rangeiter st h
variable{fp:Li Ad}
section
variable {X:Cx}{tg:Expr}
noncomputable def iList(K:Fg)(tl:TE):TI:=fun σ H R=>tl σ H fun x H1=>∃ a,x=.ref a/\(∃ xs,SqL K H1 a xs)/\R (Itl K a) H1
theorem pi_list{l:Expr}{tl:TE}(hl:PE X l tl):PI X tg l (iList X.K tl):=by
  intro pQ s σ H R I h;refine thn (hl pQ s σ H _ I h) fun v s1 ⟨x,H1,I1,r1,q1⟩=>?_
  obtain⟨a,e,⟨xs,hq⟩,q⟩:=q1;subst e;cases r1;obtain⟨its,rv,p,hz⟩:=I1.list hq;refine wpAny_pyIter_list p.isList ?_;refine⟨s1.heap.objs.size,[s1.heap.objs.size],_,_,H1,rfl,I1.kept (t':=s1.toks) fun b o e=>aH _ e,turn_list a _,⟨_,aS _ rfl,rfl,rfl⟩,fun b hb=>?_,q⟩
  have e:b=s1.heap.objs.size:=by simpa using hb
  subst e;exact I1.fpOk (aD _) (I1.hok.fresh (aD _))
theorem range_it{σ:St}{R:It->Hp->Prop}{E:vL->Sd->Prop}{lo hi:Int}{t u v:Tok}{tk:Nat}(I:Inv X pQ σ H s)(h1:-(2 ^ 62)<=lo)(h2:lo < 2 ^ 62)(h3:-(2 ^ 62)<=hi)(h4:hi < 2 ^ 62)(q:R (Itr lo (hi - lo).toNat) H):wpAny (model X.prog X.w) X.A (pyIter (.ref s.heap.objs.size)) (PIE X pQ σ tg R) E { s with heap:=s.heap.push { cls:=.type "range",data:=.fields #[.int lo t,.int hi u,.int 1 v] },toks:=tk }:=by
  refine wpAny_pyIter_range (IsRange.new ..) (small_one h1 h2 h3 h4) ?_;have I1:Inv X pQ σ H { s with heap:=s.heap.push { cls:=.type "range",data:=.fields #[.int lo t,.int hi u,.int 1 v] },toks:=tk }:=I.kept fun b o e=>aH _ e
  refine⟨(s.heap.push { cls:=.type "range",data:=.fields #[.int lo t,.int hi u,.int 1 v] }).objs.size,[(s.heap.push { cls:=.type "range",data:=.fields #[.int lo t,.int hi u,.int 1 v] }).objs.size],_,_,H,rfl,
    I1.kept (t':=tk) fun b o e=>aH _ e,turn_range _ lo (hi - lo).toNat,?_,fun b hb=>?_,q⟩
  · have e1:lo+((0:Nat):Int) * 1=lo:=by simp
    have e2:(((hi - lo).toNat:Nat):Int) - ((0:Nat):Int)=Builtin.Range.rangeSize lo hi 1:=by rw[rangeSize_one];split<;>omega
    show IsRangeIter _ _ (lo+((0:Nat):Int) * 1) ((((hi - lo).toNat:Nat):Int) - ((0:Nat):Int)) 1;rw[e1,e2];exact aS _ rfl
  · have e:b=(s.heap.push { cls:=.type "range",data:=.fields #[.int lo t,.int hi u,.int 1 v] }).objs.size:=by simpa using hb
    subst e;exact I1.fpOk (aD _) (I1.hok.fresh (aD _))
noncomputable def iRng1(ta:TA):TI:=fun σ H R=>ta σ H fun vs H1=>∃ j:Int,vs=[.int j]/\-(2 ^ 62)<=j/\j < 2 ^ 62/\R (Itr 0 j.toNat) H1
noncomputable def iRng2(ta:TA):TI:=fun σ H R=>ta σ H fun vs H1=>∃ i j:Int,vs=[.int i,.int j]/\(-(2 ^ 62)<=i/\i < 2 ^ 62/\-(2 ^ 62)<=j/\j < 2 ^ 62)/\R (Itr i (j - i).toNat) H1
theorem pi_range1{a:Expr}{ta:TA}{p pos:Pos}(hg:Gl X "range")(hm:X.mg "range"=none)(ha:PA X [a] ta)(hs:starEach [a] X.env=[(false,eval a X.env)]:=by rfl):PI X tg (.Call (.Name "range" p) [a] [] pos) (iRng1 ta):=by
  intro pQ s σ H R I h;refine Call_ (ld_blt I hg hm boot_range (PyProof.Rows.callWith_type1 (thn (ha pos pQ s σ H _ I h) fun us s1 ⟨vs,H1,I1,r1,q1⟩=>?_) hs rfl))
  obtain⟨j,e,q1,q2,q⟩:=q1;subst e;cases r1 with
  |cons r rr=>
    cases rr;obtain⟨t,rfl⟩:=r;exact call_range_1 (range_it I1 (by omega) (by omega) q1 q2 (by simpa using q))
theorem pi_range2{a b:Expr}{ta:TA}{p pos:Pos}(hg:Gl X "range")(hm:X.mg "range"=none)(ha:PA X [a,b] ta)(hs:starEach [a,b] X.env=[(false,eval a X.env),(false,eval b X.env)]:=by rfl)(hs2:starEach [b] X.env=[(false,eval b X.env)]:=by rfl) :
    PI X tg (.Call (.Name "range" p) [a,b] [] pos) (iRng2 ta):=by
  intro pQ s σ H R I h;refine Call_ (ld_blt I hg hm boot_range (PyProof.Rows.callWith_type1 (thn (ha pos pQ s σ H _ I h) fun us s1 ⟨vs,H1,I1,r1,q1⟩=>?_) (by rw[hs,hs2]) (by rw[hs2];rfl)))
  obtain⟨i,j,e,⟨q1,q2,q3,q4⟩,q⟩:=q1;subst e;cases r1 with
  |cons r rr=>
    cases rr with
    |cons r' rr=>
      cases rr;obtain⟨t,rfl⟩:=r;obtain⟨t',rfl⟩:=r';exact call_range_2 (range_it I1 q1 q2 q3 q4 q)

noncomputable def tFor(wi:TI)(g:TG)(tb:TS):TS:=fun D σ H=>wi σ H fun J H1=>∃ W:Nat->Nat->St->Hp->Prop,(∃ m,W 0 m σ H1)/\∀ i m σ H,W i m σ H->
  (J.stop i H/\D.nx σ H)\/(J.go i H/\∃ N:St->Hp->Prop,(∀ σ' H',N σ' H'->∃ m',m' < m/\W (i+1) m' σ' H')/\∀ x H',J.yld i H x H'->g x σ H' fun σ2 H2=>tb { D with nx:=N,ct:=N,bk:=D.nx } σ2 H2)
noncomputable def pinsAt(fp:Li Ad)(h:Heap):Li (Ad×Obj):=fp.filterMap fun b=>(h.get? b).map fun o=>(b,o)
theorem mem_pinsAt{b:Ad}{o:Obj}(hb:b∈fp)(e:h.get? b=some o):(b,o)∈pinsAt fp h:=dN.mpr ⟨b,hb,by rw[e];rfl⟩
theorem of_pinsAt{p:Ad×Obj}(hp:p∈pinsAt fp h):p.1∈fp/\h.get? p.1=some p.2:=by
  obtain⟨b,hb,e⟩:=dN.mp hp;cases q:h.get? b with
  |none=>rw[q]at e;cases e
  |some o=>
    rw[q]at e;have e':(b,o)=p:=Option.some.inj e;subst e';exact⟨hb,q⟩
theorem Inv.pinned{σ:St}{fp:Li Ad}(I:Inv X pQ σ H s)(hf:∀ b∈fp,FpOk X pQ H b)(ho:∀ b∈fp,∃ o,s.heap.get? b=some o/\∀ v,o.data≠.cell v):Inv X (pQ++pinsAt fp s.heap) σ H s:=
  I.pins_of fun p hp=>(bM.mp hp).elim (fun z=>I.pin p (cL _ z)) fun z=>by
    obtain⟨hb,e⟩:=of_pinsAt z;obtain⟨f0,f1,f2,_⟩:=hf p.1 hb;obtain⟨o,e',d⟩:=ho p.1 hb;rw[e]at e';cases e'
    exact⟨e,f0,f1,f2,d⟩
theorem Inv.unpinned{pl:Li (Ad×Obj)}{σ:St}(I:Inv X (pQ++pl) σ H s):Inv X pQ σ H s:=I.pins_of fun p hp=>I.pin p (cL _ (List.mem_append_left _ hp))
theorem ps_for{iter:Expr}{body:Li Stmt}{wi:TI}{g:TG}{tb:TS}{pos:Pos}(hp:PassesOwn (model X.prog X.w) X.A X.env X.xe)(hc:X.calm=true)(hi:PI X tg iter wi)(hg:PG X tg g)(hb:PSs X body tb)(hs:∀ x,foldedSetIterable iter X.env x=pure x:=by intro _;rfl):PS X (.For tg iter body [] pos) (tFor wi g tb):=by
  intro pQ s σ H D I h;refine wpAny_For (thn (hi pQ s σ H _ I h) fun v s1 h1=>thn h1 fun itv s2 h2=>?_) hs
  obtain⟨it,fp,tn,J,H2,e,I2,T,st2,f2,W,⟨m0,w0⟩,turn⟩:=h2;subst e
  -- what stays true of the iterator's objects through the loop
  have stat:∀ {H':Hp},(∀ b∈fp,H' b=none)->∀ b∈fp,FpOk X pQ H' b:=fun hn b hb=>⟨hn b hb,(f2 b hb).2⟩
  refine codeAny_forLoop_any (fun n s'=>∃ i σ' H',Inv X pQ σ' H' s'/\tn i s'.heap/\(∀ b∈fp,H' b=none)/\W i n σ' H') ?_ m0 ⟨0,σ,H2,I2,st2,fun b hb=>(f2 b hb).1,w0⟩
  rintro n s3 ⟨i,σ3,H3,I3,st3,fr3,w3⟩
  rcases turn i n σ3 H3 w3 with⟨stop,qn⟩|⟨go,N,hN,step⟩
  · refine wpAny_passesOwn hp (thn (T.done X rfl rfl rfl hc i pQ s3 σ3 H3 X.xe I3 (stat fr3) st3 stop) fun r s4 ⟨hr,I4⟩=>?_)
    subst hr;exact wpAny_execs_nil ⟨σ3,H3,I4,qn⟩
  · refine wpAny_passesOwn hp (thn (T.item X rfl rfl rfl hc i pQ s3 σ3 H3 X.xe I3 (stat fr3) st3 go) fun r s4 ⟨u,hr,h4⟩=>?_)
    subst hr;refine wpAny_passesOwn hp (thn h4 fun _ s5 ⟨x,H5,I5,r5,y5,st5,fr5⟩=>?_)
    have I5':=I5.pinned (stat fr5) (T.obj _ _ st5);refine wpAny_passesOwn hp (thn (hg _ s5 σ3 H5 x u _ I5' r5 (step x H5 y5)) fun _ s6 ⟨σ6,H6,I6,q6⟩=>?_)
    refine wpAny_passesOwn hp (thn (hb _ s6 σ6 H6 _ I6 q6) fun f s7 q7=>?_)
    have again:∀ {σ7:St}{H7:Hp},Inv X (pQ++pinsAt fp s5.heap) σ7 H7 s7->N σ7 H7->∃ m,m < n/\∃ i σ' H',Inv X pQ σ' H' s7/\tn i s7.heap/\(∀ b∈fp,H' b=none)/\W i m σ' H':=fun {σ7 H7} I7 n7=>by
      obtain⟨m',hm,w7⟩:=hN σ7 H7 n7;refine⟨m',hm,i+1,σ7,H7,I7.unpinned,T.keep _ _ _ st5 fun b hb o e=>(I7.pin (b,o) (cL _ (cL _ (mem_pinsAt hb e)))).1,fun b hb=>?_,w7⟩
      obtain⟨o,e,d⟩:=T.obj _ _ st5 b hb;exact(I7.pin (b,o) (cL _ (cL _ (mem_pinsAt hb e)))).2.1
    cases f with
    |next=>obtain⟨σ7,H7,I7,n7⟩:=q7;exact again I7 n7
    |cont=>obtain⟨σ7,H7,I7,n7⟩:=q7;exact again I7 n7
    |brk=>obtain⟨σ7,H7,I7,q7⟩:=q7;exact⟨σ7,H7,I7.unpinned,q7⟩
    |ret v=>obtain⟨x7,σ7,H7,I7,r7,q7⟩:=q7;exact⟨x7,σ7,H7,I7.unpinned,r7,q7⟩
end

abbrev R2:=V->V->Hp->VK->Prop
def OpR(X:Cx)(f:vL->vL->Sem vL)(r:R2):Prop:=
  ∀ (pQ:Li (Ad×Obj)) (s:Sd) (σ:St) (H:Hp) (x y:V) (v u:vL) (Q:VK),Inv X pQ σ H s->RelV x v->RelV y u->r x y H Q->
    wpAny (model X.prog X.w) X.A (f v u) (EP X pQ σ Q) X.xe s
def UnR(X:Cx)(f:vL->Sem vL)(r:V->Hp->VK->Prop):Prop:=
  ∀ (pQ:Li (Ad×Obj)) (s:Sd) (σ:St) (H:Hp) (x:V) (v:vL) (Q:VK),Inv X pQ σ H s->RelV x v->r x H Q->
    wpAny (model X.prog X.w) X.A (f v) (EP X pQ σ Q) X.xe s
def CallR(X:Cx)(f:vL)(r:Li V->Hp->VK->Prop):Prop:=
  ∀ (pQ:Li (Ad×Obj)) (s:Sd) (σ:St) (H:Hp) (xs:Li V) (us:Li vL) (Q:VK),Inv X pQ σ H s->Vals xs us->r xs H Q->
    wpAny (model X.prog X.w) X.A (call f us) (EP X pQ σ Q) X.xe s

noncomputable def tOp(r:R2)(ta tb:TE):TE:=fun σ H Q=>ta σ H fun x H1=>tb σ H1 fun y H2=>r x y H2 Q
noncomputable def tUn(r:V->Hp->VK->Prop)(ta:TE):TE:=fun σ H Q=>ta σ H fun x H1=>r x H1 Q
noncomputable def rI(C:Int->Int->Prop)(g:Int->Int->V):R2:=fun x y H Q=>∃ i j,x=.int i/\y=.int j/\C i j/\Q (g i j) H
noncomputable def rI0(g:Int->Int->V):R2:=fun x y H Q=>∃ i j,x=.int i/\y=.int j/\Q (g i j) H
def rU(g:Int->V):V->Hp->VK->Prop:=fun x H Q=>∃ i,x=.int i/\Q (g i) H

section
variable {X:Cx}{a b c:Expr}{ta tb tc:TE}{pos:Pos}

theorem binT(ha:PE X a ta)(hb:PE X b tb){σ:St}{R:V->V->Hp->Prop}(I:Inv X pQ σ H s)(h:ta σ H fun x H1=>tb σ H1 fun y H2=>R x y H2){f:vL->vL->Sem vL}(hf:∀ v u s2 x y H2,Inv X pQ σ H2 s2->RelV x v->RelV y u->R x y H2->wpAny (model X.prog X.w) X.A (f v u) Q X.xe s2) :
    wpAny (model X.prog X.w) X.A (eval a X.env) (fun v s₁=>wpAny (model X.prog X.w) X.A (eval b X.env) (fun u s₂=>wpAny (model X.prog X.w) X.A (f v u) Q X.xe s₂) X.xe s₁) X.xe s:=by
  refine thn (ha pQ s σ H _ I h) fun v s1 ⟨x,H1,I1,r1,q1⟩=>?_
  refine thn (hb pQ s1 σ H1 _ I1 q1) fun u s2 ⟨y,H2,I2,r2,q2⟩=>?_
  exact hf v u s2 x y H2 I2 r1 r2 q2

theorem pe_op{op:Operator}{r:R2}(ho:OpR X (binaryOp op) r)(ha:PE X a ta)(hb:PE X b tb):PE X (.BinOp a op b pos) (tOp r ta tb):=by
  intro pQ s σ H Q I h;exact wpAny_BinOp (binT ha hb I h fun v u s2 x y H2 I2 rx ry q=>ho pQ s2 σ H2 x y v u Q I2 rx ry q)
theorem pe_un{op:UnaryOp}{r:V->Hp->VK->Prop}(ho:UnR X (unaryOp op) r)(ha:PE X a ta):PE X (.UnaryOp op a pos) (tUn r ta):=by
  intro pQ s σ H Q I h;exact UnaryOp_ (thn (ha pQ s σ H _ I h) fun v s1 ⟨x,H1,I1,r1,q1⟩=>ho pQ s1 σ H1 x v Q I1 r1 q1)

theorem opI{f:vL->vL->Sem vL}{C:Int->Int->Prop}{g:Int->Int->Int}(rule:∀ (i j:Int) (t u:Tok) (s:Sd) (Q:vL->Sd->Prop) (E:vL->Sd->Prop),C i j->Q (.int (g i j) s.toks) { s with toks:=s.toks+1 }->wpAny (model X.prog X.w) X.A (f (.int i t) (.int j u)) Q E s) :
    OpR X f (rI C fun i j=>.int (g i j)):=by
  intro pQ s σ H x y v u Q I rx ry h;obtain⟨i,j,rfl,rfl,hc,q⟩:=h;obtain⟨t,rfl⟩:=rx;obtain⟨t',rfl⟩:=ry;exact rule i j t t' s _ _ hc ⟨.int (g i j),H,I.tok _,⟨_,rfl⟩,q⟩
theorem opI0{f:vL->vL->Sem vL}{g:Int->Int->Int}(rule:∀ (i j:Int) (t u:Tok) (s:Sd) (Q:vL->Sd->Prop) (E:vL->Sd->Prop),Q (.int (g i j) s.toks) { s with toks:=s.toks+1 }->wpAny (model X.prog X.w) X.A (f (.int i t) (.int j u)) Q E s) :
    OpR X f (rI0 fun i j=>.int (g i j)):=by
  intro pQ s σ H x y v u Q I rx ry h;obtain⟨i,j,rfl,rfl,q⟩:=h;obtain⟨t,rfl⟩:=rx;obtain⟨t',rfl⟩:=ry;exact rule i j t t' s _ _ ⟨.int (g i j),H,I.tok _,⟨_,rfl⟩,q⟩
theorem opB0{f:vL->vL->Sem vL}{g:Int->Int->Bool}(rule:∀ (i j:Int) (t u:Tok) (s:Sd) (Q:vL->Sd->Prop) (E:vL->Sd->Prop),Q (.bool (g i j)) s->wpAny (model X.prog X.w) X.A (f (.int i t) (.int j u)) Q E s) :
    OpR X f (rI0 fun i j=>.bl (g i j)):=by
  intro pQ s σ H x y v u Q I rx ry h;obtain⟨i,j,rfl,rfl,q⟩:=h;obtain⟨t,rfl⟩:=rx;obtain⟨t',rfl⟩:=ry;exact rule i j t t' s _ _ ⟨.bl (g i j),H,I,rfl,q⟩

def CDiv(i j:Int):Prop:=0 < j/\j < 1073741824
def CDivN(i j:Int):Prop:=j≠0/\j.natAbs < 1073741824
def CPow(i j:Int):Prop:=0<=j/\j<=1000000/\i.natAbs < 2 ^ 64
def CMul(i j:Int):Prop:=(-(2 ^ 64) < i/\i < 2 ^ 64)\/(-(2 ^ 64) < j/\j < 2 ^ 64)
theorem CMul.ok{i j:Int}(h:CMul i j):IntMulOk i j:=by
  rcases h with⟨h1,h2⟩|⟨h1,h2⟩
  · exact .of_left (intBits_le_64 h1 h2)
  · exact .of_right (intBits_le_64 h1 h2)

theorem op_add:OpR X (binaryOp .Add) (rI0 fun i j=>.int (i+j)):=opI0 fun _ _ _ _ _ _ _ q=>add_int q
theorem op_sub:OpR X (binaryOp .Sub) (rI0 fun i j=>.int (i - j)):=opI0 fun _ _ _ _ _ _ _ q=>sub_int q
theorem op_mul:OpR X (binaryOp .Mult) (rI CMul fun i j=>.int (i * j)):=opI fun _ _ _ _ _ _ _ hc q=>mul_int q hc.ok
theorem op_fdiv:OpR X (binaryOp .FloorDiv) (rI CDiv fun i j=>.int (i / j)):=opI fun i j _ _ _ _ _ hc q=>by
  have h1:(0:Int) < j:=hc.1;have h2:j < 1073741824:=hc.2;exact floordiv_int (by omega) (by rw[Int.fdiv_eq_ediv_of_nonneg i (by omega)];exact q) (.inl (PyProof.noPylong_small (by omega)))
theorem op_fdivN:OpR X (binaryOp .FloorDiv) (rI CDivN fun i j=>.int (i.fdiv j)):=opI fun _ _ _ _ _ _ _ hc q=>floordiv_int hc.1 q (.inl (PyProof.noPylong_small hc.2))
theorem op_mod:OpR X (binaryOp .Mod) (rI (fun _ j=>0 < j) fun i j=>.int (i % j)):=opI fun i j _ _ _ _ _ hc q=>by
  have h1:(0:Int) < j:=hc;exact mod_int' (by omega) (by rw[Int.fmod_eq_emod_of_nonneg i (by omega)];exact q)
theorem op_modN:OpR X (binaryOp .Mod) (rI (fun _ j=>j≠0) fun i j=>.int (i.fmod j)):=opI fun _ _ _ _ _ _ _ hc q=>mod_int' hc q
theorem op_pow:OpR X (binaryOp .Pow) (rI CPow fun i j=>.int (i ^ j.toNat)):=opI fun _ _ _ _ _ _ _ hc q=>pow_int_small hc.1 hc.2.1 hc.2.2 q


theorem unI{f:vL->Sem vL}{g:Int->Int}(rule:∀ (i:Int) (t:Tok) (s:Sd) (Q:vL->Sd->Prop) (E:vL->Sd->Prop),Q (.int (g i) s.toks) { s with toks:=s.toks+1 }->wpAny (model X.prog X.w) X.A (f (.int i t)) Q E s) :
    UnR X f (rU fun i=>.int (g i)):=by
  intro pQ s σ H x v Q I rx h;obtain⟨i,rfl,q⟩:=h;obtain⟨t,rfl⟩:=rx;exact rule i t s _ _ ⟨.int (g i),H,I.tok _,⟨_,rfl⟩,q⟩
theorem un_neg:UnR X (unaryOp .USub) (rU fun i=>.int (-i)):=unI fun _ _ _ _ _ q=>neg_int q

end

noncomputable def scal:V->V->Bool
  |.non,.non=>true|.non,.int _=>true|.int _,.non=>true|.non,.bl _=>true|.bl _,.non=>true|.non,.str _=>true|.str _,.non=>true
  |.int _,.int _=>true|.bl _,.bl _=>true|.str _,.str _=>true|.byt _,.byt _=>true
  |.int _,.str _=>true|.str _,.int _=>true|.bl _,.str _=>true|.str _,.bl _=>true
  |_,_=>false
noncomputable def rEq:R2:=fun x y H Q=>scal x y=true/\Q (.bl (decide (x=y))) H
noncomputable def rNe:R2:=fun x y H Q=>scal x y=true/\Q (.bl (!decide (x=y))) H

theorem dec_int{i j:Int}:decide (V.int i=V.int j)=(i==j):=by
  rw[cM];simp
theorem dec_bl{i j:Bool}:decide (V.bl i=V.bl j)=(i==j):=by
  rw[cM];simp
theorem dec_str{i j:Str}:decide (V.str i=V.str j)=(i==j):=by
  rw[cM];simp
theorem dec_byt{i j:Array UInt8}:decide (V.byt i=V.byt j)=(i.toList==j.toList):=by
  rw[cM];cases i;cases j;simp

variable{op op':CmpOp}
section
variable {X:Cx}{a b c:Expr}{ta tb tc:TE}{pos:Pos}
theorem fin_bl{σ:St}{Q:VK}{k k':Bool}(I:Inv X pQ σ H s)(q:Q (.bl k) H)(e:k=k'):EP X pQ σ Q (.bool k') s:=by
  subst e;exact⟨.bl k,H,I,rfl,q⟩
theorem op_eq:OpR X (compareOp .Eq) rEq:=by
  intro pQ s σ H x y v u Q I rx ry h;obtain⟨hs,q⟩:=h;cases x with
  |non=>
    cases rx;cases y with
    |non=>cases ry;exact PySem.EqNone.eq_none_none (fin_bl I q (by simp))
    |bl j=>cases ry;exact PySem.EqNone.eq_none_bool (fin_bl I q (by simp))
    |int j=>obtain⟨t',rfl⟩:=ry;exact PySem.EqNone.eq_none_int (fin_bl I q (by simp))
    |str j=>obtain⟨t',rfl⟩:=ry;exact PySem.EqNone.eq_none_str (fin_bl I q (by simp))
    |_=>exact absurd (show false=true from hs) Bf
  |bl i=>
    cases rx;cases y with
    |non=>cases ry;exact PySem.EqNone.eq_bool_none (fin_bl I q (by simp))
    |bl j=>cases ry;exact eq_bool (fin_bl I q dec_bl)
    |str j=>obtain⟨t',rfl⟩:=ry;exact PySem.EqMixed.eq_bool_str (fin_bl I q (by simp))
    |_=>exact absurd (show false=true from hs) Bf
  |int i=>
    obtain⟨t,rfl⟩:=rx;cases y with
    |non=>cases ry;exact PySem.EqNone.eq_int_none (fin_bl I q (by simp))
    |int j=>obtain⟨t',rfl⟩:=ry;exact eq_int (fin_bl I q dec_int)
    |str j=>obtain⟨t',rfl⟩:=ry;exact PySem.EqMixed.eq_int_str (fin_bl I q (by simp))
    |_=>exact absurd (show false=true from hs) Bf
  |str i=>
    obtain⟨t,rfl⟩:=rx;cases y with
    |non=>cases ry;exact PySem.EqNone.eq_str_none (fin_bl I q (by simp))
    |bl j=>cases ry;exact PySem.EqMixed.eq_str_bool (fin_bl I q (by simp))
    |int j=>obtain⟨t',rfl⟩:=ry;exact PySem.EqMixed.eq_str_int (fin_bl I q (by simp))
    |str j=>obtain⟨t',rfl⟩:=ry;exact eq_str (fin_bl I q dec_str)
    |_=>exact absurd (show false=true from hs) Bf
  |byt i=>
    obtain⟨t,rfl⟩:=rx;cases y with
    |byt j=>obtain⟨t',rfl⟩:=ry;exact PySem.W.eq_bytes (fin_bl I q dec_byt)
    |_=>exact absurd (show false=true from hs) Bf
  |_=>cases y<;>exact absurd (show false=true from hs) Bf
theorem op_ne:OpR X (compareOp .NotEq) rNe:=by
  intro pQ s σ H x y v u Q I rx ry h;obtain⟨hs,q⟩:=h;cases x with
  |non=>
    cases rx;cases y with
    |non=>cases ry;exact PySem.EqNone.ne_none_none (fin_bl I q (by simp))
    |bl j=>cases ry;exact PySem.EqNone.ne_none_bool (fin_bl I q (by simp))
    |int j=>obtain⟨t',rfl⟩:=ry;exact PySem.EqNone.ne_none_int (fin_bl I q (by simp))
    |str j=>obtain⟨t',rfl⟩:=ry;exact PySem.EqNone.ne_none_str (fin_bl I q (by simp))
    |_=>exact absurd (show false=true from hs) Bf
  |bl i=>
    cases rx;cases y with
    |non=>cases ry;exact PySem.EqNone.ne_bool_none (fin_bl I q (by simp))
    |bl j=>cases ry;exact ne_bool (fin_bl I q (congrArg not dec_bl))
    |str j=>obtain⟨t',rfl⟩:=ry;exact PySem.EqMixed.ne_bool_str (fin_bl I q (by simp))
    |_=>exact absurd (show false=true from hs) Bf
  |int i=>
    obtain⟨t,rfl⟩:=rx;cases y with
    |non=>cases ry;exact PySem.EqNone.ne_int_none (fin_bl I q (by simp))
    |int j=>obtain⟨t',rfl⟩:=ry;exact ne_int (fin_bl I q (congrArg not dec_int))
    |str j=>obtain⟨t',rfl⟩:=ry;exact PySem.EqMixed.ne_int_str (fin_bl I q (by simp))
    |_=>exact absurd (show false=true from hs) Bf
  |str i=>
    obtain⟨t,rfl⟩:=rx;cases y with
    |non=>cases ry;exact PySem.EqNone.ne_str_none (fin_bl I q (by simp))
    |bl j=>cases ry;exact PySem.EqMixed.ne_str_bool (fin_bl I q (by simp))
    |int j=>obtain⟨t',rfl⟩:=ry;exact PySem.EqMixed.ne_str_int (fin_bl I q (by simp))
    |str j=>obtain⟨t',rfl⟩:=ry;exact ne_str (fin_bl I q (congrArg not dec_str))
    |_=>exact absurd (show false=true from hs) Bf
  |byt i=>
    obtain⟨t,rfl⟩:=rx;cases y with
    |byt j=>obtain⟨t',rfl⟩:=ry;exact PySem.W.ne_bytes (fin_bl I q (congrArg not dec_byt))
    |_=>exact absurd (show false=true from hs) Bf
  |_=>cases y<;>exact absurd (show false=true from hs) Bf

theorem op_lt:OpR X (compareOp .Lt) (rI0 fun i j=>.bl (decide (i < j))):=opB0 fun _ _ _ _ _ _ _ q=>lt_int q
theorem op_le:OpR X (compareOp .LtE) (rI0 fun i j=>.bl (decide (i<=j))):=opB0 fun _ _ _ _ _ _ _ q=>le_int q
theorem op_gt:OpR X (compareOp .Gt) (rI0 fun i j=>.bl (decide (j < i))):=opB0 fun _ _ _ _ _ _ _ q=>gt_int q
theorem op_ge:OpR X (compareOp .GtE) (rI0 fun i j=>.bl (decide (j<=i))):=opB0 fun _ _ _ _ _ _ _ q=>ge_int q
theorem op_in_str:OpR X (compareOp .In) (fun x y H Q=>∃ i j,x=.str i/\y=.str j/\Q (.bl (!(Builtin.Str.occurrences j i 0 j.length 1).isEmpty)) H):=by
  intro pQ s σ H x y v u Q I rx ry h;obtain⟨i,j,rfl,rfl,q⟩:=h;obtain⟨t,rfl⟩:=rx;obtain⟨t',rfl⟩:=ry;exact in_str (fin_bl I q rfl)

theorem op_isN:OpR X (compareOp .Is) (fun x y H Q=>y=.non/\Q (.bl (decide (x=.non))) H):=by
  intro pQ s σ H x y v u Q I rx ry h;obtain⟨rfl,q⟩:=h;cases ry;refine is_none_gen (fin_bl I q ?_);cases x<;>first
    | (cases rx;rfl)
    | (obtain⟨t,rfl⟩:=rx;rfl)
theorem op_notN:OpR X (compareOp .IsNot) (fun x y H Q=>y=.non/\Q (.bl (!decide (x=.non))) H):=by
  intro pQ s σ H x y v u Q I rx ry h;obtain⟨rfl,q⟩:=h;cases ry;refine isnot_none_gen (fin_bl I q ?_);cases x<;>first
    | (cases rx;rfl)
    | (obtain⟨t,rfl⟩:=rx;rfl)



theorem pe_cmpR{r:R2}(ho:OpR X (compareOp op) r)(ha:PE X a ta)(hb:PE X b tb)(hm:behindInMarks op b=false):PE X (.Compare a [op] [b] pos) (tOp r ta tb):=by
  intro pQ s σ H Q I h;exact wpAny_Compare1 (binT ha hb I h fun v u s2 x y H2 I2 rx ry q=>ho pQ s2 σ H2 x y v u Q I2 rx ry q) hm
noncomputable def tTest(t:TE):TT:=fun σ H Q=>t σ H fun x H'=>∃ k,x=.bl k/\Q k H'
theorem pt_cmpR{r:R2}(ho:OpR X (compareOp op) r)(ha:PE X a ta)(hb:PE X b tb)(hm:behindInMarks op b=false):PT X (.Compare a [op] [b] pos) (tTest (tOp r ta tb)):=by
  intro pQ s σ H Q I h;refine wpAny_isTrue_Compare1 (thn (ha pQ s σ H _ I h) fun v s1 ⟨x,H1,I1,r1,q1⟩=>thn (hb pQ s1 σ H1 _ I1 q1) fun u s2 ⟨y,H2,I2,r2,q2⟩=>
    thn (ho pQ s2 σ H2 x y v u _ I2 r1 r2 q2) fun c s3 ⟨z,H3,I3,r3,k,e,q3⟩=>?_) hm
  subst e;cases r3;exact wpAny_truthy_bool ⟨H3,I3,q3⟩
noncomputable def tChain(r r':R2)(ta tb tc:TE):TE:=fun σ H Q=>ta σ H fun x H1=>tb σ H1 fun y H2=>r x y H2 fun z H3=>∃ k,z=.bl k /\
  (if k=true then tc σ H3 fun w' H4=>r' y w' H4 Q else Q (.bl false) H3)
theorem pe_chain{r r':R2}(ho:OpR X (compareOp op) r)(ho':OpR X (compareOp op') r')(ha:PE X a ta)(hb:PE X b tb)(hc:PE X c tc)(hm:lastMarks [op,op'] [b,c]=false:=by with_unfolding_all rfl):PE X (.Compare a [op,op'] [b,c] pos) (tChain r r' ta tb tc):=by
  intro pQ s σ H Q I h;refine Compare_chain (thn (ha pQ s σ H _ I h) fun v s1 ⟨x,H1,I1,r1,q1⟩=>chain_link (thn (hb pQ s1 σ H1 _ I1 q1) fun u s2 ⟨y,H2,I2,r2,q2⟩=>
    thn (ho pQ s2 σ H2 x y v u _ I2 r1 r2 q2) fun d s3 ⟨z,H3,I3,r3,k,e,q3⟩=>?_)) hm
  subst e;cases r3;refine wpAny_truthy_bool ?_;cases k with
  |false=>exact ite_ff ⟨.bl false,H3,I3,rfl,q3⟩
  |true=>exact ite_tt (chain_last (thn (hc pQ s3 σ H3 _ I3 q3) fun w' s4 ⟨z',H4,I4,r4,q4⟩=>ho' pQ s4 σ H4 y z' u w' Q I4 r2 r4 q4))
theorem pt_chain{r r':R2}(ho:OpR X (compareOp op) r)(ho':OpR X (compareOp op') r')(ha:PE X a ta)(hb:PE X b tb)(hc:PE X c tc)(hm:lastMarks [op,op'] [b,c]=false:=by with_unfolding_all rfl):PT X (.Compare a [op,op'] [b,c] pos) (tTest (tChain r r' ta tb tc)):=by
  intro pQ s σ H Q I h;refine isTrue_chain (thn (ha pQ s σ H _ I h) fun v s1 ⟨x,H1,I1,r1,q1⟩=>test_link (thn (hb pQ s1 σ H1 _ I1 q1) fun u s2 ⟨y,H2,I2,r2,q2⟩=>
    thn (ho pQ s2 σ H2 x y v u _ I2 r1 r2 q2) fun d s3 ⟨z,H3,I3,r3,k,e,q3⟩=>?_)) hm
  subst e;cases r3;refine wpAny_truthy_bool ?_;cases k with
  |false=>
    obtain⟨k',e',q'⟩:=q3;cases e';exact ite_ff ⟨H3,I3,q'⟩
  |true=>
    refine ite_tt (test_last (thn (hc pQ s3 σ H3 _ I3 q3) fun w' s4 ⟨z',H4,I4,r4,q4⟩=>thn (ho' pQ s4 σ H4 y z' u w' _ I4 r2 r4 q4) fun d' s5 ⟨z2,H5,I5,r5,k2,e2,q5⟩=>?_))
    subst e2;cases r5;exact wpAny_truthy_bool ⟨H5,I5,q5⟩

theorem line63:(sizeLine:Nat) < 2 ^ 63:=by rw[sizeLine_eq];decide

theorem op_add_str:OpR X (binaryOp .Add) (fun x y H Q=>∃ i j,x=.str i/\y=.str j/\i.length+j.length<=sizeLine/\Q (.str (i++j)) H):=by
  intro pQ s σ H x y v u Q I rx ry h;obtain⟨i,j,rfl,rfl,hz,q⟩:=h;obtain⟨t,rfl⟩:=rx;obtain⟨t',rfl⟩:=ry;exact add_str (fun t' tk=>⟨.str (i++j),H,I.tok _,⟨_,rfl⟩,q⟩) hz


theorem vals1{x:V}(r:Vals [x] us):∃ u,us=[u]/\RelV x u:=by
  cases r with
  |cons r1 r2=>cases r2;exact⟨_,rfl,r1⟩
theorem vals2{x:V}(r:Vals [x,y] us):∃ u w',us=[u,w']/\RelV x u/\RelV y w':=by
  cases r with
  |cons r1 r2=>
    cases r2 with
    |cons r3 r4=>cases r4;exact⟨_,_,rfl,r1,r3⟩
theorem call_max2(hc:X.calm=true):CallR X (.builtin "max") (fun xs H Q=>∃ i j,xs=[.int i,.int j]/\Q (.int (if j > i then j else i)) H):=by
  intro pQ s σ H xs us Q I r h;obtain⟨i,j,rfl,q⟩:=h;obtain⟨u,w',rfl,⟨t,rfl⟩,⟨t',rfl⟩⟩:=vals2 r;refine max_two_ints (I.ok.hd hc) fun h' tk k=>⟨_,H,I.kept k,?_,q⟩
  by_cases hj:j > i
  · rw[if_pos hj,if_pos hj];exact⟨_,rfl⟩
  · rw[if_neg hj,if_neg hj];exact⟨_,rfl⟩
theorem call_min2(hc:X.calm=true):CallR X (.builtin "min") (fun xs H Q=>∃ i j,xs=[.int i,.int j]/\Q (.int (if j < i then j else i)) H):=by
  intro pQ s σ H xs us Q I r h;obtain⟨i,j,rfl,q⟩:=h;obtain⟨u,w',rfl,⟨t,rfl⟩,⟨t',rfl⟩⟩:=vals2 r;refine min_two_ints (I.ok.hd hc) fun h' tk k=>⟨_,H,I.kept k,?_,q⟩
  by_cases hj:j < i
  · rw[if_pos hj,if_pos hj];exact⟨_,rfl⟩
  · rw[if_neg hj,if_neg hj];exact⟨_,rfl⟩
theorem call_int1:CallR X (.type "int") (fun xs H Q=>(∃ i,xs=[.int i]/\Q (.int i) H)\/∃ k,xs=[.bl k]/\Q (.int (if k then 1 else 0)) H):=by
  intro pQ s σ H xs us Q I r h;rcases h with⟨i,rfl,q⟩|⟨k,rfl,q⟩
  · obtain⟨u,rfl,t,rfl⟩:=vals1 r
    exact call_int_int ⟨.int i,H,I,⟨_,rfl⟩,q⟩
  · obtain⟨u,rfl,r1⟩:=vals1 r
    cases r1;exact call_int_bool ⟨.int (if k then 1 else 0),H,I.tok _,⟨_,rfl⟩,q⟩
def LenV(K:Fg)(x:V)(H:Hp)(n:Nat):Prop:=
  match x with
  |.str y=>y.length<=sizeLine/\n=y.length
  |.byt y=>y.size<=sizeLine/\n=y.size
  |.ref p=>(∃ xs,SqL K H p xs/\n=xs.length)\/∃ xs,SqT K H p xs/\n=xs.length
  |_=>False
theorem call_len:CallR X (.builtin "len") (fun xs H Q=>∃ x n,xs=[x]/\LenV X.K x H n/\Q (.int n) H):=by
  intro pQ s σ H xs us Q I r h;obtain⟨x,n,rfl,e,q⟩:=h;obtain⟨u,rfl,rx⟩:=vals1 r;have hl:=line63;have hs:sizeLine=16777216:=sizeLine_eq;cases x with
  |str y=>
    obtain⟨t,rfl⟩:=rx;obtain⟨hy,e'⟩:y.length<=sizeLine/\n=y.length:=e;subst e';exact len_str (by omega) ⟨.int _,H,I.tok _,⟨_,rfl⟩,q⟩
  |byt y=>
    obtain⟨t,rfl⟩:=rx;obtain⟨hy,e'⟩:y.size<=sizeLine/\n=y.size:=e;subst e';exact PySem.W.len_bytes (by omega) ⟨.int _,H,I.tok _,⟨_,rfl⟩,q⟩
  |ref p=>
    cases rx;have e':(∃ xs,SqL X.K H p xs/\n=xs.length)\/∃ xs,SqT X.K H p xs/\n=xs.length:=e;rcases e' with⟨xs,hx,e'⟩|⟨xs,hx,e'⟩
    · subst e'
      obtain⟨its,r',pl,hz⟩:=I.list hx;have hlen:=r'.length;exact Calls.call_len_list pl.isList (by simp only[aL];omega) ⟨.int xs.length,H,I.tok _,⟨_,by simp only[aL];rw[hlen]⟩,q⟩
    · subst e'
      obtain⟨its,r',pl,hz⟩:=I.tuple hx;have hlen:=r'.length;exact len_tuple pl (by simp only[aL];omega) ⟨.int xs.length,H,I.tok _,⟨_,by simp only[aL];rw[hlen]⟩,q⟩
  |_=>exact(show False from e).elim
end
structure ObjM(h:Heap)(x dx C:Addr)(mA:Str->Option Value):Prop where
  obj:h.get? x=some (PySem.W.instObj C dx)
  ns:h.Ns1 dx mA
  ne:dx≠x

variable{mA:Str->Ot vL}
theorem lookIn_ns{dx:Ad}(n:h.Ns1 dx mA):∃ od,h.get? dx=some od/\∀ name,PySem.W.lookIn name od=some (mA name):=by
  obtain⟨o,es,ep,ho,hd,hk,_,hm⟩:=n;refine⟨o,ho,fun name=>?_⟩
  have e:=hm name;unfold nsFind findBy at e;rw[<-Array.find?_toList]at e;unfold PySem.W.lookIn;rw[hd];dsimp only;split
  · rename_i y q
    rw[q]at e;exact congrArg some e
  · rename_i q
    rw[q]at e;have a:es.toList.any (·.refKey)=false:=by
      rw[List.any_eq_false];intro y hy;obtain⟨z,t,hkey⟩:=hk y (Array.mem_toList_iff.mp hy);simp[DictEntry.refKey,hkey]
    have a':¬es.toList.any (·.refKey)=true:=by rw[a];exact Bf
    rw[if_neg a'];exact congrArg some e

variable{C:Ad}
theorem ObjM.look{x dx:Ad}(I:ObjM h x dx C mA):∃ od,PySem.W.InstAt h x (PySem.W.instObj C dx) C (some od)/\∀ name,PySem.W.lookIn name od=some (mA name):=
  let ⟨od,ho,hl⟩:=lookIn_ns I.ns
  ⟨od,⟨I.obj,rfl,rfl,ho⟩,hl⟩

variable{pl:Sem Bool}{kw:Li (Str×vL)}
section
variable {prog:Program}{w:World}{A:Around}{E:vL->Sd->Prop}{s:Sd}{K:Fg}{x dx C f:Ad}{mA:Str->Ot vL}{name:Str}{v:vL}

theorem get_map{expr:Bool}(X:K.In s.heap)(I:ObjM s.heap x dx C mA)(hg:PySem.W.plainGet K C name=true)(hh:PySem.W.hasDictIn K C=true)(ha:PySem.W.findIn K (.ref C) name=some none)(hv:mA name=some v)(hv':PySem.W.handedIn v=true)(h:Q v { s with toks:=s.toks+1 }) :
    wpAny (model prog w) A (getAttr (.ref x) name expr) Q E s:=by
  obtain⟨od,J,hl⟩:=I.look;exact PySem.W.get_value X J (PySem.W.plainGet_of hg).1 (PySem.W.findObj_own hh ha rfl (by rw[hl,hv])) hv' h


theorem get_meth{Q:vL×Li vL->Sd->Prop}(X:K.In s.heap)(I:ObjM s.heap x dx C mA)(hg:PySem.W.plainGet K C name=true)(hf:PySem.W.findIn K (.ref C) name=some (some (.ref f)))(ht:PySem.W.isFn K (.ref f)=true)(hv:mA name=none)(h:Q (.ref f,[.ref x]) s) :
    wpAny (model prog w) A (getMethod (.ref x) name pl) Q E s:=by
  obtain⟨od,J,hl⟩:=I.look;exact PySem.W.method_fn X J (PySem.W.plainGet_of hg).1 (PySem.W.plainGet_of hg).2 hf (beq_iff_eq.mp ht) (by show(PySem.W.lookIn name od).map (·.isSome)=some false;rw[hl,hv];rfl) h

theorem set_map{ns:Li Str}{Q:Unit->Sd->Prop}(X:K.In s.heap)(I:ObjM s.heap x dx C mA)(hs:PySem.W.findIn K (.ref C) "__setattr__"=some (some (.builtin "object.__setattr__")))(hp:PySem.W.plainOver K C=true)(ht:PySem.W.takerIn K C name=some none)(hh:PySem.W.hasDictIn K C=true)(hw:PySem.Within mA ns)(hsz:ns.length<=sizeLine)(h:∀ h',ObjM h' x dx C (fun y=>if y=name then some v else mA y)->Heap.SameBut dx s.heap h'->Q () { s with heap:=h',toks:=s.toks+2 }) :
    wpAny (model prog w) A (setAttr (.ref x) name v) Q E s:=by
  obtain⟨od,J,hl⟩:=I.look;refine PySem.W.set_plain X J hs (PySem.W.osa_open (s:={ s with toks:=s.toks+1 }) (r:=none) X J hp ht fun b=>?_)
  obtain⟨cd,hc,hd'⟩:=PySem.W.any_some hh;have hx:s.heap.get? x=some ⟨.ref C,some dx,.plain,#[]⟩:=I.obj;refine aA (aB (aA (aA (wpAny_loadPart hx (aA (PySem.W.Looks.here (s:={ s with toks:=s.toks+1 }) (PySem.W.looks_clsIn X hc) ?_))))))
  rw[hd'];refine aB (a:=some dx) (aA (aB (aA ?_)));refine wpAny_nsSet1 (s:={ s with toks:=s.toks+1 }) I.ns fun h' hn2 hs2=>?_
  obtain⟨oD,esD,epD,hoD,hdD,hcD⟩:=hn2.count (PySem.Within.cons name v hw);refine aA (wpAny_lookBehind hoD (by rw[hdD];exact pastItsLine_dict (aG hcD (by rw[bA];omega))) ?_)
  exact aB (h _ ⟨(hs2.2 _ (Ne.symm I.ne)).trans I.obj,hn2,I.ne⟩ hs2)

theorem make_map{R:Result->Sd->Prop}{vs:Li vL}(X:K.In s.heap)(hm:PySem.W.makesIn K C=true)(hi:PySem.W.findIn K (.ref C) "__init__"=some (some (.ref f)))(hf:PySem.W.typeIn K (.ref f)=some (.type "function"))(h:codeAny (model prog w) (A.under (.builtin "type.__call__" ⟨.ref C :: vs,kw⟩)) (.call (.ref f) ⟨.ref (s.heap.objs.size+1) :: vs,kw⟩) (PySem.W.InitBack (s.heap.objs.size+1) R)
      { s with heap:=(s.heap.push PySem.W.emptyDict).push (PySem.W.instObj C s.heap.objs.size) }) :
    codeAny (model prog w) A (.call (.ref C) ⟨vs,kw⟩) R s:=by
  obtain⟨hh,g,d,t,os⟩:=s;exact PySem.W.make_core (PySem.W.makes_of X hm) (PySem.W.looks_findIn X hi) (fun self=>PySem.W.bind_fn X self hf) (.inl rfl) h
end

noncomputable def putF(f:Str)(v:V):Li (Str×V)->Li (Str×V)
  |[]=>[(f,v)]
  | (g,x) :: r=>if g=f then (g,v) :: r else (g,x) :: putF f v r
theorem lookup_putF(f g:Str)(v:V):∀ fs:Li (Str×V),(putF f v fs).lookup g=if g=f then some v else fs.lookup g
  |[]=>by
    show List.lookup g [(f,v)]=_;by_cases h:g=f
    · have hb:(g==f)=true:=beq_iff_eq.mpr h
      simp only[List.lookup,hb,if_pos h]
    · have hb:(g==f)=false:=bH.mpr h
      simp only[List.lookup,hb,if_neg h]
  | (k,x) :: r=>by
    have ih:=lookup_putF f g v r;rw[show putF f v ((k,x) :: r)=(if k=f then (k,v) :: r else (k,x) :: putF f v r) from rfl]
    by_cases hk:k=f
    · rw[if_pos hk]
      by_cases h:g=k
      · have hb:(g==k)=true:=beq_iff_eq.mpr h
        simp only[List.lookup,hb,if_pos (h.trans hk)]
      · have hb:(g==k)=false:=bH.mpr h
        simp only[List.lookup,hb,if_neg (fun e:g=f=>h (e.trans hk.symm))]
    · rw[if_neg hk]
      by_cases h:g=k
      · have hb:(g==k)=true:=beq_iff_eq.mpr h
        simp only[List.lookup,hb,if_neg (fun e:g=f=>hk (h.symm.trans e))]
      · have hb:(g==k)=false:=bH.mpr h
        simp only[List.lookup,hb];exact ih
theorem keys_putF(f:Str)(v:V):∀ fs:Li (Str×V),f∈(putF f v fs).map (·.1)/\∀ g,g∈fs.map (·.1)->g∈(putF f v fs).map (·.1)
  |[]=>⟨by simp[putF],fun g h=>by simp at h⟩
  | (k,x) :: r=>by
    obtain⟨i1,i2⟩:=keys_putF f v r;rw[show putF f v ((k,x) :: r)=(if k=f then (k,v) :: r else (k,x) :: putF f v r) from rfl]
    by_cases hk:k=f
    · rw[if_pos hk]
      subst hk;exact⟨by simp,fun g h=>by simpa using h⟩
    · rw[if_neg hk]
      refine⟨?_,fun g h=>?_⟩
      · rw[aP]
        exact Lm _ i1
      · rw[aP]at h ⊢
        rcases aM.mp h with e|e
        · exact aM.mpr (.inl e)
        · exact Lm _ (i2 g e)
theorem length_putF(f:Str)(v:V):∀ fs:Li (Str×V),(putF f v fs).length<=fs.length+1
  |[]=>by simp[putF]
  | (k,x) :: r=>by
    have ih:=length_putF f v r;rw[show putF f v ((k,x) :: r)=(if k=f then (k,v) :: r else (k,x) :: putF f v r) from rfl]
    by_cases hk:k=f
    · rw[if_pos hk,bA,bA];omega
    · rw[if_neg hk,bA,bA];omega

theorem RelO.some_of{v:V}{o:Ot vL}(r:RelO (some v) o):∃ u,o=some u/\RelV v u:=by
  cases o with
  |none=>exact(show False from r).elim
  |some u=>exact⟨u,rfl,r⟩
theorem RelO.none_of{o:Ot vL}(r:RelO none o):o=none:=by
  cases o with
  |none=>rfl
  |some u=>exact(show False from r).elim
theorem handed_of{v:V}{u:vL}(r:RelV v u):PySem.W.handedIn u=true:=by
  cases v with
  |non=>cases (show u=Value.none from r);rfl
  |bl b=>cases (show u=Value.bool b from r);rfl
  |int i=>obtain⟨t,e⟩:=(show ∃ t,u=Value.int i t from r);cases e;rfl
  |str x=>obtain⟨t,e⟩:=(show ∃ t,u=Value.str x t from r);cases e;rfl
  |byt b=>obtain⟨t,e⟩:=(show ∃ t,u=Value.bytes b t from r);cases e;rfl
  |flt b=>obtain⟨t,e⟩:=(show ∃ t,u=Value.float b t from r);cases e;rfl
  |ref a=>cases (show u=Value.ref a from r);rfl
  |ty n=>cases (show u=Value.type n from r);rfl

section
variable {P:Program}{w:World}{H H':Hp}{h h':Heap}{a C dx:Ad}{fs fs':Li (Str×V)}
theorem ins_get(hok:HOk P w H h)(e:H a=some (.ins C dx fs)):∃ mA,ObjM h a dx C mA/\(∀ f,RelO (fs.lookup f) (mA f))/\PySem.Within mA (fs.map (·.1))/\fs.length<=1000/\H dx=some (.own a):=by
  obtain⟨d,z,ne,ob,mA,n,r,q⟩:=(show ObjOk P w H h a (.ins C dx fs) from hok a _ e);exact⟨mA,⟨ob,n,ne⟩,r,q,z,d⟩
end

structure Cls(K:Fg)(C:Addr):Prop where
  pg:PySem.W.plainGet K C Str.empty=true
  hd:PySem.W.hasDictIn K C=true
  po:PySem.W.plainOver K C=true
  sa:PySem.W.findIn K (.ref C) "__setattr__"=some (some (.builtin "object.__setattr__"))
theorem Cls.get(c:Cls K C)(f:Str):PySem.W.plainGet K C f=true:=c.pg
def NoAttr(K:Fg)(C:Ad)(f:Str):Prop:=PySem.W.findIn K (.ref C) f=some none
theorem NoAttr.taker{f:Str}(n:NoAttr K C f):PySem.W.takerIn K C f=some none:=by
  unfold PySem.W.takerIn;rw[show PySem.W.findIn K (.ref C) f=some none from n];rfl
structure Con(K:Fg)(C:Addr)(f:Str)(v:V)(u:Value):Prop where
  at_:PySem.W.findIn K (.ref C) f=some (some u)
  rel:RelV v u
  get:PySem.W.specialIn K u "__get__"=some none
  cp:PySem.W.copiedNames.contains f=false
structure Meth(K:Fg)(C:Addr)(m:Str)(f:Addr):Prop where
  at_:PySem.W.findIn K (.ref C) m=some (some (.ref f))
  fn:PySem.W.isFn K (.ref f)=true
  kp:PySem.W.keepIn K (.ref f)=true

section
variable {X:Cx}{pQ:Li (Ad×Obj)}{σ:St}{H:Hp}{s:Sd}{a C dx:Ad}{fs:Li (Str×V)}{f:Str}{v:V}{A:Around}{E:vL->Sd->Prop}

theorem getattr_ok{b:Bool}(I:Inv X pQ σ H s)(e:H a=some (.ins C dx fs))(c:Cls X.K C)(n:NoAttr X.K C f)(l:fs.lookup f=some v)(h:∀ u s',Inv X pQ σ H s'->RelV v u->Q u s'):wpAny (model X.prog X.w) A (getAttr (.ref a) f b) Q E s:=by
  obtain⟨mA,O,r,_,_,_⟩:=ins_get I.hok e;obtain⟨u,hu,ru⟩:=RelO.some_of (v:=v) (o:=mA f) (by rw[<-l];exact r f)
  exact get_map I.kIn O (c.get f) c.hd n hu (handed_of ru) (h u _ (I.tok _) ru)


theorem getmeth_ok{m:Str}{g:Ad}{Q:vL×Li vL->Sd->Prop}(I:Inv X pQ σ H s)(e:H a=some (.ins C dx fs))(c:Cls X.K C)(k:Meth X.K C m g)(l:fs.lookup m=none)(h:Q (.ref g,[.ref a]) s):wpAny (model X.prog X.w) A (getMethod (.ref a) m pl) Q E s:=by
  obtain⟨mA,O,r,_,_,_⟩:=ins_get I.hok e;have hn:mA m=none:=RelO.none_of (by rw[<-l];exact r m)
  exact get_meth I.kIn O (c.get m) k.at_ k.fn hn h

theorem setattr_ok{u:vL}{Q:Unit->Sd->Prop}(I:Inv X pQ σ H s)(e:H a=some (.ins C dx fs))(c:Cls X.K C)(n:NoAttr X.K C f)(hl:fs.length < 1000)(ry:RelV y u)(h:∀ s',Inv X pQ σ (upd H a (.ins C dx (putF f y fs))) s'->Q () s'):wpAny (model X.prog X.w) A (setAttr (.ref a) f u) Q E s:=by
  obtain⟨mA,O,r,wi,_,ho⟩:=ins_get I.hok e;have hz:(fs.map (·.1)).length<=sizeLine:=by rw[aF,sizeLine_eq];omega
  refine set_map I.kIn O c.sa c.po n.taker c.hd wi hz fun h' O' sb=>h _ ?_
  have hd:∃ o,h'.get? dx=some o:=let ⟨o,_,_,e',_⟩:=O'.ns;⟨o,e'⟩
  refine I.write (x:=a) (e:=dx) (by rw[e];exact True.intro) (.inr ho) (fun b q hb z=>(sb.2 b hb).trans z) hd ?_
  refine⟨by rw[upd_ne O.ne];exact ho,?_,O.ne,O'.obj,_,O'.ns,fun g=>?_,fun g hg=>?_⟩
  · have:=length_putF f y fs;omega
  · show RelO ((putF f y fs).lookup g) (if g=f then some u else mA g)
    rw[lookup_putF];by_cases q:g=f
    · rw[if_pos q,if_pos q];exact ry
    · rw[if_neg q,if_neg q];exact r g
  · by_cases q:g=f
    · rw[q];exact(keys_putF f y fs).1
    · refine(keys_putF f y fs).2 g (wi g fun z=>hg ?_)
      show(if g=f then some u else mA g)=none
      rw[if_neg q];exact z

theorem Inv.made(I:Inv X pQ σ H s):Inv X pQ σ (upd (upd H s.heap.objs.size (.own (s.heap.objs.size+1))) (s.heap.objs.size+1) (.ins C s.heap.objs.size []))
    { s with heap:=(s.heap.push PySem.W.emptyDict).push (PySem.W.instObj C s.heap.objs.size) }:=by
  have e1:(s.heap.push PySem.W.emptyDict).get? s.heap.objs.size=some PySem.W.emptyDict:=aS s.heap rfl;have e2:((s.heap.push PySem.W.emptyDict).push (PySem.W.instObj C s.heap.objs.size)).get? (s.heap.objs.size+1)=some (PySem.W.instObj C s.heap.objs.size):=by
    have:=aS (s.heap.push PySem.W.emptyDict) (o:=PySem.W.instObj C s.heap.objs.size) rfl
    rwa [Heap.size_push]at this
  have e3:(s.heap.push PySem.W.emptyDict).Ns s.heap.objs.size (fun _=>none):=⟨PySem.W.emptyDict,#[],_,e1,rfl,(fun e he=>absurd he (by simp)),fun _=>rfl⟩
  have I1:=I.laid (a:=s.heap.objs.size) (o:=.own (s.heap.objs.size+1)) (h':=s.heap.push PySem.W.emptyDict) (t':=s.toks) (fun b u q=>aH _ q) (aD _) ⟨_,e1⟩
  refine I1.laid (a:=s.heap.objs.size+1) (o:=.ins C s.heap.objs.size []) (t':=s.toks) (fun b u q=>aH _ q) (dF (Heap.size_push _ _)) ?_
  have ne:s.heap.objs.size≠s.heap.objs.size+1:=aQ (Nat.lt_succ_self _);refine⟨by rw[upd_ne ne,upd_same],bT _,ne,e2,fun _=>none,(Heap.Ns1.of_empty e3).at fun o q=>aH _ q,fun _=>True.intro,fun y hy=>absurd rfl hy⟩

theorem attr_of{prog:Program}{env:Env}{e:Expr}{f:Str}{pos:Pos}(hb:attributeBase e f env (eval e env)=eval e env)(h:wpAny (model prog w) A (eval e env) (fun o s₁=>wpAny (model prog w) A (getAttr o f true) Q E s₁) E s):wpAny (model prog w) A (eval (.Attribute e f pos) env) Q E s:=
  Attribute_any_ h (by rw[arm_eval_Attribute,hb])
end

noncomputable def tFld(K:Fg)(ta:TE)(f:Str):TE:=fun σ H Q=>ta σ H fun x H1=>∃ a C dx fs v,x=.ref a/\H1 a=some (.ins C dx fs)/\Cls K C/\NoAttr K C f/\fs.lookup f=some v/\Q v H1
noncomputable def sFld(K:Fg)(ta tv:TE)(f:Str):TS:=fun D σ H=>tv σ H fun y H1=>ta σ H1 fun x H2=>∃ a C dx fs,x=.ref a/\H2 a=some (.ins C dx fs)/\Cls K C/\NoAttr K C f/\fs.length < 1000 /\
  D.nx σ (upd H2 a (.ins C dx (putF f y fs)))

section
variable {X:Cx}{o e value:Expr}{f:Str}{pos pos' tpos:Pos}{ta tv:TE}
theorem pe_fld(he:PE X e ta)(hb:attributeBase e f X.env (eval e X.env)=eval e X.env):PE X (.Attribute e f pos) (tFld X.K ta f):=by
  intro pQ s σ H Q I h;refine attr_of hb (thn (he pQ s σ H _ I h) fun u s1 ⟨x,H1,I1,rx,a,C,dx,fs,v,ex,ea,c,n,l,q⟩=>?_)
  subst ex;obtain rfl:u=Value.ref a:=rx;exact getattr_ok I1 ea c n l fun u' s2 I2 ru=>⟨v,H1,I2,ru,q⟩
theorem ps_fld(ha:PE X o ta)(hv:PE X value tv)(hs:swapsWith value (some (.Attribute o f pos')) pos.line X.env=pure false):PS X (.Assign [.Attribute o f pos'] value pos) (sFld X.K ta tv f):=by
  intro pQ s σ H D I h;refine plainObj_wpAny_Assign_Attribute (thn (hv pQ s σ H _ I h) fun u s1 ⟨y,H1,I1,ry,q⟩=>thn (ha pQ s1 σ H1 _ I1 q) fun ov s2 ⟨x,H2,I2,rx,a,C,dx,fs,ex,ea,c,n,l,q2⟩=>?_) hs
  subst ex;obtain rfl:ov=Value.ref a:=rx;exact setattr_ok I2 ea c n l ry fun s3 I3=>⟨σ,_,I3,q2⟩

end

section
variable {X:Cx}{pQ:Li (Ad×Obj)}{σ:St}{H:Hp}{s:Sd}{A:Around}{E:vL->Sd->Prop}{Q:vL->Sd->Prop}{c:vL}{b:Bool}
inductive TyOf(K:Fg)(H:Hp):V->Value->Prop where
  |non:TyOf K H .non (.type "NoneType")
  |bl (x:Bool):TyOf K H (.bl x) (.type "bool")
  |int (i:Int):TyOf K H (.int i) (.type "int")
  |str (x:Str):TyOf K H (.str x) (.type "str")
  |flt (x:UInt64):TyOf K H (.flt x) (.type "float")
  |lst {a:Addr}{xs:List V} (e:H a=some (.lst xs)):TyOf K H (.ref a) (.type "list")
  |frz {a:Addr}{o:Obj}{xs:List V} (e:H a=some (.frz o (.lst xs))):TyOf K H (.ref a) (.type "list")
  |tup {a:Addr}{xs:List V} (e:H a=some (.tup xs)):TyOf K H (.ref a) (.type "tuple")
  |dK {a:Addr}{kvs:List (Key×V)} (e:H a=some (.dK kvs)):TyOf K H (.ref a) (.type "dict")
  |dT {a:Addr}{kvs:List (List Key×V)} (e:H a=some (.dT kvs)):TyOf K H (.ref a) (.type "dict")
  |ins {a C dx:Addr}{fs:List (Str×V)} (e:H a=some (.ins C dx fs)) (cl:Cls K C) (ha:PySem.W.findIn K (.ref C) "__class__"=some (some (.builtin "object.__class__")))
      (hn:PySem.W.specialIn K (.builtin "object.__class__") "__get__"=some (some (.builtin "getset_descriptor.__get__"))) (htk:PySem.W.takesIn K (.builtin "object.__class__")=some true)
      (hm:PySem.W.mroIn K C (.type "object")=some true):TyOf K H (.ref a) (.ref C)
theorem isinst_ok{x:V}{u t:vL}(I:Inv X pQ σ H s)(rx:RelV x u)(ty:TyOf X.K H x t)(e:PySem.W.kitOne X.K t c=some b)(h:∀ tk,Q (.bool b) { s with toks:=tk }) :
    wpAny (model X.prog X.w) A (call (.builtin "isinstance") [u,c]) Q E s:=by
  cases ty with
  |non=>cases (show u=Value.none from rx);exact PySem.W.kia_one PySem.W.kitx_none I.kIn True.intro e (fun z=>nomatch z) h
  |bl y=>cases (show u=Value.bool y from rx);exact PySem.W.kia_one PySem.W.kitx_bool I.kIn True.intro e (fun z=>nomatch z) h
  |int i=>obtain⟨t,q⟩:=(show ∃ t,u=Value.int i t from rx);cases q;exact PySem.W.kia_one PySem.W.kitx_int I.kIn True.intro e (fun z=>nomatch z) h
  |str y=>obtain⟨t,q⟩:=(show ∃ t,u=Value.str y t from rx);cases q;exact PySem.W.kia_one PySem.W.kitx_str I.kIn True.intro e (fun z=>nomatch z) h
  |flt y=>obtain⟨t,q⟩:=(show ∃ t,u=Value.float y t from rx);cases q;exact PySem.W.kia_one PySem.W.kitx_float I.kIn True.intro e (fun z=>nomatch z) h
  |@lst a xs ea=>
    cases (show u=Value.ref a from rx)
    obtain⟨_,_,n,_,h1⟩:=(show ObjOk X.prog X.w H s.heap a (.lst xs) from I.hok a _ ea);exact PySem.W.kia_one PySem.W.kitx_list I.kIn ⟨_,h1,rfl⟩ e (fun z=>nomatch z) h
  |@frz a ob xs ea=>
    cases (show u=Value.ref a from rx)
    obtain⟨_,_,_,n,_,h1⟩:=(show ObjOk X.prog X.w H s.heap a (.frz ob (.lst xs)) from I.hok a _ ea);exact PySem.W.kia_one PySem.W.kitx_list I.kIn ⟨_,h1,rfl⟩ e (fun z=>nomatch z) h
  |@tup a xs ea=>
    cases (show u=Value.ref a from rx)
    obtain⟨_,_,_,p⟩:=(show ObjOk X.prog X.w H s.heap a (.tup xs) from I.hok a _ ea);obtain⟨o,h1,h2,_⟩:=p;exact PySem.W.kia_one PySem.W.kitx_tuple I.kIn ⟨o,h1,h2⟩ e (fun z=>nomatch z) h
  |@dK a kvs ea=>
    cases (show u=Value.ref a from rx)
    obtain⟨_,_,vs,_,p⟩:=(show ObjOk X.prog X.w H s.heap a (.dK kvs) from I.hok a _ ea);obtain⟨o,es,ep,h1,h2,_⟩:=p;exact PySem.W.kia_one PySem.W.kitx_dict I.kIn ⟨o,h1,h2.1⟩ e (fun z=>nomatch z) h
  |@dT a kvs ea=>
    cases (show u=Value.ref a from rx)
    obtain⟨_,_,xs,_,o,es,ep,h1,h2,_⟩:=(show ObjOk X.prog X.w H s.heap a (.dT kvs) from I.hok a _ ea);exact PySem.W.kia_one PySem.W.kitx_dict I.kIn ⟨o,h1,h2.1⟩ e (fun z=>nomatch z) h
  |@ins a C dx fs ea cl ha hn htk hm=>
    cases (show u=Value.ref a from rx)
    obtain⟨mA,O,_⟩:=ins_get I.hok ea;obtain⟨od,J,_⟩:=O.look;exact PySem.W.kia_one (PySem.W.kitx_own (cl.get _) cl.hd ha hn htk hm) I.kIn J e (fun z=>nomatch z) h
end
structure Room(k:Nat)(A:Around):Prop where
  hd:3<=k->A.handled=none
  dp:A.depth+3 * k+5 < recursionLimit
  un:A.units+16 * k+200 < cLine
variable{k:Nat}
theorem Room.mono{j:Nat}(r:Room k A)(h:j<=k):Room j A:=⟨fun z=>r.hd (aG z h),by have:=r.dp;omega,by have:=r.un;omega⟩
theorem Room.deeper(r:Room (k+1) A)(env:Env):Room k (A.deeper env):=
  ⟨fun z=>r.hd (Nat.le_succ_of_le z),by have:=r.dp;show A.depth+1+3 * k+5 < _;omega,by have:=r.un;show A.units+3+16 * k+200 < _;omega⟩
theorem make_depth:(A.under (.builtin "type.__call__" ⟨.ref C :: us,kw⟩)).depth=A.depth+1:=by
  first|rfl|simp[Around.under,Code.weight,Code.isCreation,Code.isGuard,Code.isCaller,Code.frames,Code.isFrame,guardIds]
theorem make_units:(A.under (.builtin "type.__call__" ⟨.ref C :: us,kw⟩)).units=A.units+1:=by
  first|rfl|simp[Around.under,Code.cUnits,Code.frames,Code.isFrame]
theorem Room.make(r:Room (k+1) A)(C:Ad)(us:Li vL)(kw:Li (Str×vL)):Room k (A.under (.builtin "type.__call__" ⟨.ref C :: us,kw⟩)):=
  ⟨fun z=>r.hd (Nat.le_succ_of_le z),by have:=r.dp;rw[make_depth];omega,by have:=r.un;rw[make_units];omega⟩
theorem Room.depth(r:Room k A):A.depth < recursionLimit:=by have:=r.dp;omega
theorem Room.units(r:Room k A):A.units+64 < cLine:=by have:=r.un;omega

noncomputable def tNil:TA:=fun _ H Q=>Q [] H
noncomputable def tCons(ta:TE)(tr:TA):TA:=fun σ H Q=>ta σ H fun x H1=>tr σ H1 fun xs H2=>Q (x :: xs) H2
section
variable {X:Cx}{e:Expr}{es:Li Expr}{te:TE}{t:TA}{pos:Pos}
theorem pa_nil:PA X [] tNil:=fun _ _ _ _ H Q I h=>Calls.spliced_nil ⟨[],H,I,.nil,h⟩
theorem pa_cons(ha:PE X e te)(hr:PA X es t)(hs:starEach (e :: es) X.env=(false,eval e X.env) :: starEach es X.env:=by rfl):PA X (e :: es) (tCons te t):=by
  intro pos pQ s σ H Q I h;rw[hs];show wpAny _ _ (spliced ((false,eval e X.env) :: backTo pos (starEach es X.env))) _ _ s;refine Calls.spliced_cons (thn (ha pQ s σ H _ I h) fun u s1 ⟨x,H1,I1,r1,q1⟩=>?_)
  exact thn (hr pos pQ s1 σ H1 _ I1 q1) fun us s2 ⟨xs,H2,I2,r2,q2⟩=>⟨x :: xs,H2,I2,.cons r1 r2,q2⟩

noncomputable def tTup(t:TA):TE:=fun σ H Q=>t σ H fun xs H1=>xs.length<=sizeLine/\∀ p,H1 p=none->Q (.ref p) (upd H1 p (.tup xs))
noncomputable def tLst(t:TA):TE:=fun σ H Q=>t σ H fun xs H1=>xs.length<=sizeLine/\∀ p,H1 p=none->Q (.ref p) (upd H1 p (.lst xs))
theorem pe_tup{x1}(h:PA X es t):PE X (.Tuple es x1 pos) (tTup t):=by
  intro pQ s σ H Q I hq;refine wpAny_Tuple_spliced (thn (h pos pQ s σ H _ I hq) fun us s1 ⟨xs,H1,I1,r,z,q⟩=>⟨by rw[<-r.length];exact z,?_⟩)
  have hf:H1 s1.heap.objs.size=none:=I1.hok.fresh (aD _);refine⟨.ref s1.heap.objs.size,upd H1 s1.heap.objs.size (.tup xs),I1.laid (t':=s1.toks) (fun b u e=>aH _ e) (aD _) ?_,rfl,q _ hf⟩
  exact⟨z,us,r,⟨_,aS _ rfl,rfl,_,rfl⟩⟩
theorem pe_lst(h:PA X es t):PE X (.List es pos) (tLst t):=by
  intro pQ s σ H Q I hq;refine wpAny_List_spliced (thn (h pos pQ s σ H _ I hq) fun us s1 ⟨xs,H1,I1,r,z,q⟩=>⟨by rw[<-r.length];exact z,?_⟩)
  have hf:H1 s1.heap.objs.size=none:=I1.hok.fresh (aD _);refine⟨.ref s1.heap.objs.size,upd H1 s1.heap.objs.size (.lst xs),I1.laid (t':=s1.toks) (fun b u e=>aH _ e) (aD _) ?_,rfl,q _ hf⟩
  exact⟨z,us,0,r,aS _ rfl⟩
end

abbrev Sp:=Li V->Hp->VK->XK->Prop
abbrev CXT:=Li Env->Hp->Sd->XK->vL->Sd->Prop

structure Env0(P:Program)(w:World)(K:Fg)(mg:Str->Option Value)(base:Heap)(A:Around)(outer:List Env)(s:Shared)(H:Hp):Prop where
  frames:A.frames=some outer
  mod:Mod K mg base
  bs:∀ b o,base.get? b=some o->s.heap.get? b=some o/\H b=none
  bsz:base.objs.size<=s.heap.objs.size
  funs:s.heap.FunFrames base outer
  frf:∀ b∈frs outer,H b=none
  hok:HOk P w H s.heap
  bare:AllBare s.gens
def CE(outer:Li Env)(P:Program)(w:World)(H:Hp)(s:Sd)(Q:VK)(u:vL)(s':Sd):Prop:=
  ∃ v H',s'.os=s.os/\AllBare s'.gens/\Un (frs outer) [] H H' s.heap s'.heap/\HOk P w H' s'.heap/\RelV v u/\Q v H'
def CR(CX:CXT)(outer:Li Env)(P:Program)(w:World)(H:Hp)(s:Sd)(Q:VK)(E:XK)(r:Result)(s':Sd):Prop:=
  match r with
  |.ok (.ret u)=>CE outer P w H s Q u s'
  |.ok _=>False
  |.error e=>CX outer H s E e s'
structure FnOk(P:Program)(w:World)(K:Fg)(mg:Str->Option Value)(base:Heap)(CX:CXT)(k:Nat)(f:Addr)(fd:FuncData)(ps:List Str)(sp:Sp):Prop where
  len:∀ vs H Q E,sp vs H Q E->vs.length=ps.length
  run:∀ (A:Around) (outer:List Env) (s:Shared) (H:Hp) (args:Args) (us:List Value) (vs:List V) (Q:VK) (E:XK),Room k A->Env0 P w K mg base A outer s H->BindsTo s fd args (ps.zip us)->Vals vs us->sp vs H Q E->
    codeAny (model P w) A (.call (.ref f) args) (CR CX outer P w H s Q E) s

variable{mg:Str->Ot vL}{base:Heap}{outer:Li Env}
theorem Env0.make{P:Program}(e:Env0 P w K mg base A outer s H)(C:Ad)(us:Li vL)(kw:Li (Str×vL)) :
    Env0 P w K mg base (A.under (.builtin "type.__call__" ⟨.ref C :: us,kw⟩)) outer s H:=⟨by first|exact e.frames | (simpa[Around.under,Code.envs,Code.isFrame,pushEnvs] using e.frames),e.mod,e.bs,e.bsz,e.funs,e.frf,e.hok,e.bare⟩

section
variable {X:Cx}{pQ:Li (Ad×Obj)}{σ:St}{H:Hp}{s s':Sd}
theorem Inv.env0(I:Inv X pQ σ H s):Env0 X.prog X.w X.K X.mg X.base X.A X.stack s H:=
  ⟨I.ok.frames,I.ok.mod,I.bs,aG I.ok.bsz I.sz,I.stack,I.stkFree,I.hok,I.bare⟩
theorem Inv.after{Q:VK}{u:vL}(I:Inv X pQ σ H s)(h:CE X.stack X.prog X.w H s Q u s'):EP X pQ σ Q u s':=by
  obtain⟨v,H',os,bare,un,hok,r,q⟩:=h;obtain⟨hh,g,d,t,os'⟩:=s';obtain rfl:os'=s.os:=os;exact⟨v,H',I.call (h':=hh) (g':=g) (d':=d) (t':=t) (ch:=[]) un hok bare (fun b z=>absurd z (by simp)),r,q⟩
end

noncomputable def tCall(sp:Sp)(dvs:Li V)(E:XK)(t:TA):TE:=fun σ H Q=>t σ H fun vs H1=>sp (vs++dvs) H1 Q E

def Binds(K:Fg)(fd:FuncData)(ps:Li Str)(ds:Li vL):Prop:=
  ∀ (s:Sd) (us:Li vL),K.In s.heap->(us++ds).length=ps.length->BindsTo s fd ⟨us,[]⟩ (ps.zip (us++ds))
variable{ps:Li Str}
theorem Binds.all{fd:FuncData}(h:∀ us:Li vL,us.length=ps.length->bindArgs fd ⟨us,[]⟩=pure (ps.zip us)):Binds K fd ps []:=fun s us _ hl=>by
  rw[bU]at hl ⊢;exact .of_eq (h us hl)

def Passes(CX:CXT)(X:Cx)(E:XK):Prop:=∀ (pQ:Li (Ad×Obj)) (σ:St) (H:Hp) (s:Sd) (e:vL) (s':Sd),Inv X pQ σ H s->CX X.stack H s E e s'->X.xe e s'

variable{vs:Li V}
section
variable {X:Cx}{CX:CXT}{k:Nat}{f C:Ad}{fd:FuncData}{ps:Li Str}{sp:Sp}{dvs:Li V}{ds:Li vL}{E:XK}{x m:Str}{p pos apos:Pos}{e o:Expr}{es:Li Expr}{ta:TE}{t:TA}

theorem run_fn{σ:St}{Q:VK}(F:FnOk X.prog X.w X.K X.mg X.base CX k f fd ps sp)(hr:Room k X.A)(hb:Binds X.K fd ps ds)(hd:Vals dvs ds)(hx:Passes CX X E)(I:Inv X pQ σ H s)(r:Vals vs us)(h:sp (vs++dvs) H Q E):wpAny (model X.prog X.w) X.A (call (.ref f) us) (EP X pQ σ Q) X.xe s:=by
  have r2:Vals (vs++dvs) (us++ds):=r.append hd;have hl:(us++ds).length=ps.length:=by rw[<-r2.length];exact F.len _ _ _ _ h
  refine wpAny_call (codeAny_mono (F.run X.A X.stack s H ⟨us,[]⟩ (us++ds) (vs++dvs) Q E hr I.env0 (hb s us I.kIn hl) r2 h) fun r s' hq=>?_)
  cases r with
  |error e=>exact hx pQ σ H s e s' I hq
  |ok fl=>
    cases fl with
    |ret u=>exact I.after hq
    |next=>exact False.elim hq
    |brk=>exact False.elim hq
    |cont=>exact False.elim hq

theorem pe_call(F:FnOk X.prog X.w X.K X.mg X.base CX k f fd ps sp)(hr:Room k X.A)(hg:Gl X x)(hm:X.mg x=some (.ref f))(hk:PySem.W.keepIn X.K (.ref f)=true)(hb:Binds X.K fd ps ds)(hd:Vals dvs ds)(hx:Passes CX X E)(ha:PA X (e :: es) t)(hdb:(x==("__debug__":Str))=false:=by decide)(he:starEach (e :: es) X.env=(false,eval e X.env) :: starEach es X.env:=by rfl)(hpl:(backTo pos (starEach es X.env)).any (·.1)=false:=by rfl) :
    PE X (.Call (.Name x p) (e :: es) [] pos) (tCall sp dvs E t):=by
  intro pQ s σ H Q I h;refine wpAny_Call_Name_kw (ld_glob I hg hm ?_ hdb);refine PySem.W.callWith_K (h₀:=X.base) I.ok.mod.kin hk (thn (ha pos pQ s σ H _ I h) fun us s1 ⟨vs,H1,I1,r,q⟩=>⟨I1.kIn,?_⟩) he hpl
  exact run_fn F hr hb hd hx I1 r q
theorem pe_call0(F:FnOk X.prog X.w X.K X.mg X.base CX k f fd ps sp)(hr:Room k X.A)(hg:Gl X x)(hm:X.mg x=some (.ref f))(hk:PySem.W.keepIn X.K (.ref f)=true)(hb:Binds X.K fd ps ds)(hd:Vals dvs ds)(hx:Passes CX X E)(hdb:(x==("__debug__":Str))=false:=by decide):PE X (.Call (.Name x p) [] [] pos) (tCall sp dvs E tNil):=by
  intro pQ s σ H Q I h;refine wpAny_Call_Name_kw (ld_glob I hg hm ?_ hdb);exact PySem.W.callWith_K0 I.kIn hk (run_fn (us:=[]) F hr hb hd hx I .nil h)


structure Mk(K:Fg)(C f:Addr):Prop where
  makes:PySem.W.makesIn K C=true
  init:PySem.W.findIn K (.ref C) "__init__"=some (some (.ref f))
  fn:PySem.W.isFn K (.ref f)=true
  kp:PySem.W.keepIn K (.ref C)=true

theorem run_make{σ:St}{Q:VK}(M:Mk X.K C f)(F:FnOk X.prog X.w X.K X.mg X.base CX k f fd ps sp)(hr:Room (k+1) X.A)(hb:Binds X.K fd ps ds)(hd:Vals dvs ds)(hx:Passes CX X E)(I:Inv X pQ σ H s)(r:Vals vs us)(h:∀ x dx,H x=none->H dx=none->dx≠x->(∀ o,X.K.lookup x≠some o)->sp (.ref x :: (vs++dvs)) (upd (upd H dx (.own x)) x (.ins C dx [])) (fun v H2=>v=.non/\Q (.ref x) H2) E) :
    wpAny (model X.prog X.w) X.A (call (.ref C) us) (EP X pQ σ Q) X.xe s:=by
  have hq:=h (s.heap.objs.size+1) s.heap.objs.size (I.hok.fresh (Nat.le_succ _)) (I.hok.fresh (aD _)) (aQ (Nat.lt_succ_self _)) (fun o z=>absurd (aE (I.kIn _ o z)) (Nat.not_lt.mpr (Nat.le_succ _)))
  have I2:=Inv.made (C:=C) I;have r2:Vals (V.ref (s.heap.objs.size+1) :: (vs++dvs)) (Value.ref (s.heap.objs.size+1) :: (us++ds)):=.cons rfl (r.append hd);have hl:(Value.ref (s.heap.objs.size+1) :: us++ds).length=ps.length:=by
    have e:=r2.length;rw[F.len _ _ _ _ hq]at e;exact e.symm
  refine wpAny_call (make_map (f:=f) I.kIn M.makes M.init (beq_iff_eq.mp M.fn) (codeAny_mono (F.run _ X.stack _ _ ⟨Value.ref (s.heap.objs.size+1) :: us,[]⟩ (Value.ref (s.heap.objs.size+1) :: (us++ds)) _ _ E (hr.make C us [])
    (I2.env0.make C us []) (hb _ (Value.ref (s.heap.objs.size+1) :: us) I2.kIn hl) r2 hq) fun r s' hq'=>?_))
  cases r with
  |error e=>exact hx pQ σ _ _ e s' I2 hq'
  |ok fl=>
    cases fl with
    |ret u=>
      obtain⟨v,H',I3,rv,ev,q3⟩:=I2.after hq';subst ev;exact⟨rv,⟨V.ref (s.heap.objs.size+1),H',I3,rfl,q3⟩⟩
    |next=>exact False.elim hq'
    |brk=>exact False.elim hq'
    |cont=>exact False.elim hq'
end

section
variable {X:Cx}{CX:CXT}{k:Nat}{f C:Ad}{fd:FuncData}{ps ks:Li Str}{sp:Sp}{E:XK}{x m:Str}{p pos apos kpos:Pos}{e o:Expr}{es:Li Expr}{kws:Li Keyword}{te ta:TE}{t tk:TA}{nm:Ot Str}

structure KBinds(K:Fg)(fd:FuncData)(ps ks:List Str)(g:List Value->List Value->List Value)(gV:List V->List V->List V):Prop where
  to:∀ (s:Shared) (us ws:List Value),K.In s.heap->(g us ws).length=ps.length->BindsTo s fd ⟨us,ks.zip ws⟩ (ps.zip (g us ws))
  rel:∀ {vs:List V}{us:List Value}{zs:List V}{ws:List Value},Vals vs us->Vals zs ws->Vals (gV vs zs) (g us ws)
variable {g:Li vL->Li vL->Li vL}{gV:Li V->Li V->Li V}
end

structure FnScope(N P:List Str)(sc:Scope):Prop where
  kind:sc.kind=.function
  co:sc.isCoroutine=false
  gen:sc.isGenerator=false
  nd:N.Nodup
  pre:N.take P.length=P
  par:∀ x∈P,sc.names.lookup x=some .local\/sc.names.lookup x=some .cell
  nofree:∀ y∈sc.names,y.2≠.free

theorem bindL_out{kindOf:Str->Ot NameKind}{x:Str}:∀ {binds:Li (Str×vL)}{m:Str->Ot vL},(∀ v,(x,v)∉binds)->bindL kindOf binds m x=m x
  |[],_,_=>rfl
  | (n,v) :: r,m,h=>by
    unfold bindL;rw[bindL_out fun w hw=>h w (Lm _ hw)]
    split
    · have:x≠n:=by rintro rfl;exact h v Ls
      simp[this]
    · rfl
theorem bindC_out{kindOf:Str->Ot NameKind}{x:Str}:∀ {binds:Li (Str×vL)}{m:Str->Ot vL},(∀ v,(x,v)∉binds)->bindC kindOf binds m x=m x
  |[],_,_=>rfl
  | (n,v) :: r,m,h=>by
    unfold bindC;rw[bindC_out fun w hw=>h w (Lm _ hw)]
    split
    · rfl
    · have:x≠n:=by rintro rfl;exact h v Ls
      simp[this]
theorem bindL_get{kindOf:Str->Ot NameKind}{x:Str}{v:vL}:∀ {P:Li Str}{vs:Li vL}{i:Nat}{m:Str->Ot vL},P.Nodup->P[i]?=some x->vs[i]?=some v->kindOf x=some .local->
    bindL kindOf (P.zip vs) m x=some v
  |[],_,_,_,_,h,_,_=>by simp at h
  |_ :: _,[],_,_,_,_,h,_=>by simp at h
  |p :: P,w :: vs,0,m,nd,h1,h2,hk=>by
    simp at h1 h2;subst h1;subst h2;show bindL kindOf ((p,w) :: P.zip vs) m p=_;unfold bindL;rw[bindL_out fun v hv=>(dO.mp nd).1 (List.of_mem_zip hv).1,if_pos hk]
    simp
  |p :: P,w :: vs,i+1,m,nd,h1,h2,hk=>by
    show bindL kindOf ((p,w) :: P.zip vs) m x=_;unfold bindL;exact bindL_get (i:=i) (dO.mp nd).2 (by simpa using h1) (by simpa using h2) hk
theorem bindC_get{kindOf:Str->Ot NameKind}{x:Str}{v:vL}:∀ {P:Li Str}{vs:Li vL}{i:Nat}{m:Str->Ot vL},P.Nodup->P[i]?=some x->vs[i]?=some v->kindOf x≠some .local->
    bindC kindOf (P.zip vs) m x=some v
  |[],_,_,_,_,h,_,_=>by simp at h
  |_ :: _,[],_,_,_,_,h,_=>by simp at h
  |p :: P,w :: vs,0,m,nd,h1,h2,hk=>by
    simp at h1 h2;subst h1;subst h2;show bindC kindOf ((p,w) :: P.zip vs) m p=_;unfold bindC;rw[bindC_out fun v hv=>(dO.mp nd).1 (List.of_mem_zip hv).1,if_neg hk]
    simp
  |p :: P,w :: vs,i+1,m,nd,h1,h2,hk=>by
    show bindC kindOf ((p,w) :: P.zip vs) m x=_;unfold bindC;exact bindC_get (i:=i) (dO.mp nd).2 (by simpa using h1) (by simpa using h2) hk

noncomputable def start(N:Li Str)(vs:Li V):St:=vs.map some++List.replicate (N.length - vs.length) none

noncomputable def cxOf(CX:CXT)(P:Program)(w:World)(K:Fg)(mg:Str->Ot vL)(base:Heap)(N:Li Str)(qual:Str)(scope:Scope)(f:Ad)(cd:vL)(A:Around)(outer:Li Env)(s:Sd)(H:Hp)(E:XK):Cx where
  prog:=P
  w:=w
  K:=K
  mg:=mg
  base:=base
  A:=A.deeper (envOfC qual scope s.heap.objs.size f cd)
  N:=N
  s₀:=s
  H₀:=H
  env:=envOfC qual scope s.heap.objs.size f cd
  outer:=outer
  stack:=envOfC qual scope s.heap.objs.size f cd :: outer
  ex:=[]
  calm:=A.handled.isNone
  fn:=fun _=>true
  pn:=[]
  xe:=fun e s'=>wpAny (model P w) (A.deeper (envOfC qual scope s.heap.objs.size f cd)) (leaving (envOfC qual scope s.heap.objs.size f cd) e) (fun _ s''=>CX outer H s E e s'') (fun e' s''=>CX outer H s E e' s'') s'

theorem cell_has{sc:Scope}{n:Nat}{x:Str}(h:sc.names.lookup x=some .cell):∃ c,(cellsFrom n sc.names []).lookup x=some c:=by
  have q:=PySem.W.cellsFrom_some sc.names n [] (.inl h);exact Option.isSome_iff_exists.mp q

variable{CX:CXT}
theorem inv_start{P:Program}{qual:Str}{scope:Scope}{f:Ad}{cd:vL}{s1:Sd}{E:XK}(S:FnScope N ps scope)(e0:Env0 P w K mg base A outer s H)(hl:vs.length=ps.length)(r:Vals vs us)(x:InCallC s s.heap.objs.size (bindL (envOfC qual scope s.heap.objs.size f cd).kindOf (ps.zip us) fun _=>none) (cellsFrom (s.heap.objs.size+1) scope.names []) (bindC (envOfC qual scope s.heap.objs.size f cd).kindOf (ps.zip us) fun _=>none) s1) :
    Inv (cxOf CX P w K mg base N qual scope f cd A outer s H E) [] (start N vs) H s1:=by
  have hpl:ps.length<=N.length:=by have:=congrArg List.length S.pre;rw[cG]at this;omega
  obtain⟨h1,tk,rfl,hk⟩:=x.done;have noA:∀ b:Ad,b∉(cxOf CX P w K mg base N qual scope f cd A outer s H E).ex:=fun b z=>absurd (show b∈([]:Li Ad) from z) (by simp)
  refine⟨⟨e0.mod,S.kind,rfl,rfl,aD _,fun y z c h1 h2=>?_,fun y hy=>?_,fun y c _ h=>?_,fun z=>Option.isNone_iff_eq_none.mp z,Around.frames_deeper e0.frames,.inr ⟨rfl,rfl⟩,fun b z=>absurd z (noA b),e0.bs,e0.bsz,fun b _ _=>noA b,fun b z=>absurd z (noA b),e0.funs,e0.frf⟩,
    rfl,e0.bare,Un.kept hk,⟨_,x.toInCall.ns,fun i y v h1 h2 h3=>?_⟩,fun y c h=>⟨_,x.cell y c h⟩,e0.hok.fresh (aD _),fun y c h=>?_,fun p hp=>absurd (show p∈([]:Li (Ad×Obj)) from hp) (by simp),e0.hok.kept hk,?_⟩
  · exact name_of_addr x.apart (PySem.mem_of_lookup h1) (PySem.mem_of_lookup h2)
  · have hy:scope.names.lookup y=some .cell\/scope.names.lookup y=some .free:=hy
    rcases hy with hy|hy
    · exact cell_has hy
    · exact absurd rfl (S.nofree _ (PySem.mem_of_lookup hy))
  · exact Nat.le_of_lt (x.above y c (PySem.mem_of_lookup h))
  · have hi:i < vs.length:=by
      unfold start at h2;by_cases hi:i < vs.length
      · exact hi
      · rw[aY (by simpa using hi)]at h2
        rw[dP]at h2;split at h2<;>cases h2
    have ha:vs[i]?=some v:=by
      unfold start at h2;rw[bF (by simpa using hi),aX]at h2
      cases e:vs[i]? with
      |none=>rw[e]at h2;cases h2
      |some a=>rw[e]at h2;cases h2;rfl
    obtain⟨u,hu,rv⟩:=r.get ha;have hp:ps[i]?=some y:=by
      rw[<-S.pre,List.getElem?_take_of_lt (by omega)];exact h1
    have ndP:ps.Nodup:=by rw[<-S.pre];exact S.nd.sublist (List.take_sublist _ _)
    refine⟨u,rv,?_⟩;rcases S.par y (bG hp) with k|k
    · exact .inl ⟨k,bindL_get ndP hp hu k⟩
    · obtain⟨c,e⟩:=cell_has (n:=s.heap.objs.size+1) k
      refine .inr ⟨.inl k,c,e,?_⟩;have q:=x.cell y c e;rw[bindC_get ndP hp hu (by show scope.names.lookup y≠_;rw[k];decide)]at q
      exact q
  · exact e0.hok.fresh (Nat.le_of_lt (x.above y c (PySem.mem_of_lookup h)))
  · unfold start
    show _=N.length;rw[aI,aF,bQ];omega

theorem fn_of{P:Program}{f:Ad}{name qual:Str}{params:Arguments}{body:Li Stmt}{scope:Scope}{dV kV doc pm cdv ct oc:vL}{an od:Ot Ad}{osl:Array (Ot vL)}{sp:Sp}(lk:K.lookup f=some ⟨oc,od,.func (PySem.W.fnOf name qual params body scope dV kV doc pm an cdv ct),osl⟩)(hcd:PySem.W.codeIn K cdv qual=true)(S:FnScope N ps scope)(len:∀ vs H Q E,sp vs H Q E->vs.length=ps.length)(hbody:∀ (A:Around) (outer:Li Env) (s:Sd) (H:Hp) (vs:Li V) (Q:VK) (E:XK),Room k (A.deeper (envOfC qual scope s.heap.objs.size f cdv))->sp vs H Q E->
      ∃ t,PSs (cxOf CX P w K mg base N qual scope f cdv A outer s H E) body t/\t { nx:=fun _ H'=>Q .non H',rt:=Q } (start N vs) H) :
    FnOk P w K mg base CX (k+1) f (PySem.W.fnOf name qual params body scope dV kV doc pm an cdv ct) ps sp:=by
  refine⟨len,fun A outer s H args us vs Q E hr e0 hb r hsp=>?_⟩
  have hl:=len _ _ _ _ hsp;have KX:K.In s.heap:=e0.mod.kin.keeps fun b o e=>(e0.bs b o e).1
  have lim:s.heap.NoLimit:=e0.mod.nolimit.keeps fun b o e=>(e0.bs b o e).1
  have hkind:∀ y∈ps.zip us,scope.names.lookup y.1=some .local\/(scope.names.lookup y.1=some .cell/\((cellsFrom (s.heap.objs.size+1) scope.names []).lookup y.1).isSome=true):=fun⟨n,v⟩ hy=>by
    rcases S.par n (List.of_mem_zip hy).1 with q|q
    · exact .inl q
    · exact .inr ⟨q,PySem.W.cellsFrom_some _ _ _ (.inl q)⟩
  refine codeAny_call_function hr.depth (KX _ _ lk) rfl S.co S.gen rfl (PySem.W.codeRec_of KX hcd) (hb _ _ _ _ ?_);refine wpAny_newFunctionEnv_cells S.kind hkind fun env he s1 x=>?_
  subst he;refine⟨lim.keeps x.toInCall.keep,codeAny_func ?_⟩;obtain⟨t,ht,hq⟩:=hbody A outer s H vs Q E (hr.deeper _) hsp;have I:Inv (cxOf CX P w K mg base N qual scope f cdv A outer s H E) [] (start N vs) H s1:=inv_start S e0 hl r x;refine aU (ht [] s1 (start N vs) H _ I hq) (fun fl s' hs=>?_) fun e s' hs=>hs
  have fin:∀ {σ':St}{H':Hp}{v:V}{u:vL},Inv (cxOf CX P w K mg base N qual scope f cdv A outer s H E) [] σ' H' s'->RelV v u->Q v H'->CE outer P w H s Q u s':=
    fun {σ' H' v u} J rv q=>⟨v,H',J.os,J.bare,J.base,J.hok,rv,q⟩
  cases fl with
  |ret u=>
    obtain⟨v,σ',H',J,rv,q⟩:=hs;exact fin J rv q
  |next=>
    obtain⟨σ',H',J,q⟩:=hs;exact fin (v:=V.non) (u:=Value.none) J rfl q
  |brk=>
    obtain⟨_,_,_,q⟩:=hs;exact False.elim q
  |cont=>
    obtain⟨_,_,_,q⟩:=hs;exact False.elim q
section
variable {X:Cx}{x:Str}{p pos:Pos}{e:Expr}{es:Li Expr}{t:TA}{id T:String}{r:Li V->Hp->VK->Prop}

noncomputable def tCB(r:Li V->Hp->VK->Prop)(t:TA):TE:=fun σ H Q=>t σ H fun vs H1=>r vs H1 Q
theorem pe_callB(hc:CallR X (.builtin id) r)(hg:Gl X x)(hm:X.mg x=none)(hv:bootBuiltins x=some (.builtin id))(ha:PA X (e :: es) t)(hn:x ≠ "__name__":=by decide)(hdb:(x==("__debug__":Str))=false:=by decide)(he:starEach (e :: es) X.env=(false,eval e X.env) :: starEach es X.env:=by rfl)(hpl:(backTo pos (starEach es X.env)).any (·.1)=false:=by rfl):PE X (.Call (.Name x p) (e :: es) [] pos) (tCB r t):=by
  intro pQ s σ H Q I h;refine wpAny_Call_Name_kw (ld_blt I hg hm hv ?_ hn hdb);exact PyProof.Rows.callWith_builtin1 (thn (ha pos pQ s σ H _ I h) fun us s1 ⟨vs,H1,I1,r1,q1⟩=>hc pQ s1 σ H1 vs us Q I1 r1 q1) he hpl
theorem pe_callTy(hc:CallR X (.type T) r)(hg:Gl X x)(hm:X.mg x=none)(hv:bootBuiltins x=some (.type T))(ha:PA X (e :: es) t)(hn:x ≠ "__name__":=by decide)(hdb:(x==("__debug__":Str))=false:=by decide)(he:starEach (e :: es) X.env=(false,eval e X.env) :: starEach es X.env:=by rfl)(hpl:(backTo pos (starEach es X.env)).any (·.1)=false:=by rfl):PE X (.Call (.Name x p) (e :: es) [] pos) (tCB r t):=by
  intro pQ s σ H Q I h;refine wpAny_Call_Name_kw (ld_blt I hg hm hv ?_ hn hdb);exact PyProof.Rows.callWith_type1 (thn (ha pos pQ s σ H _ I h) fun us s1 ⟨vs,H1,I1,r1,q1⟩=>hc pQ s1 σ H1 vs us Q I1 r1 q1) he hpl
end
end L2

namespace HT
open PySem PyProof.Rows



section
open PySem.SeqAt
open PySem.AutoSeq1 (wpAny_loadPart')
open PySem.MeetsSeq PySem.MeetsSeq2 PySem.MeetsSeq3

end

variable{lo hi:Ot Int}
section
variable {prog:Program}{w:World}{A:Around}{E:vL->Sd->Prop}{s:Sd}



noncomputable def sIx(n d:Nat):Ot Int->Nat
  |none=>d
  |some v=>if v < 0 then (v+(n:Int)).toNat else min v.toNat n
theorem sIx_le(n d:Nat)(hd:d<=n)(o:Ot Int):sIx n d o<=n:=by
  cases o with
  |none=>exact hd
  |some v=>
    show(if v < 0 then (v+(n:Int)).toNat else min v.toNat n)<=n
    by_cases hv:v < 0
    · rw[if_pos hv];omega
    · rw[if_neg hv];exact Nat.min_le_right _ _
theorem clip_eq(v:Int)(n d:Nat):(if v < 0 then max (v+(n:Int)) 0 else min v (n:Int))=((sIx n d (some v):Nat):Int):=by
  show(if v < 0 then max (v+(n:Int)) 0 else min v (n:Int))=(((if v < 0 then (v+(n:Int)).toNat else min v.toNat n):Nat):Int)
  by_cases hv:v < 0
  · simp only[if_pos hv];omega
  · simp only[if_neg hv];omega
theorem adjust_gen(lo hi:Ot Int)(n:Nat):Builtin.Slice.sliceAdjust lo hi 1 (n:Int)=(((sIx n 0 lo:Nat):Int),((sIx n n hi:Nat):Int)):=by
  have h1:¬((1:Int) < 0):=by omega
  unfold Builtin.Slice.sliceAdjust;simp only[h1,if_false];refine Prod.ext ?_ ?_
  · cases lo with
    |none=>rfl
    |some v=>exact clip_eq v n 0
  · cases hi with
    |none=>rfl
    |some v=>exact clip_eq v n n
theorem places_gen(i j:Nat):Builtin.Slice.slicePlaces (i:Int) (j:Int) 1=j - i:=by
  unfold Builtin.Slice.slicePlaces;have h1:(1:Int) > 0:=by omega
  simp only[h1,if_true,cX];split<;>omega
theorem slicePart_{v:vL}{o:Ot Int}{Q:Ot Int->Sd->Prop}(p:IsPart v o)(h:Q o s):wpAny (model prog w) A (Builtin.Slice.slicePartIndex v) Q E s:=by
  cases p with
  |none=>exact slicePart_none h
  |int i t=>exact slicePart_int h
theorem sliceApplied_gen{sl:Ad}{vl vu:vL}{n:Nat}{Q:Int×Int×Nat->Sd->Prop}(hs:s.heap.IsSliceOf sl vl vu .none)(pl:IsPart vl lo)(pu:IsPart vu hi)(h:Q (((sIx n 0 lo:Nat):Int),1,sIx n n hi - sIx n 0 lo) s):wpAny (model prog w) A (Builtin.Slice.sliceApplied (.ref sl) (pure (n:Int))) Q E s:=by
  obtain⟨os,hos,hcs,hds⟩:=id hs;unfold Builtin.Slice.sliceApplied Builtin.Slice.sliceFields;refine aA (aA (wpAny_field hos hds (x:=vl) rfl (aA (wpAny_field hos hds (x:=vu) rfl (aA (wpAny_field hos hds (x:=.none) rfl (aB ?_)))))));refine aA (slicePart_none ?_);show wpAny _ _ (if ((1:Int)==0)=true then _ else _) _ _ s
  rw[if_neg (by decide)]
  refine aA (slicePart_ pl (aA (slicePart_ pu (aA (aB ?_)))));show wpAny _ _ (match Builtin.Slice.sliceAdjust lo hi 1 (n:Int) with | (lo,hi)=>pure (lo,(1:Int),Builtin.Slice.slicePlaces lo hi 1)) _ _ s
  rw[adjust_gen lo hi n];show wpAny _ _ (pure (((sIx n 0 lo:Nat):Int),(1:Int),Builtin.Slice.slicePlaces ((sIx n 0 lo:Nat):Int) ((sIx n n hi:Nat):Int) 1)) _ _ s;rw[places_gen];exact aB h
theorem pick_gen(xs:Array vL)(i k:Nat):((List.range k).filterMap fun(m:Nat)=>xs[((i:Int)+(m:Int) * 1).toNat]?).toArray=((xs.toList.drop i).take k).toArray:=by
  have e:(fun(m:Nat)=>xs[((i:Int)+(m:Int) * 1).toNat]?)=fun m=>xs[i+m]?:=by
    funext m
    have:((i:Int)+(m:Int) * 1).toNat=i+m:=by omega
    rw[this]
  rw[e];have:=pick_run xs i k;rw[List.filterMap_map]at this;have e2:((fun x=>xs[x]?) ∘ fun x=>i+x)=fun m=>xs[i+m]?:=rfl
  rw[e2]at this;rw[this]

theorem getItem_tuple_cut{t sl:Ad}{items:Array vL}{vl vu:vL}{Q:vL->Sd->Prop}(ht:IsTup s.heap t items)(hs:s.heap.IsSliceOf sl vl vu .none)(pl:IsPart vl lo)(pu:IsPart vu hi)(hw:¬(sIx items.size 0 lo=0/\sIx items.size items.size hi=items.size))(h:Q (.ref s.heap.objs.size) { s with heap:=s.heap.push { cls:=.type "tuple",data:=.seq ((items.toList.drop (sIx items.size 0 lo)).take (sIx items.size items.size hi - sIx items.size 0 lo)).toArray } })(hsz:items.size<=sizeLine):wpAny (model prog w) A (getItem (.ref t) (.ref sl)) Q E s:=by
  have htake:sizeOk (.seq ((items.toList.drop (sIx items.size 0 lo)).take (sIx items.size items.size hi - sIx items.size 0 lo)).toArray):=by
    show((items.toList.drop (sIx items.size 0 lo)).take (sIx items.size items.size hi - sIx items.size 0 lo)).toArray.size<=sizeLine;rw[aL,cG,cP,aZ];omega
  have hj:sIx items.size items.size hi<=items.size:=sIx_le _ _ (aD _) hi;obtain⟨os,hos,hcs,hds⟩:=id hs;have hTs:s.TypeIs (.ref sl) "slice":=⟨os,hos,hcs⟩;unfold getItem
  try with_reducible refine wpAny_holding ?_
  first|refine aA (aB ?_)|skip
  refine aA (wpAny_sequenceKey ht.typeIs (by decide) ?_)
  refine aA (wpAny_callSpecial?_slot (name:=Str.ofString "__getitem__") ht.typeIs PyProof.Rows.slot_tuple_getitem
    (wpAny_call_entry PyProof.Rows.slot_tuple_getitem ht.typeIs entry_tuple_getitem ?_ (args_tuple_getitem _ _)))
  show wpAny _ _ (Builtin.Tuple.tupleItemsOf (.ref t) >>= _) _ _ s;refine aA (tupleItemsOf_ ht ?_);refine aA (wpAny_typeOf hTs ?_);rw[if_pos (by decide)]
  refine aA (sliceApplied_gen hs pl pu ?_);have hno:¬((((sIx items.size 0 lo:Nat):Int)==0&&(1:Int)==1&&(sIx items.size items.size hi - sIx items.size 0 lo)==items.size)=true):=by
    intro q;rw[Ba,Ba]at q;have q1:((sIx items.size 0 lo:Nat):Int)=0:=eq_of_beq q.1.1;have q2:sIx items.size items.size hi - sIx items.size 0 lo=items.size:=eq_of_beq q.2;exact hw ⟨by omega,by omega⟩
  show wpAny _ _ (if (((sIx items.size 0 lo:Nat):Int)==0&&(1:Int)==1&&(sIx items.size items.size hi - sIx items.size 0 lo)==items.size)=true then _ else _) _ _ s
  rw[if_neg hno,pick_gen]
  first
    |exact aA (m:=Builtin.Tuple.tupleExact _) (wpAny_newObj_type (aB ⟨_,rfl,aB h⟩) htake)
    |exact aA (m:=Builtin.Tuple.tupleExact _) (wpAny_newObj_type (aA (aB (aB ⟨_,rfl,aB h⟩))) htake)
    |exact aA (aA (m:=Builtin.Tuple.tupleExact _) (wpAny_newObj_type (aB (aB ⟨_,rfl,aB h⟩)) htake))
    |exact aA (aA (m:=Builtin.Tuple.tupleExact _) (wpAny_newObj_type (aB ⟨_,rfl,aB h⟩) htake))
end
end HT

namespace L2
open PySem PySem.Spec PyProof.Rows

abbrev TO:=St->Hp->(Ot Int->Hp->Prop)->Prop
def PO(X:Cx)(e:Ot Expr)(t:TO):Prop:=
  ∀ (pQ:Li (Ad×Obj)) (s:Sd) (σ:St) (H:Hp) (Q:Ot Int->Hp->Prop),Inv X pQ σ H s->t σ H Q->
    wpAny (model X.prog X.w) X.A (evalPart e X.env) (fun u s'=>∃ o H',Inv X pQ σ H' s'/\IsPart u o/\Q o H') X.xe s
noncomputable def tNoPart:TO:=fun _ H Q=>Q none H
noncomputable def tPart(t:TE):TO:=fun σ H Q=>t σ H fun x H1=>∃ i,x=.int i/\Q (some i) H1


section
variable {X:Cx}{e:Expr}{te:TE}{lo hi:Ot Expr}{tl th:TO}{pos p2:Pos}

theorem po_none:PO X none tNoPart:=by
  intro pQ s σ H Q I h;rw[evalPart_none];exact aB ⟨none,H,I,.none,h⟩
theorem po_some(h:PE X e te):PO X (some e) (tPart te):=by
  intro pQ s σ H Q I hw;rw[evalPart_some];refine thn (h pQ s σ H _ I hw) fun u s1 ⟨x,H1,I1,r1,q1⟩=>?_
  obtain⟨i,rfl,q⟩:=q1;obtain⟨t,rfl⟩:=r1;exact⟨some i,H1,I1,.int i t,q⟩

def SlR(X:Cx)(r:V->Ot Int->Ot Int->Hp->VK->Prop):Prop:=
  ∀ (pQ:Li (Ad×Obj)) (s:Sd) (σ:St) (H:Hp) (x:V) (v vl vu:vL) (lo hi:Ot Int) (sl:Ad) (Q:VK),Inv X pQ σ H s->RelV x v->s.heap.IsSliceOf sl vl vu .none->IsPart vl lo->IsPart vu hi->r x lo hi H Q->
    ∃ T id,typeLookup (.type T) "__getitem__"=pure (some (.builtin id))/\s.TypeIs v T/\wpAny (model X.prog X.w) X.A (getItem v (.ref sl)) (EP X pQ σ Q) X.xe s
noncomputable def tSl(r:V->Ot Int->Ot Int->Hp->VK->Prop)(te:TE)(tl th:TO):TE:=fun σ H Q=>te σ H fun x H1=>tl σ H1 fun l H2=>th σ H2 fun u H3=>r x l u H3 Q
theorem pe_slice{r:V->Ot Int->Ot Int->Hp->VK->Prop}(hr:SlR X r)(he:PE X e te)(hl:PO X lo tl)(hu:PO X hi th):PE X (.Subscript e (.Slice lo hi none p2) pos) (tSl r te tl th):=by
  intro pQ s σ H Q I h;refine Subscript_ (thn (he pQ s σ H _ I h) fun v s1 ⟨x,H1,I1,r1,q1⟩=>?_)
  refine wpAny_Slice (thn (hl pQ s1 σ H1 _ I1 q1) fun vl s2 ⟨l,H2,I2,pl,q2⟩=>thn (hu pQ s2 σ H2 _ I2 q2) fun vu s3 ⟨u,H3,I3,pu,q3⟩=>?_)
  rw[evalPart_none];refine aB ?_;have I4:Inv X pQ σ H3 { s3 with heap:=s3.heap.push { cls:=.type "slice",data:=.fields #[vl,vu,.none] } }:=I3.kept (t':=s3.toks) fun b ob q=>aH _ q
  obtain⟨T,id,hT,ht,hg⟩:=hr pQ { s3 with heap:=s3.heap.push { cls:=.type "slice",data:=.fields #[vl,vu,.none] } } σ H3 x v vl vu l u s3.heap.objs.size Q I4 r1 (Heap.IsSliceOf.new ..) pl pu q3
  show wpAny (model X.prog X.w) X.A (subscriptTail e (.Slice lo hi none p2) v (.ref s3.heap.objs.size)) (EP X pQ σ Q) X.xe { s3 with heap:=s3.heap.push { cls:=.type "slice",data:=.fields #[vl,vu,.none] } }
  exact tail_any (ops:=[.ref s3.heap.objs.size,v]) ht hT hg (by with_unfolding_all rfl)

noncomputable def cutV(xs:Li V)(lo hi:Ot Int):Li V:=(xs.drop (HT.sIx xs.length 0 lo)).take (HT.sIx xs.length xs.length hi - HT.sIx xs.length 0 lo)
theorem cutV_length(xs:Li V)(lo hi:Ot Int):(cutV xs lo hi).length<=xs.length:=by
  unfold cutV;rw[cG,cP];omega
def rSlT(K:Fg):V->Ot Int->Ot Int->Hp->VK->Prop:=fun x lo hi H Q=>∃ a xs,x=.ref a/\SqT K H a xs /\
  ¬(HT.sIx xs.length 0 lo=0/\HT.sIx xs.length xs.length hi=xs.length)/\∀ p,H p=none->Q (.ref p) (upd H p (.tup (cutV xs lo hi)))
theorem sl_tup:SlR X (rSlT X.K):=by
  intro pQ s σ H x v vl vu lo hi sl Q I rx hs pl pu h;obtain⟨a,xs,rfl,hx,hw,q⟩:=h;cases rx;obtain⟨its,r,ht,hz⟩:=I.tuple hx;have hlen:its.toArray.size=xs.length:=by rw[aL];exact r.length.symm
  refine⟨"tuple",_,PyProof.Rows.slot_tuple_getitem.lookup,ht.typeIs,?_⟩;refine HT.getItem_tuple_cut ht hs pl pu (by rw[hlen];exact hw) ?_ (by rw[hlen];exact hz)
  rw[hlen];refine⟨.ref s.heap.objs.size,_,I.laid (t':=s.toks) (o:=.tup (cutV xs lo hi)) (fun b ob q=>aH _ q) (aD _) ?_,rfl,q _ (I.hok.fresh (aD _))⟩
  exact⟨aG (cutV_length xs lo hi) hz,_,(r.drop (HT.sIx xs.length 0 lo)).take (HT.sIx xs.length xs.length hi - HT.sIx xs.length 0 lo),IsTup.new _ _⟩

end
noncomputable def ixN(n:Nat)(i:Int):Ot Nat:=if 0<=i then (if i < n then some i.toNat else none) else if -(n:Int)<=i then some (i+n).toNat else none
noncomputable def atI{α:Type}(xs:Li α)(i:Int):Ot α:=(ixN xs.length i).bind fun j=>xs[j]?
variable{n:Nat}
theorem ixN_seq{i:Int}{j:Nat}(h:ixN n i=some j):seqIndex? i n=some j/\j < n/\-(n:Int)<=i/\i < n:=by
  unfold ixN at h;by_cases h0:0<=i
  · rw[if_pos h0]at h
    by_cases h1:i < n
    · rw[if_pos h1]at h
      have e:i.toNat=j:=Option.some.inj h;exact⟨by rw[seqIndex_of h0 h1,e],by omega,by omega,h1⟩
    · rw[if_neg h1]at h;cases h
  · rw[if_neg h0]at h
    by_cases h1:-(n:Int)<=i
    · rw[if_pos h1]at h
      have e:(i+n).toNat=j:=Option.some.inj h;exact⟨by rw[seqIndex_neg (by omega) h1,e],by omega,h1,by omega⟩
    · rw[if_neg h1]at h;cases h
variable{α:Type}
theorem atI_get{xs:Li α}{i:Int}{v:α}(h:atI xs i=some v):∃ j,seqIndex? i xs.length=some j/\xs[j]?=some v/\j < xs.length/\-(xs.length:Int)<=i/\i < xs.length:=by
  unfold atI at h;cases e:ixN xs.length i with
  |none=>rw[e]at h;cases h
  |some j=>
    rw[e]at h;obtain⟨h1,h2,h3,h4⟩:=ixN_seq e;exact⟨j,h1,h,h2,h3,h4⟩

def PlainIx(b:Expr):Prop:=∀ o i,subscripted b false o i=operate [o,i] (getItem o i)
def IxR(X:Cx)(r:R2):Prop:=
  ∀ (value slice:Expr) (pQ:Li (Ad×Obj)) (s:Sd) (σ:St) (H:Hp) (x y:V) (v u:vL) (Q:VK),Inv X pQ σ H s->RelV x v->RelV y u->r x y H Q->
    subscripted slice false v u=operate [v,u] (getItem v u)->wpAny (model X.prog X.w) X.A (subscriptTail value slice v u) (EP X pQ σ Q) X.xe s
def MtR(X:Cx)(id:String)(r:V->Li V->Hp->VK->Prop):Prop:=
  ∀ (pQ:Li (Ad×Obj)) (s:Sd) (σ:St) (H:Hp) (x:V) (xs:Li V) (v:vL) (us:Li vL) (Q:VK),Inv X pQ σ H s->RelV x v->Vals xs us->r x xs H Q->
    wpAny (model X.prog X.w) X.A (call (.builtin id) (v :: us)) (EP X pQ σ Q) X.xe s
variable{x:V}
section
variable {X:Cx}{a b:Expr}{ta tb:TE}{pos:Pos}
theorem pe_ix{r:R2}(hr:IxR X r)(ha:PE X a ta)(hb:PE X b tb)(hs:PlainIx b):PE X (.Subscript a b pos) (tOp r ta tb):=by
  intro pQ s σ H Q I h;exact Subscript_ (binT ha hb I h fun v u s2 x y H2 I2 rx ry q=>hr a b pQ s2 σ H2 x y v u Q I2 rx ry q (hs _ _))

noncomputable def rIxL(K:Fg):R2:=fun x y H Q=>∃ p xs i v,x=.ref p/\y=.int i/\SqL K H p xs/\atI xs i=some v/\Q v H
noncomputable def rIxT(K:Fg):R2:=fun x y H Q=>∃ p xs i v,x=.ref p/\y=.int i/\SqT K H p xs/\atI xs i=some v/\Q v H
noncomputable def rIxS:R2:=fun x y H Q=>∃ z i c,x=.str z/\y=.int i/\z.length<=sizeLine/\atI z.cps.toList i=some c/\Q (.str ⟨#[c]⟩) H
theorem ix_list:IxR X (rIxL X.K):=by
  intro value slice pQ s σ H x y v u Q I rx ry h hs;obtain⟨p,xs,i,z,rfl,rfl,hq,he,q⟩:=h;cases rx;obtain⟨t,rfl⟩:=ry;obtain⟨its,r,pl,hz⟩:=I.list hq;obtain⟨j,h1,h2,h3,h4,h5⟩:=atI_get he;obtain⟨w,ew,rw'⟩:=r.get h2;have hl:=r.length;have hn:=line63;have fin:EP X pQ σ Q w s:=⟨z,H,I,rw',q⟩;by_cases h0:0<=i
  · have hj:i.toNat=j:=by
      rw[seqIndex_of h0 h5]at h1;exact Option.some.inj h1
    exact item_listR pl.isList h0 (by omega) (by rw[hj];simpa using ew) fin hs
  · have hj:(i+(its.toArray.size:Int)).toNat=j:=by
      rw[seqIndex_neg (by omega) h4]at h1
      rw[aL,<-hl];exact Option.some.inj h1
    exact subscriptTail_builtinR (x:=w) pl.isList.typeIs slot_list_getitem.lookup
      (wpAny_getItem_list_neg (Q:=fun r s'=>r=w/\EP X pQ σ Q r s') pl.isList (by omega) (by rw[aL]<;>omega) (by omega) (by rw[hj];simpa using ew) ⟨rfl,fin⟩) hs
theorem ix_tup:IxR X (rIxT X.K):=by
  intro value slice pQ s σ H x y v u Q I rx ry h hs;obtain⟨p,xs,i,z,rfl,rfl,hq,he,q⟩:=h;cases rx;obtain⟨t,rfl⟩:=ry;obtain⟨its,r,pl,hz⟩:=I.tuple hq;obtain⟨j,h1,h2,h3,h4,h5⟩:=atI_get he;obtain⟨w,ew,rw'⟩:=r.get h2;have hl:=r.length;have hn:=line63;have fin:EP X pQ σ Q w s:=⟨z,H,I,rw',q⟩;exact subscriptTail_builtinR (x:=w) pl.typeIs slot_tuple_getitem.lookup
    (getItem_tuple (j:=j) (Q:=fun r s'=>r=w/\EP X pQ σ Q r s') pl (by omega) (by omega) (by rw[aL,<-hl];exact h1) (by simpa using ew) ⟨rfl,fin⟩) hs
theorem ix_str:IxR X rIxS:=by
  intro value slice pQ s σ H x y v u Q I rx ry h hs;obtain⟨z,i,c,rfl,rfl,hz,he,q⟩:=h;obtain⟨t,rfl⟩:=rx;obtain⟨t',rfl⟩:=ry;obtain⟨j,h1,h2,h3,h4,h5⟩:=atI_get he;have hl:z.cps.toList.length=z.length:=by simp[Str.length]
  rw[hl]at h1 h4 h5;have hn:=line63;exact tail_any (typeIs_str s z t) slot_str_getitem.lookup (getItem_str (c:=c) (by
    have e1:decide (i < -(2 ^ 63:Int))=false:=aK (by omega)
    have e2:decide (i>=2 ^ 63)=false:=aK (by omega)
    rw[e1,e2,cQ]) (by rw[h1];simpa using h2) ⟨.str ⟨#[c]⟩,H,I.tok _,⟨_,rfl⟩,q⟩) hs


theorem slice_bounds(lo hi:Ot Int)(n:Nat):(sliceBounds lo hi none n).1=((HT.sIx n 0 lo:Nat):Int)/\(sliceBounds lo hi none n).2.1=((HT.sIx n n hi:Nat):Int)/\(sliceBounds lo hi none n).2.2=1:=by
  refine⟨?_,?_,rfl⟩
  · cases lo with
    |none=>simp[sliceBounds,HT.sIx]
    |some i=>
      simp only[sliceBounds,HT.sIx,Option.getD_none,show(1:Int) > 0 by decide,if_true]
      by_cases h:i < 0
      · simp only[h,if_true]<;>omega
      · simp only[h,if_false]<;>omega
  · cases hi with
    |none=>simp[sliceBounds,HT.sIx]
    |some i=>
      simp only[sliceBounds,HT.sIx,Option.getD_none,show(1:Int) > 0 by decide,if_true]
      by_cases h:i < 0
      · simp only[h,if_true]<;>omega
      · simp only[h,if_false]<;>omega
theorem slicePick_cut(its:Li vL)(lo hi:Ot Int):slicePick its.toArray lo hi none=((its.drop (HT.sIx its.length 0 lo)).take (HT.sIx its.length its.length hi - HT.sIx its.length 0 lo)).toArray:=by
  obtain⟨h1,h2,h3⟩:=slice_bounds lo hi its.toArray.size;unfold slicePick;rw[h1,h2,h3];simp only[sliceRange_one,pick_run,aL]<;>rfl
def rSlL(K:Fg):V->Ot Int->Ot Int->Hp->VK->Prop:=fun x lo hi H Q=>∃ a xs,x=.ref a/\SqL K H a xs/\∀ p,H p=none->Q (.ref p) (upd H p (.lst (cutV xs lo hi)))
theorem sl_list:SlR X (rSlL X.K):=by
  intro pQ s σ H x v vl vu lo hi sl Q I rx hs pl pu h;obtain⟨a,xs,rfl,hx,q⟩:=h;cases rx;obtain⟨its,r,ht,hz⟩:=I.list hx;have hlen:=r.length;refine⟨"list",_,slot_list_getitem.lookup,ht.isList.typeIs,?_⟩;refine wpAny_getItem_list_slice ht.isList hs pl pu .none (by simp) ?_ (by rw[aL]<;>omega)
  rw[slicePick_cut,<-hlen];refine⟨.ref s.heap.objs.size,_,I.laid (t':=s.toks) (o:=.lst (cutV xs lo hi)) (fun b ob q=>aH _ q) (aD _) ?_,rfl,q _ (I.hok.fresh (aD _))⟩
  exact⟨aG (cutV_length xs lo hi) hz,_,0,(r.drop (HT.sIx xs.length 0 lo)).take (HT.sIx xs.length xs.length hi - HT.sIx xs.length 0 lo),aS _ rfl⟩

noncomputable def flatV:V->Bool
  |.non=>true
  |.bl _=>true
  |.int _=>true
  |.str _=>true
  |_=>false
noncomputable def eqV:V->V->Bool
  |.non,.non=>true
  |.bl a,.bl b=>a==b
  |.bl a,.int b=>(if a then 1 else 0)==b
  |.int a,.bl b=>a==(if b then 1 else 0)
  |.int a,.int b=>a==b
  |.str a,.str b=>a==b
  |_,_=>false
theorem eqAt_V{A:Around}{s:Sd}{y:V}{u v:vL}(ry:RelV y u)(rx:RelV x v)(fy:flatV y=true)(fx:flatV x=true):SeqAt.EqAt A s u v (eqV y x):=by
  cases y with
  |non=>
    cases ry;cases x with
    |non=>cases rx;exact SeqAt.EqAt.same _
    |bl b=>cases rx;exact SeqAt.EqAt.none_bool b
    |int b=>obtain⟨t,rfl⟩:=rx;exact SeqAt.EqAt.none_int b t
    |str b=>obtain⟨t,rfl⟩:=rx;exact SeqAt.EqAt.none_str b t
    |_=>exact absurd (show false=true from fx) Bf
  |bl a=>
    cases ry;cases x with
    |non=>cases rx;exact SeqAt.EqAt.bool_none a
    |bl b=>cases rx;exact SeqAt.EqAt.bool_bool a b
    |int b=>obtain⟨t,rfl⟩:=rx;exact SeqAt.EqAt.bool_int a b t
    |str b=>obtain⟨t,rfl⟩:=rx;exact SeqAt.EqAt.bool_str a b t
    |_=>exact absurd (show false=true from fx) Bf
  |int a=>
    obtain⟨t',rfl⟩:=ry;cases x with
    |non=>cases rx;exact SeqAt.EqAt.int_none a t'
    |bl b=>cases rx;exact SeqAt.EqAt.int_bool a t' b
    |int b=>obtain⟨t,rfl⟩:=rx;exact SeqAt.EqAt.int_int a t' b t
    |str b=>obtain⟨t,rfl⟩:=rx;exact SeqAt.EqAt.int_str a t' b t
    |_=>exact absurd (show false=true from fx) Bf
  |str a=>
    obtain⟨t',rfl⟩:=ry;cases x with
    |non=>cases rx;exact SeqAt.EqAt.str_none a t'
    |bl b=>cases rx;exact SeqAt.EqAt.str_bool a t' b
    |int b=>obtain⟨t,rfl⟩:=rx;exact SeqAt.EqAt.str_int a t' b t
    |str b=>obtain⟨t,rfl⟩:=rx;exact SeqAt.EqAt.str_str a t' b t
    |_=>exact absurd (show false=true from fx) Bf
  |_=>exact absurd (show false=true from fy) Bf
noncomputable def eqU(x:V)(u:vL):Bool:=match u with
  |.none=>eqV .non x
  |.bool b=>eqV (.bl b) x
  |.int i _=>eqV (.int i) x
  |.str z _=>eqV (.str z) x
  |_=>false
theorem eqU_of{y:V}{u:vL}(r:RelV y u)(f:flatV y=true):eqU x u=eqV y x:=by
  cases y with
  |non=>cases r;rfl
  |bl b=>cases r;rfl
  |int i=>obtain⟨t,rfl⟩:=r;rfl
  |str z=>obtain⟨t,rfl⟩:=r;rfl
  |_=>exact absurd (show false=true from f) Bf
theorem any_eqU{x:V}:∀ {xs:Li V}{us:Li vL},Vals xs us->xs.all flatV=true->us.any (eqU x)=xs.any fun y=>eqV y x
  |_,_,.nil,_=>rfl
  |y :: xs,u :: us,.cons r t,f=>by
    rw[aT,Ba]at f;rw[cN,cN,eqU_of r f.1,any_eqU t f.2]
theorem mem_eqAt{A:Around}{s:Sd}{x:V}{v:vL}(rx:RelV x v)(fx:flatV x=true):∀ {xs:Li V}{us:Li vL},Vals xs us->xs.all flatV=true->∀ u∈us,SeqAt.EqAt A s u v (eqU x u)
  |_,_,.nil,_=>fun u hu=>by cases hu
  |y :: xs,u :: us,.cons r t,f=>fun u' hu=>by
    rw[aT,Ba]at f;rcases aM.mp hu with rfl|hu
    · rw[eqU_of r f.1];exact eqAt_V r rx f.1 fx
    · exact mem_eqAt rx fx t f.2 u' hu
noncomputable def inV(x:V)(xs:Li V):Bool:=xs.any fun y=>eqV y x
noncomputable def rIn(K:Fg)(neg:Bool):R2:=fun x y H Q=>∃ p xs,y=.ref p/\(SqL K H p xs\/SqT K H p xs)/\flatV x=true/\xs.all flatV=true/\Q (.bl (if neg then !inV x xs else inV x xs)) H
theorem op_in_seq:OpR X (compareOp .In) (rIn X.K false):=by
  intro pQ s σ H x y v u Q I rx ry h;obtain⟨p,xs,rfl,hq,fx,fs,q⟩:=h;cases ry;rcases hq with hq|hq
  · obtain⟨its,r,pl,hz⟩:=I.list hq
    refine SeqAt.in_listAt (eqU x) pl.isList (fun w hw=>mem_eqAt rx fx r fs w (by simpa using hw)) ⟨.bl _,H,I,rfl,?_⟩
    rw[show its.toArray.any (eqU x)=its.any (eqU x) by simp,any_eqU r fs]
    exact q
  · obtain⟨its,r,pl,hz⟩:=I.tuple hq
    refine SeqAt.in_tupleAt (eqU x) pl (fun w hw=>mem_eqAt rx fx r fs w (by simpa using hw)) ⟨.bl _,H,I,rfl,?_⟩
    rw[show its.toArray.any (eqU x)=its.any (eqU x) by simp,any_eqU r fs]
    exact q
theorem op_notIn_seq:OpR X (compareOp .NotIn) (rIn X.K true):=by
  intro pQ s σ H x y v u Q I rx ry h;obtain⟨p,xs,rfl,hq,fx,fs,q⟩:=h;cases ry;rcases hq with hq|hq
  · obtain⟨its,r,pl,hz⟩:=I.list hq
    refine SeqAt.notIn_listAt (eqU x) pl.isList (fun w hw=>mem_eqAt rx fx r fs w (by simpa using hw)) ⟨.bl _,H,I,rfl,?_⟩
    rw[show its.toArray.any (eqU x)=its.any (eqU x) by simp,any_eqU r fs]
    exact q
  · obtain⟨its,r,pl,hz⟩:=I.tuple hq
    refine SeqAt.notIn_tupleAt (eqU x) pl (fun w hw=>mem_eqAt rx fx r fs w (by simpa using hw)) ⟨.bl _,H,I,rfl,?_⟩
    rw[show its.toArray.any (eqU x)=its.any (eqU x) by simp,any_eqU r fs]
    exact q
theorem op_notIn_str:OpR X (compareOp .NotIn) (fun x y H Q=>∃ i j,x=.str i/\y=.str j/\Q (.bl (!(!(Builtin.Str.occurrences j i 0 j.length 1).isEmpty))) H):=by
  intro pQ s σ H x y v u Q I rx ry h;obtain⟨i,j,rfl,rfl,q⟩:=h;obtain⟨t,rfl⟩:=rx;obtain⟨t',rfl⟩:=ry;exact notIn_str ⟨.bl _,H,I,rfl,q⟩

theorem call_len_seq:CallR X (.builtin "len") (fun xs H Q=>∃ p ys,xs=[.ref p]/\(SqL X.K H p ys\/SqT X.K H p ys)/\Q (.int ys.length) H):=by
  intro pQ s σ H xs us Q I r h;obtain⟨p,ys,rfl,hq,q⟩:=h;obtain⟨u,rfl,rx⟩:=vals1 r;cases rx;have hn:=line63;rcases hq with hq|hq
  · obtain⟨its,r',pl,hz⟩:=I.list hq
    have hlen:=r'.length;exact Calls.call_len_list pl.isList (by simp only[aL]<;>omega) ⟨.int ys.length,H,I.tok _,⟨s.toks+1,by rw[aL,hlen]⟩,q⟩
  · obtain⟨its,r',pl,hz⟩:=I.tuple hq
    have hlen:=r'.length;exact len_tuple pl (by simp only[aL]<;>omega) ⟨.int ys.length,H,I.tok _,⟨s.toks+1,by rw[aL,hlen]⟩,q⟩
theorem call_tuple_of:CallR X (.type "tuple") (fun xs H Q=>∃ p ys,xs=[.ref p]/\((SqL X.K H p ys/\∀ l,H l=none->Q (.ref l) (upd H l (.tup ys)))\/(SqT X.K H p ys/\Q (.ref p) H))):=by
  intro pQ s σ H xs us Q I r h;obtain⟨p,ys,rfl,h⟩:=h;obtain⟨u,rfl,rx⟩:=vals1 r;cases rx;rcases h with⟨hq,q⟩|⟨hq,q⟩
  · obtain⟨its,r',pl,hz⟩:=I.list hq
    have hlen:=r'.length;refine call_tuple_list pl.isList (fun h' kp=>?_) (by simp only[aL]<;>omega)
    have I1:Inv X pQ σ H { s with heap:=h' }:=I.kept (t':=s.toks) kp
    have I2:Inv X pQ σ (upd H h'.objs.size (.tup ys)) { s with heap:=h'.push { cls:=.type "tuple",data:=.seq its.toArray } }:=
      I1.laid (t':=s.toks) (fun b o e=>aH _ e) (aD _) (show ObjOk X.prog X.w _ _ _ (.tup ys) from⟨hz,its,r',IsTup.new _ _⟩)
    exact⟨.ref h'.objs.size,_,I2,rfl,q _ (I1.hok.fresh (aD _))⟩
  · obtain⟨its,r',pl,hz⟩:=I.tuple hq
    exact call_tuple_same pl ⟨.ref p,H,I,rfl,q⟩

def tyV(K:Fg)(T:String)(x:V)(H:Hp):Prop:=match x with
  |.str _=>T = "str"
  |.int _=>T = "int"
  |.ref p=>(T = "list"/\∃ xs,SqL K H p xs)\/(T = "tuple"/\∃ o,K.lookup p=some o/\o.cls=.type "tuple"/\o.dict=none) \/
      (T = "dict"/\((∃ kvs,H p=some (.dK kvs))\/∃ kvs,H p=some (.dT kvs)))\/(T = "set"/\∃ S n,H p=some (.set S n))
  |_=>False
theorem tyV_is{pQ:Li (Ad×Obj)}{σ:St}{H:Hp}{s:Sd}{T:String}{v:vL}(I:Inv X pQ σ H s)(r:RelV x v)(ty:tyV X.K T x H) :
    s.TypeIs v T/\∀ a,v=.ref a->∃ ob,s.heap.get? a=some ob/\ob.dict=none:=by
  cases x with
  |str z=>
    obtain⟨t,rfl⟩:=r;cases (show T = "str" from ty)
    exact⟨typeIs_str s z t,fun _ e=>nomatch e⟩
  |int i=>
    obtain⟨t,rfl⟩:=r;cases (show T = "int" from ty)
    exact⟨typeIs_int s i t,fun _ e=>nomatch e⟩
  |ref p=>
    cases r;rcases ty with⟨rfl,xs,hq⟩|⟨rfl,o,hk,hc,hd⟩|⟨rfl,hk⟩|⟨rfl,S,n,hk⟩
    · obtain⟨its,_,pl,_⟩:=I.list hq
      refine⟨pl.isList.typeIs,fun a e=>?_⟩
      cases e;obtain⟨o,n,e,c,hd,_⟩:=pl;exact⟨o,e,hd⟩
    · refine⟨⟨o,I.kIn p o hk,hc⟩,fun a e=>?_⟩
      cases e;exact⟨o,I.kIn _ o hk,hd⟩
    · have z:∃ o,s.heap.get? p=some o/\o.ExactDict:=by
        rcases hk with⟨kvs,hk⟩|⟨kvs,hk⟩
        · obtain⟨_,_,_,_,o,_,_,e,ex,_⟩:=I.hok p _ hk
          exact⟨o,e,ex⟩
        · obtain⟨_,_,_,_,o,_,_,e,ex,_⟩:=I.hok p _ hk
          exact⟨o,e,ex⟩
      obtain⟨o,e,ex⟩:=z;refine⟨⟨o,e,ex.1⟩,fun a e2=>?_⟩
      cases e2;exact⟨o,e,ex.2.1⟩
    · obtain⟨o,_,_,_,e,ex,_⟩:=I.hok p _ hk
      refine⟨⟨o,e,ex.1⟩,fun a e2=>?_⟩
      cases e2;exact⟨o,e,ex.2.1⟩
  |_=>exact False.elim ty
noncomputable def tBM(K:Fg)(T:String)(r:V->Li V->Hp->VK->Prop)(to:TE)(t:TA):TE:=fun σ H Q=>to σ H fun x H1=>tyV K T x H1/\t σ H1 fun xs H2=>r x xs H2 Q
variable {o e:Expr}{es:Li Expr}{to:TE}{t:TA}{name:Str}{apos cpos:Pos}{T id:String}{r:V->Li V->Hp->VK->Prop}
theorem pe_bm(pa:PlainAttrs T)(slot:Slot T name id)(hty:typeOf (.builtin id)=pure (.type "method_descriptor"))(hm:MtR X id r)(ho:PE X o to)(ha:PA X (e :: es) t)(hbase:attributeBase o name X.env (eval o X.env)=eval o X.env:=by rfl)(hfew:((backTo cpos (starEach (e :: es) X.env)).all (fun x=>!x.1)&&(backToKw cpos (keywordEach [] X.env)).all (fun x=>x.1.isSome)
     &&decide ((e :: es).length+([]:Li Keyword).length+(if ([]:Li Keyword).isEmpty then 0 else 1) < 30))=true:=by rfl)(hline:(apos.endLine==cpos.line)=true:=by rfl)(hs:starEach (e :: es) X.env=(false,eval e X.env) :: starEach es X.env:=by rfl)(hplain:(backTo cpos (starEach es X.env)).any (·.1)=false:=by rfl) :
    PE X (.Call (.Attribute o name apos) (e :: es) [] cpos) (tBM X.K T r to t):=by
  intro pQ s σ H Q I h;refine wpAny_Call_method_late hbase hfew hline rfl (thn (ho pQ s σ H _ I h) fun v s1 ⟨x,H1,I1,r1,ty,q1⟩=>?_)
  obtain⟨h1,h2⟩:=tyV_is I1 r1 ty;refine⟨T,id,pa,slot,hty,h1,h2,?_⟩;have hA:=ha cpos pQ s1 σ H1 _ I1 q1;rw[hs]at hA ⊢;refine Calls.callWith_builtin (by show(false||(backTo cpos (starEach es X.env)).any (·.1))=false;rw[hplain]<;>rfl) (Calls.evalArgs_plain ?_)
  exact thn hA fun us s2 ⟨vs,H2,I2,r2,q2⟩=>hm pQ s2 σ H2 x vs v us Q I2 r1 r2 q2
end
def MtM(X:Cx)(id:String)(r:V->Li V->Hp->VK->Prop):Prop:=
  ∀ (pQ:Li (Ad×Obj)) (s:Sd) (σ:St) (H:Hp) (x:V) (xs:Li V) (v:vL) (us:Li vL) (Q:VK),Inv X pQ σ H s->RelV x v->Vals xs us->r x xs H Q->
    wpAny (model X.prog X.w) X.A (call (.builtin id) (v :: us)) (EP X pQ σ Q) X.xe s

theorem Vals.one:∀ {x:V}{us:Li vL},Vals [x] us->∃ u,us=[u]/\RelV x u
  |_,_,.cons r .nil=>⟨_,rfl,r⟩
theorem Vals.rep{xs:Li V}{us:Li vL}(h:Vals xs us):∀ k:Nat,Vals (List.replicate k xs).flatten (List.replicate k us).flatten
  |0=>.nil
  |k+1=>by
    rw[cH,cH,cY,cY];exact Vals.append h (Vals.rep h k)
theorem foldl_rep(its:Li vL):∀ (k:Nat) (acc:Li vL),
    List.foldl (fun x1 x2=>x1++x2) acc.toArray (List.replicate k its.toArray)=(acc++(List.replicate k its).flatten).toArray
  |0,acc=>by simp
  |k+1,acc=>by
    have e:acc.toArray++its.toArray=(acc++its).toArray:=by simp
    have e2:(acc++its)++(List.replicate k its).flatten=acc++(List.replicate (k+1) its).flatten:=by
      rw[cH,cY,bO]
    rw[<-e2,<-foldl_rep its k (acc++its),<-e,cH,List.foldl_cons]

variable{its:Li vL}
section
variable {X:Cx}{pQ:Li (Ad×Obj)}{σ:St}{H:Hp}{s:Sd}{l b:Ad}{xs ys zs:Li V}

theorem Inv.lset{its':Li vL}{f:Array vL->Array vL}{t':Nat}(I:Inv X pQ σ H s)(hH:H l=some (.lst xs))(e:s.heap.get? l=some { cls:=.type "list",data:=.seq its.toArray n })(hf:f its.toArray=its'.toArray)(hv:Vals ys its')(hz:ys.length<=sizeLine) :
    Inv X pQ σ (upd H l (.lst ys)) { s with heap:=s.heap.update l (Obj.mapSeq f),toks:=t' }:=by
  have q:=PySem.IsL.update e f;rw[hf]at q;refine I.write (x:=l) (e:=l) (by rw[hH];exact trivial) (.inl rfl) (fun b' u hb hu=>(Heap.get?_update_other s.heap (Obj.mapSeq f) (Ne.symm hb)).trans hu) ⟨_,q⟩ ?_
  exact⟨hz,its',_,hv,q⟩
theorem Inv.lnew{t':Nat}(I:Inv X pQ σ H s)(hv:Vals ys its)(hz:ys.length<=sizeLine) :
    Inv X pQ σ (upd H s.heap.objs.size (.lst ys)) { s with heap:=s.heap.push { cls:=.type "list",data:=.seq its.toArray },toks:=t' }:=
  I.laid (fun _ _ q=>aH _ q) (aD _) ⟨hz,its,0,hv,aS _ rfl⟩
theorem Inv.fresh(I:Inv X pQ σ H s):H s.heap.objs.size=none:=I.hok.fresh (aD _)
theorem Inv.lstM(I:Inv X pQ σ H s)(hH:H l=some (.lst xs)):xs.length<=sizeLine/\∃ (its:Li vL) (n:Nat),Vals xs its/\xs.length=its.length/\s.heap.get? l=some { cls:=.type "list",data:=.seq its.toArray n }:=by
  obtain⟨z,its,n,r,e⟩:=I.hok l _ hH;exact⟨z,its,n,r,r.length,e⟩

theorem notLongL(h:n<=sizeLine):Builtin.List.listTooLong n=false:=by
  unfold Builtin.List.listTooLong;exact aK (by omega)
end

section
variable {X:Cx}

def rAppend:V->Li V->Hp->VK->Prop:=fun x vs H Q=>∃ l xs y,x=.ref l/\vs=[y]/\H l=some (.lst xs)/\xs.length < sizeLine/\Q .non (upd H l (.lst (xs++[y])))
theorem mt_append:MtM X "list.append" rAppend:=by
  intro pQ s σ H x vs v us Q I rx rv h;obtain⟨l,xs,y,rfl,rfl,hH,hz,q⟩:=h;cases rx;obtain⟨u,rfl,ru⟩:=rv.one;obtain⟨z,its,n,r,hl,e⟩:=I.lstM hH;refine call_meets F.slot_list_append ⟨_,e,rfl⟩ F.entry_list_append (F.args_list_append_2 _ _) (PySem.list_append l its.toArray n u (by rw[aL];omega)) ⟨e,?_⟩
  refine⟨.non,_,I.lset (its':=its++[u]) hH e (by simp) (r.append (.cons ru .nil)) ?_,rfl,q⟩
  rw[aI,eA];omega

def rExtend:V->Li V->Hp->VK->Prop:=fun x vs H Q=>∃ l b xs zs,x=.ref l/\vs=[.ref b]/\H l=some (.lst xs)/\H b=some (.lst zs)/\xs.length+zs.length<=sizeLine/\Q .non (upd H l (.lst (xs++zs)))





noncomputable def rRep:R2:=fun x y H Q=>∃ l k xs,x=.ref l/\y=.int k/\H l=some (.lst xs)/\-(2 ^ 63)<=k/\k < 2 ^ 63/\xs.length * k.toNat<=sizeLine /\
  ∀ p,H p=none->Q (.ref p) (upd H p (.lst (List.replicate k.toNat xs).flatten))
theorem len_rep(xs:Li α)(k:Nat):(List.replicate k xs).flatten.length=k * xs.length:=by
  induction k with
  |zero=>simp
  |succ k ih=>rw[cH,cY,aI,ih,Nat.succ_mul,Nat.add_comm]
theorem op_rep:OpR X (binaryOp .Mult) rRep:=by
  intro pQ s σ H x y v u Q I rx ry h;obtain⟨l,k,xs,rfl,rfl,hH,h1,h2,hz,q⟩:=h;cases rx;obtain⟨t,rfl⟩:=ry;obtain⟨z,its,n,r,hl,e⟩:=I.lstM hH;have hlen:its.toArray.size * k.toNat<=sizeLine:=by rw[aL,<-hl];exact hz
  have hcap:¬its.toArray.size * k.toNat > (2 ^ 63 - 1) / 8:=by
    have:(sizeLine:Nat)<=(2 ^ 63 - 1) / 8:=by decide
    omega
  have hfit:¬(!Builtin.List.listFitsIndex k)=true:=by
    rw[fitsIndex_both h1 h2];exact Bf
  have hlong:¬Builtin.List.listTooLong (its.toArray.size * k.toNat)=true:=by
    rw[notLongL hlen];exact Bf
  have hnew:List.foldl (fun x1 x2=>x1++x2) #[] (List.replicate (if its.toArray.isEmpty=true then 0 else k.toNat) its.toArray)=(List.replicate k.toNat its).flatten.toArray:=by
    have f0:∀ m:Nat,List.foldl (fun x1 x2=>x1++x2) #[] (List.replicate m its.toArray)=(List.replicate m its).flatten.toArray:=fun m=>by
      have:=foldl_rep its m [];rw[List.nil_append]at this;exact this
    rw[f0];cases its with
    |nil=>simp
    |cons a r'=>rw[if_neg (by simp)]
  refine wpAny_binaryOp_repeat_ref (T := "list") (U := "int") (by decide) ⟨_,e,rfl⟩ (fun s'=>typeIs_int s' k t) noFill_list_mul F.fills_int_mul F.slot_int_rmul repeat_list F.slot_int_index.lookup
    (call_meets F.slot_int_rmul (typeIs_int s k t) F.entry_int_rmul (F.args_int_rmul_2 _ _) (int___rmul___int_list k t l its.toArray n)
      ⟨e,rfl,⟨_,e,rfl⟩,call_meets F.slot_list_mul ⟨_,e,rfl⟩ F.entry_list_mul (F.args_list_mul_2 _ _) (AutoListH.list___mul___list_int_3 l its.toArray n k t hfit hcap hlong) ⟨e,?_⟩⟩)
  rw[hnew];exact⟨.ref _,_,I.lnew (t':=s.toks) (r.rep k.toNat) (by rw[len_rep,Nat.mul_comm];exact hz),rfl,q _ I.fresh⟩

end

section
variable {prog:Program}{w:World}{A:Around}{E:vL->Sd->Prop}{s:Sd}
end

section
variable {X:Cx}
end
end L2

namespace Att
open PySem PySem.W PySem.Calls PyProof.Rows

variable{h:Heap}
theorem ints_of_wellAll{P:Params}:∀ (ns:Li Int) (vs:Li vL),WellAll P h vs (ns.map WData.int)->IntsAre vs ns:=by
  intro ns
  induction ns with
  |nil=>
    intro vs w;rw[List.map_nil]at w;cases w;exact .nil
  |cons n ns ih=>
    intro vs w;rw[aP]at w;cases w with
    |cons a b=>
      cases a;exact .cons _ _ (ih _ b)

variable{l:OpenLaw}
theorem script_of{n:Nat}(hn:l.most=some n){P:Params}{args:Li WData}{vals:Li vL}(hpre:l.row.toRowW.claim.pre args=true)(hwl:WellAll P h vals args) :
    ∃ a vs ns,vals=[Value.ref a]/\args=[WData.list (ns.map WData.int)]/\h.get? a=some { cls:=.type "list",data:=.seq vs.toArray }/\IntsAre vs ns/\ns.length<=n:=by
  have hsh:WShape.hasAll [] args [.list .int]=true:=(pre_splitW hpre).1;have hc:l.pre.holds [] { args:=args }=true:=(pre_splitW hpre).2;obtain⟨d,r,rfl,h1,h2⟩:=hasAllW_cons hsh;obtain rfl:=hasAllW_nil h2;obtain⟨xs,rfl,h3⟩:=hasW_list h1;obtain⟨ns,rfl⟩:=items_int h3;have hlen:ns.length<=n:=by
    unfold OpenLaw.pre at hc;have h4:(WTm.not (.lt (.lit (.int (n:Int))) (.len (.arg 0)))).holds [] { args:=[.list (ns.map .int)] }=true:=by
      have h4:=(holds_andW hc).1;rw[hn]at h4;exact h4
    have h5:=condW_of h4 (w_not (w_lt w_lit (w_len_list (w_arg rfl))));rw[aF]at h5;refine dG fun q=>?_
    have q':(n:Int) < ((ns.length:Nat):Int):=by omega
    first
      | (rw[aW q']at h5;exact absurd h5 (by decide))
      | (simp at h5;omega)
  cases hwl with
  |cons w1 w2=>
    cases w2;cases w1 with
    |list ho hall=>exact⟨_,_,ns,rfl,rfl,ho,ints_of_wellAll ns _ hall,hlen⟩

theorem post_true(l:OpenLaw)(args:Li WData):l.row.toRowW.claim.post args (.bool true) args=true:=
  postW_of (r:=l.row.toRowW) (X:=(true==true))
    (show WShape.has [] (.bool true) .bool=true by first|rfl|decide|simp[WShape.has,WShape.arms,WShape.armsAll])
    (show(WTm.eq .res (.lit (.bool true))).value [] { args:=args,res:=some (.bool true),after:=args }=some (.bool (true==true)) from w_eq_bool (w_res rfl) w_lit) rfl


theorem attach_call{n:Nat}{q:Program}{loose:Li Str}{XP:(Str->Ot vL)->Heap->Prop}{YP:World->Heap->Prop}{d:DefRec}(hn:l.most=some n)(hdf:d.params.defaults=[])(call:∀ (w:World) (s₀ s₁:Sd) (mg mb:Str->Ot vL) (fa:Ad) (o:Obj) (pm cd doc:vL) (a:Ad) (vs:Li vL) (ns:Li Int),
      Ground q loose [] XP w s₀ mg mb s₁.heap->YP w s₁.heap->
      s₁.heap.get? fa=some o->o.data=.func (docDef d.name d.params d.body d.scope pm cd doc)->s₁.heap.CodeRec cd d.name->mg d.name=some (.ref fa)->
      s₁.heap.get? a=some { cls:=.type "list",data:=.seq vs.toArray }->IntsAre vs ns->ns.length<=n->s₁.gens=#[]->
      codeAny (model l.prog w) callerA (.call (.ref fa) ⟨[.ref a],[]⟩) (fun r s'=>r=.ok (.ret (.bool true))/\OldK s₁.heap s'.heap/\s'.os=s₁.os/\AllBare s'.gens) s₁) :
    WalkO q loose XP YP l.row.toRowW d [] (fun f vs=>PySem.call f vs):=by
  intro w s₀ s₁ mg mb G Y fa o pm cd doc dV kV ho hd hcd hD hmg hg args vals as hpre hlay hrd hwl hlo;obtain rfl:dV=.none:=Dflts.none hD hdf;obtain rfl:kV=.none:=Dflts.noKw hD;obtain⟨a,vs,ns,rfl,rfl,hobj,hints,hlen⟩:=script_of hn hpre hwl;refine enter_call (codeAny_mono (call w s₀ s₁ mg mb fa o pm cd doc a vs ns G Y ho (fd_plain hd) hcd hmg hobj hints hlen hg) fun r s' hq=>?_)
  obtain⟨rfl,h2,h3,h4⟩:=hq;exact⟨.inl ⟨.bool true,.bool true,[],rfl,fun _=>rfl,.bool true,post_true l _,fun _=>⟨List.Pairwise.nil,fun _ hm=>(nomatch hm)⟩⟩,h2,h3,h4⟩


section
variable {prog:Program}{w:World}{A:Around}{E:vL->Sd->Prop}{s:Sd}{K:Frag}






end
end Att

namespace L2
open PySem PySem.Spec PyProof.Rows

theorem vals_ints:∀ {vs:Li vL}{ns:Li Int},IntsAre vs ns->Vals (ns.map V.int) vs
  |_,_,.nil=>.nil
  |_,_,.cons n t h=>.cons ⟨t,rfl⟩ (vals_ints h)

def Only(H:Hp):Prop:=∀ b,H b=none\/∃ o xs,H b=some (.frz o (.lst xs))

variable{w:World}{K:Fg}{mg:Str->Ot vL}
theorem law_call{P:Program}{mb:Str->Ot vL}{CX:CXT}{k:Nat}{fa a:Ad}{fd:FuncData}{x:Str}{sp:Sp}{s₁:Sd}{vs:Li vL}{ns:Li Int}(KX:K.In s₁.heap)(hns:s₁.heap.Ns mainGlobals mg)(hb:s₁.heap.Ns builtinsNs mb)(hbb:∀ x:Str,x ≠ "__name__"->mb x=bootBuiltins x)(hlim:s₁.heap.NoLimit)(hg:s₁.gens=#[])(ha:s₁.heap.get? a=some { cls:=.type "list",data:=.seq vs.toArray })(hi:IntsAre vs ns)(hl:ns.length<=sizeLine)(hr:Room k callerA)(F:∀ base:Heap,K.In base->base.Ns mainGlobals mg->FnOk P w K mg base CX k fa fd [x] sp)(hbind:∀ (s:Sd) (u:vL),BindsTo s fd ⟨[u],[]⟩ [(x,u)])(hsp:∀ H:Hp,Only H->SqL K H a (ns.map V.int)->sp [.ref a] H (fun v _=>v=.bl true) fun _ _ _=>False)(hCX:∀ H e s',CX [] H s₁ (fun _ _ _=>False) e s'->False) :
    codeAny (model P w) callerA (.call (.ref fa) ⟨[.ref a],[]⟩) (fun r s'=>r=.ok (.ret (.bool true))/\OldK s₁.heap s'.heap/\s'.os=s₁.os/\AllBare s'.gens) s₁:=by
  have rv:=vals_ints hi;have lenV:=hi.length
  -- from an abstract heap in which nothing but the script may be tracked
  have core:∀ H:Hp,Only H->SqL K H a (ns.map V.int)->HOk P w H s₁.heap->(∀ b,H b≠none->b=a)->(H a≠none->K.lookup a=none)->
      codeAny (model P w) callerA (.call (.ref fa) ⟨[.ref a],[]⟩) (fun r s'=>r=.ok (.ret (.bool true))/\OldK s₁.heap s'.heap/\s'.os=s₁.os/\AllBare s'.gens) s₁:=by
    intro H hO hS hok hA hK;have base_of:∀ {b:Ad}{o:Obj},s₁.heap.get? b=some o->H b=none->(hidT s₁.heap H).get? b=some o:=fun e n=>hidT_get e n
    have noA:∀ {b:Ad}{o:Obj}{es:Array DictEntry}{ep:Nat},s₁.heap.get? b=some o->o.data=.dict es ep->H b=none:=fun {b o es ep} e d=>by
      cases q:H b with
      |none=>rfl
      |some u=>
        have e':b=a:=hA b (by rw[q];simp)
        subst e';rw[ha]at e;cases e
        have d':Data.seq vs.toArray _=Data.dict es ep:=d;cases d'
    have nsK:∀ {b:Ad}{m:Str->Ot vL},s₁.heap.Ns b m->(hidT s₁.heap H).Ns b m:=fun {b m} ⟨o,es,ep,e,d,r⟩=>⟨o,es,ep,base_of e (noA e d),d,r⟩
    have hKb:K.In (hidT s₁.heap H):=fun b o e=>base_of (KX b o e) (by
      cases q:H b with
      |none=>rfl
      |some u=>
        have e':b=a:=hA b (by rw[q];simp)
        subst e';rw[hK (by rw[q];simp)]at e;cases e)
    have hM:Mod K mg (hidT s₁.heap H):=⟨hKb,nsK hns,⟨mb,nsK hb,hbb⟩,let ⟨mc,h1,h2⟩:=hlim;⟨mc,nsK h1,h2⟩⟩
    have e0:Env0 P w K mg (hidT s₁.heap H) callerA [] s₁ H:=⟨rfl,hM,fun b o e=>of_hidT e,dF (hidT_size _ _),trivial,fun b hb=>absurd (show b∈([]:Li Ad) from hb) (by simp),hok,.of_eq hg⟩
    refine codeAny_mono ((F _ hKb (nsK hns)).run callerA [] s₁ H ⟨[.ref a],[]⟩ [.ref a] [.ref a] _ _ hr e0 (hbind s₁ (.ref a)) (.cons rfl .nil) (hsp H hO hS)) fun r s' h=>?_
    cases r with
    |error e=>exact(hCX H e s' h).elim
    |ok fl=>
      cases fl with
      |next=>exact False.elim h
      |brk=>exact False.elim h
      |cont=>exact False.elim h
      |ret u=>
        obtain⟨v,H',os,bare,un,hok',r',q⟩:=h;have q':v=.bl true:=q;subst q';obtain rfl:u=Value.bool true:=r';refine⟨rfl,OldK.of_keep fun b o e=>?_,os,bare⟩
        cases q:H b with
        |none=>exact un.keep b o e q (by intro z;exact absurd (show b∈([]:Li Ad) from z) (by simp)) (by simp)
        |some u=>
          rcases hO b with z|⟨ob,xs,z⟩
          · rw[q]at z;cases z
          · have z2:=un.frzs b ob _ z
            obtain⟨e1,_⟩:=hok b _ z;obtain⟨e2,_⟩:=hok' b _ z2;rw[e]at e1;cases e1
            exact e2
  cases hk:K.lookup a with
  |some o=>
    -- the script is one of the module's own objects
    have e:=KX a o hk;rw[ha]at e;cases e;refine core (fun _=>none) (fun _=>.inl rfl) (.inr ⟨_,vs.toArray,_,hk,rfl,rfl,rfl,by rw[aL,lenV];exact hl,by simpa using rv⟩) (fun b u z=>by have z':(none:Ot HO)=some u:=z;cases z') (fun b z=>absurd rfl z) fun z=>absurd rfl z
  |none=>
    refine core (fun b=>if b=a then some (.frz { cls:=.type "list",data:=.seq vs.toArray } (.lst (ns.map V.int))) else none) (fun b=>?_) (.inl (.inr ⟨{ cls:=.type "list",data:=.seq vs.toArray },if_pos rfl⟩)) (fun b u z=>?_) (fun b z=>?_) fun _=>hk
    · by_cases hb:b=a
      · exact .inr ⟨_,_,if_pos hb⟩
      · exact .inl (if_neg hb)
    · by_cases hb:b=a
      · have z':=(if_pos hb).symm.trans z
        cases z';subst hb;exact⟨ha,by rw[aF];exact hl,vs,_,rv,ha⟩
      · have z':=(if_neg hb).symm.trans z
        cases z'
    · by_cases hb:b=a
      · exact hb
      · exact absurd (if_neg hb) z
theorem walk_of{l:PySem.W.OpenLaw}{n k:Nat}{q:Program}{loose:Li Str}{XP:(Str->Ot vL)->Heap->Prop}{YP:World->Heap->Prop}{d:DefRec}{K:Params->Fg}{CX:World->CXT}{sp:World->Sp}{x:Str}(hn:l.most=some n)(hn2:n<=sizeLine)(hdf:d.params.defaults=[])(hr:Room k callerA)(hY:∀ (w:World) (h:Heap),YP w h->(K w.params).In h)(F:∀ (w:World) (mg:Str->Ot vL) (fa:Ad) (h:Heap),(K w.params).In h->h.Ns mainGlobals mg->mg d.name=some (.ref fa)->
      ∃ fd:FuncData,(∀ (s:Sd) (u:vL),BindsTo s fd ⟨[u],[]⟩ [(x,u)]) /\
        ∀ base:Heap,(K w.params).In base->base.Ns mainGlobals mg->FnOk l.prog w (K w.params) mg base (CX w) k fa fd [x] (sp w))(hsp:∀ (w:World) (H:Hp) (a:Ad) (ns:Li Int),ns.length<=n->Only H->SqL (K w.params) H a (ns.map V.int)->sp w [.ref a] H (fun v _=>v=.bl true) fun _ _ _=>False)(hCX:∀ (w:World) (H:Hp) (s:Sd) (e:vL) (s':Sd),CX w [] H s (fun _ _ _=>False) e s'->False) :
    PySem.W.WalkO q loose XP YP l.row.toRowW d [] (fun f vs=>PySem.call f vs):=by
  refine Att.attach_call hn hdf fun w s₀ s₁ mg mb fa o pm cd doc a vs ns G Y ho hd hcd hmg hobj hints hlen hg=>?_
  have KX:=hY w _ Y;obtain⟨fd,hb,hF⟩:=F w mg fa _ KX G.T.g hmg;exact law_call KX G.T.g G.T.b G.T.builtins G.T.nolimit hg hobj hints (aG hlen hn2) hr hF hb (fun H hO hS=>hsp w H a ns hlen hO hS) fun H e s'=>hCX w H s₁ e s'
noncomputable def defArgs(s:Stmt):Arguments:=match s with
  |.FunctionDef _ a _ _ _ _ _ _ _ _=>a
  |_=>{ posonlyargs:=[],args:=[],vararg:=none,kwonlyargs:=[],kw_defaults:=[],kwarg:=none,defaults:=[] }
noncomputable def defBody(s:Stmt):Li Stmt:=match s with
  |.FunctionDef _ _ b _ _ _ _ _ _ _=>b
  |_=>[]
noncomputable def defScope(s:Stmt):Scope:=match s with
  |.FunctionDef _ _ _ _ _ _ sc _ _ _=>sc
  |_=>{ kind:=.function,names:=[],isGenerator:=false,isCoroutine:=false }

noncomputable abbrev CX0:CXT:=fun _ _ _ _ _ _=>False
noncomputable abbrev E0:XK:=fun _ _ _=>False
theorem pass0{X:Cx}:Passes CX0 X E0:=fun _ _ _ _ _ _ _ h=>h.elim

structure Fun(K:Fg)(x qual:Str)(st:Stmt)(f:Addr)(fd:FuncData):Prop where
  ex:∃ (oc:Value) (od:Option Addr) (kV doc pm:Value) (an:Option Addr) (cdv ct:Value) (osl:Array (Option Value)),
    fd=PySem.W.fnOf x qual (defArgs st) (defBody st) (defScope st) .none kV doc pm an cdv ct/\K.lookup f=some ⟨oc,od,.func fd,osl⟩/\PySem.W.codeIn K cdv qual=true
  kp:PySem.W.keepIn K (.ref f)=true
section
variable {P:Program}{w:World}{K:Fg}{mg:Str->Ot vL}{base:Heap}
end

section
variable {X:Cx}
end



variable{u:vL}
section
variable {κ:Type} [DecidableEq κ]
noncomputable def valV(kvs:Li (κ×V))(k:κ):Ot V:=(kvs.find? fun kv=>decide (kv.1=k)).map (·.2)
noncomputable def putK(kvs:Li (κ×V))(k:κ)(v:V):Li (κ×V):=
 if (kvs.any fun kv=>decide (kv.1=k))=true then kvs.map (fun kv=>if kv.1=k then (kv.1,v) else kv) else kvs++[(k,v)]
theorem valV_pos{p:κ×V}{r:Li (κ×V)}{k:κ}(e:p.1=k):valV (p :: r) k=some p.2:=by simp[valV,dQ,e]
theorem valV_neg{p:κ×V}{r:Li (κ×V)}{k:κ}(e:¬p.1=k):valV (p :: r) k=valV r k:=by simp[valV,dQ,e]
theorem length_putK(kvs:Li (κ×V))(k:κ)(v:V):(putK kvs k v).length<=kvs.length+1:=by
 unfold putK;split
 ·rw[aF];omega
 ·rw[aI,bA,List.length_nil];omega
theorem RelO.isSome_eq{o:Ot V}{u:Ot vL}(r:RelO o u):o.isSome=u.isSome:=by
 cases o with
 |none=>cases u with
  |none=>rfl
  |some _=>exact(show False from r).elim
 |some _=>cases u with
  |none=>exact(show False from r).elim
  |some _=>rfl
theorem KV.val{kvs:Li (κ×V)}{vs:Li (κ×vL)}(r:KV kvs vs)(k:κ):RelO (valV kvs k) (valueAt vs k):=by
 unfold KV at r
 induction r with
 |nil=>exact True.intro
 |@cons p q ps qs h t ih=>
  obtain⟨h1,h2⟩:=h;by_cases e:p.1=k
  ·have e':q.1=k:=h1.symm.trans e
   have b:valueAt (q :: qs) k=some q.2:=by simp[valueAt,dQ,e']
   rw[valV_pos e,b];exact h2
  ·have e':¬q.1=k:=fun z=>e (h1.trans z)
   have b:valueAt (q :: qs) k=valueAt qs k:=by simp[valueAt,dQ,e']
   rw[valV_neg e,b];exact ih
theorem KV.any{kvs:Li (κ×V)}{vs:Li (κ×vL)}(r:KV kvs vs)(k:κ):(kvs.any fun kv=>decide (kv.1=k))=vs.any fun kv=>decide (kv.1=k):=by
 unfold KV at r
 induction r with
 |nil=>rfl
 |cons h t ih=>rw[cN,cN,ih,h.1]
theorem KV.repl{kvs:Li (κ×V)}{vs:Li (κ×vL)}(r:KV kvs vs)(k:κ){y:V}(ry:RelV y u) :
  KV (kvs.map fun kv=>if kv.1=k then (kv.1,y) else kv) (vs.map fun kv=>if kv.1=k then (kv.1,u) else kv):=by
 unfold KV at r ⊢
 induction r with
 |nil=>exact .nil
 |@cons p q ps qs h t ih=>
  rw[aP,aP];refine .cons ?_ ih;obtain⟨h1,h2⟩:=h;by_cases e:p.1=k
  ·rw[if_pos e,if_pos (h1.symm.trans e)];exact⟨h1,ry⟩
  ·rw[if_neg e,if_neg (fun z=>e (h1.trans z))];exact⟨h1,h2⟩
theorem KV.put{kvs:Li (κ×V)}{vs:Li (κ×vL)}(r:KV kvs vs)(k:κ){y:V}(ry:RelV y u):KV (putK kvs k y) (stored vs k u):=by
 unfold putK stored;rw[r.any k];by_cases e:(vs.any fun kv=>decide (kv.1=k))=true
 ·rw[if_pos e,if_pos e];exact r.repl k ry
 ·rw[if_neg e,if_neg e];exact Paired.snoc r ⟨rfl,ry⟩
end
theorem kV_is{P:Program}{k:Key}(r:RelV (kV k) u):(mixKind P w).is k u=true:=by
 cases k with
 |inl i=>obtain⟨t,e⟩:=(show ∃ t,u=Value.int i t from r);subst e;exact mixKind_int P w i t
 |inr x=>obtain⟨t,e⟩:=(show ∃ t,u=Value.str x t from r);subst e;exact mixKind_str P w x t
variable{kvs:Li (Key×V)}
section
variable {P:Program}{w:World}{H:Hp}{h:Heap}{a:Ad}
theorem rd_of{u:HO}(ok:HOk P w H h)(e:Rd H a u):ObjOk P w H h a u:=e.ok ok
theorem dk_rd(ok:HOk P w H h)(e:Rd H a (.dK kvs)):kvs.length<=sizeLine/\(a==sysModules)=false/\∃ vs,KV kvs vs/\h.DictOf (mixKind P w) a vs:=
 show ObjOk P w H h a (.dK kvs) from rd_of ok e
theorem dk_of(ok:HOk P w H h)(e:H a=some (.dK kvs)):kvs.length<=sizeLine/\(a==sysModules)=false/\∃ vs,KV kvs vs/\h.DictOf (mixKind P w) a vs:=dk_rd ok (.inl e)
end
variable{h':Heap}
section
variable {X:Cx}{pQ:Li (Ad×Obj)}{σ:St}{H:Hp}{s:Sd}{a:Ad}{y v:V}{u r:vL}{o:Ot V}{A:Around}{E:vL->Sd->Prop}
theorem Inv.big(I:Inv X pQ σ H s):sysModules < s.heap.objs.size:=by
 have h:mainGlobals < s.heap.objs.size:=(I.mod.glob.keeps I.bk).lt;exact Nat.lt_trans (by decide) h
theorem d_write{t':Nat}{ob:HO}(I:Inv X pQ σ H s)(mu:Mut (H a))(hs:Heap.SameBut a s.heap h')(he:∃ q,h'.get? a=some q)(new:ObjOk X.prog X.w (upd H a ob) h' a ob) :
  Inv X pQ σ (upd H a ob) { s with heap:=h',toks:=t' }:=
 I.write (x:=a) (e:=a) mu (.inl rfl) (fun b q hb z=>(hs.2 b hb).trans z) he new
theorem dk_new{P:Program}{H':Hp}{vs:Li (Key×vL)}(z:kvs.length<=sizeLine)(hd:(a==sysModules)=false)(rel:KV kvs vs)(dd:h'.DictOf (mixKind P w) a vs) :
  ObjOk P w H' h' a (.dK kvs):=⟨z,hd,vs,rel,dd⟩
end
variable{H:Hp}
theorem dk_empty{P:Program}(h:Heap)(hb:sysModules < h.objs.size):ObjOk P w H (h.push { cls:=.type "dict",data:=.dict #[] }) h.objs.size (.dK []):=
 ⟨bT _,bH.mpr (Ne.symm (aQ hb)),[],.nil,Heap.DictOf.new h⟩
variable{pQ:Li (Ad×Obj)}
section
variable {X:Cx}
theorem ni_dct{σ:St}{s:Sd}{p:Ad}{k:Key}{Q:VK}(I:Inv X pQ σ H s)(hq:H p=some (.dK kvs))(rx:RelV (kV k) u) :
  (Q (.bl (valV kvs k).isSome) H->wpAny (model X.prog X.w) X.A (compareOp .In u (.ref p)) (EP X pQ σ Q) X.xe s)/\(Q (.bl (!(valV kvs k).isSome)) H->wpAny (model X.prog X.w) X.A (compareOp .NotIn u (.ref p)) (EP X pQ σ Q) X.xe s):=by
 obtain⟨zz,hd,vs,rel,dd⟩:=dk_of I.hok hq;have e:=(rel.val k).isSome_eq;rw[e];exact⟨fun q=>wpAny_in_of (kV_is rx) hd dd.mapOf ⟨.bl _,H,I.tok _,rfl,q⟩,fun q=>wpAny_notIn_of (kV_is rx) hd dd.mapOf ⟨.bl _,H,I.tok _,rfl,q⟩⟩
noncomputable def tDNewK(K:Fg):TE:=fun _ H Q=>∀ p,H p=none->(∀ o,K.lookup p≠some o)->Q (.ref p) (upd H p (.dK []))
theorem pe_dnewK{pos:Pos}:PE X (.Dict [] [] pos) (tDNewK X.K):=fun pQ s σ H Q I h=>
 wpAny_Dict_empty ⟨.ref s.heap.objs.size,_,I.laid (a:=s.heap.objs.size) (o:=.dK []) (t':=s.toks) (fun _ _ q=>aH _ q) (aD _) (dk_empty s.heap I.big),rfl,h _ (I.hok.fresh (aD _)) fun o z=>absurd (aE (I.kIn _ o z)) (bD _)⟩
def rSetK:V->V->V->Hp->(Hp->Prop)->Prop:=fun o i v H Q=>∃ p kvs k,o=.ref p/\i=kV k/\H p=some (.dK kvs)/\kvs.length < sizeLine/\Q (upd H p (.dK (putK kvs k v)))
theorem set_dK:PSet X rSetK:=by
 intro pQ s σ H o i v ov iv u Q I ro ri rv h;obtain⟨a,kvs,k,rfl,rfl,e,l,q⟩:=h;cases ro;obtain⟨z,hd,vs,rel,dd⟩:=dk_of I.hok e;have hz:vs.length<=sizeLine:=by rw[<-rel.length];exact z
 have hl:(putK kvs k v).length<=sizeLine:=by have:=length_putK kvs k v;omega
 refine wpAny_setItem_pairs (hsz:=hz) (kV_is ri) dd fun h' dd' hs=>⟨_,?_,q⟩
 have he:∃ q,h'.get? a=some q:=let ⟨q,_,_,hq,_⟩:=dd';⟨q,hq⟩
 exact d_write I (by rw[e];exact True.intro) hs he (dk_new hl hd (rel.put k rv) dd')
theorem len_dK{σ:St}{s:Sd}{a:Ad}{Q:VK}(I:Inv X pQ σ H s)(e:H a=some (.dK kvs))(q:Q (.int kvs.length) H):wpAny (model X.prog X.w) X.A (call (.builtin "len") [.ref a]) (EP X pQ σ Q) X.xe s:=by
 obtain⟨z,hd,vs,rel,dd⟩:=dk_of I.hok e;refine call_len_dict hd dd (by rw[<-rel.length];rw[sizeLine_eq]at z;omega) ?_
 rw[<-rel.length];exact⟨.int kvs.length,H,I.tok _,⟨_,rfl⟩,q⟩
end
structure Xo(h:Heap)(e C dx:Addr)(t:Option Addr):Prop where
 ob:∃ sl vs,h.get? e=some ⟨.ref C,some dx,.fields vs,sl⟩/\vs.size=6/\vs[1]?=some (t.elim .none .ref)
 tb:∀ a,t=some a->a≠e/\∃ o ts,h.get? a=some o/\o.data=.fields ts/\3 < ts.size/\ts[3]?=some .none
def Kx(fs:Li Ad)(e:Ad)(t:Ot Ad)(h h':Heap):Prop:=
 ∀ b o,h.get? b=some o->b≠e->(∀ a,t=some a->b≠a)->(b∉fs->h'.get? b=some o)/\∃ sl,h'.get? b=some { o with slots:=sl }
theorem funs_nf{base h:Heap}:∀ {l:Li Env},h.FunFrames base l->∀ b∈frs l,∃ o,h.get? b=some o/\∀ vs,o.data≠.fields vs
 |[],_,b,hb=>by simp[frs]at hb
 |env :: l,hf,b,hb=>by
  obtain⟨_,⟨L,o,e1,_,e3,e4⟩,r⟩:=hf;rw[frs,dM,e1]at hb;rcases aM.mp hb with z|z
  ·subst z;exact⟨o,e3,e4⟩
  ·exact funs_nf r b z
variable{base h:Heap}{vs:Array vL}
theorem nofr{l:Li Env}{e:Ad}{o:Obj}(hf:h.FunFrames base l)(he:h.get? e=some o)(hd:o.data=.fields vs):e∉frs l:=fun z=>by
 obtain⟨o',e1,e2⟩:=funs_nf hf e z;rw[he]at e1;cases e1;exact e2 vs hd
theorem upd_fld{a:Ad}{o:Obj}{i:Nat}{x:vL}(e:h.get? a=some o)(d:o.data=.fields vs):(h.update a (Obj.mapFields fun y=>y.setIfInBounds i x)).get? a=some { o with data:=.fields (vs.setIfInBounds i x) }:=by
 obtain⟨c,dd,da,sl⟩:=o;have d:da=.fields vs:=d;subst d;exact Heap.get?_update_self _ e rfl
variable{b:Bool}
section
variable {M:Model}{A:Around}{E:vL->Sd->Prop}{s:Sd}{base:Heap}{env:Env}{outer:Li Env}{L e C dx:Ad}{t:Ot Ad}{Q:Unit->Sd->Prop}
theorem new_tb{l:Li vL}{Q:vL->Sd->Prop}(hl:l.length<=100)(h:Q (.ref s.heap.objs.size) { s with heap:=s.heap.push { cls:=.type "traceback",data:=.fields l.toArray } }):wpAny M A (newFields "traceback" l) Q E s:=by
 unfold newFields newObj;have z:¬l.toArray.size > sizeLine+2:=by rw[aL];unfold sizeLine;omega
 show wpAny M A (if l.toArray.size > sizeLine+2 then _ else newObjAsIs _ _ _) Q E s
 rw[if_neg z];unfold newObjAsIs;exact aA (wpAny_alloc (aB h))
theorem entry_x{head:vL}(hfr:A.frames=some (env :: outer))(hF:s.heap.FunFrames base (env :: outer))(hL:env.frame=some L){sl:Array (Ot vL)}(he:s.heap.get? e=some ⟨.ref C,some dx,.fields vs,sl⟩)(hz:vs.size=6)(h:∀ h' a,s.heap.objs.size<=a->Xo h' e C dx (some a)->Kx (frs (env :: outer)) e none s.heap h'->Q () { s with heap:=h' }) :
  wpAny M A (do
   let a <-frameOf env
   let pl <-entryPlaceOf L b
   let b <-EntryCells.newEntry head a .none (rawInt L) .none pl
   setField (.ref e) 1 b) (fun _ s'=>wpAny M A (setFlight (.ref e) none) Q E s') E s:=by
 refine aA (wpAny_frameOf_fun hfr hF hL fun h1 ⟨z1,z2,z3⟩=>aA (wpAny_entryPlaceOf fun pl hp=>aA ?_))
 have ne:e∉frs (env :: outer):=nofr hF he rfl;have he1:h1.get? e=some ⟨.ref C,some dx,.fields vs,sl⟩:=(z2 e ne).trans he;have hpl:5<=([head,Value.ref L,.none,rawInt L,.none]++if pl.isEmpty=true then List.replicate 6 Value.none else pl).length/\([head,Value.ref L,.none,rawInt L,.none]++if pl.isEmpty=true then List.replicate 6 Value.none else pl).length<=100:=by
  rcases hp with rfl|⟨a,b,c,d,c9,b10,_,rfl⟩
  ·exact⟨show 5<=11 by decide,show 11<=100 by decide⟩
  ·exact⟨show 5<=11 by decide,show 11<=100 by decide⟩
 unfold EntryCells.newEntry;generalize [head,Value.ref L,.none,rawInt L,.none]++(if pl.isEmpty=true then List.replicate 6 Value.none else pl)=l at hpl
 refine new_tb hpl.2 ?_;have sz:h1.objs.size=s.heap.objs.size:=z1;have new:s.heap.get? h1.objs.size=none:=by
  cases q:s.heap.get? h1.objs.size with
  |none=>rfl
  |some o=>
   have:=aE q;rw[sz]at this;exact absurd this (bD _)
 have nae:h1.objs.size≠e:=fun z=>by rw[z,he]at new;cases new
 have he2:=aH { cls:=.type "traceback",data:=.fields l.toArray } he1;refine wpAny_setField he2 rfl (by rw[hz];decide) ?_
 have ht:(h1.push { cls:=.type "traceback",data:=.fields l.toArray }).get? h1.objs.size=some { cls:=.type "traceback",data:=.fields l.toArray }:=aS _ rfl;refine wpAny_setFlight_none (e:=e) (tb:=h1.objs.size) (upd_fld he2 rfl) rfl (by show(vs.setIfInBounds 1 _)[1]?=_;rw[dR];simp[hz]) ((Heap.get?_update_other _ _ (Ne.symm nae)).trans ht) rfl (by rw[aL];omega) ?_
 refine h _ h1.objs.size (dF sz.symm) ⟨⟨sl,vs.setIfInBounds 1 (.ref h1.objs.size),?_,by simp[hz],by rw[dR];simp[hz]⟩,fun a q=>?_⟩ fun b o hb hbe hbt=>?_
 ·exact(Heap.get?_update_other _ _ nae).trans (upd_fld he2 rfl)
 ·cases q
  refine⟨nae,_,_,upd_fld ((Heap.get?_update_other _ _ (Ne.symm nae)).trans ht) rfl,rfl,?_,?_⟩
  ·simp;omega
  ·rw[dR];simp;omega
 ·have hbn:b≠h1.objs.size:=fun z=>by rw[z,new]at hb;cases hb
  have go:∀ {o'},h1.get? b=some o'->(((h1.push { cls:=.type "traceback",data:=.fields l.toArray }).update e (Obj.mapFields fun x=>x.setIfInBounds 1 (.ref h1.objs.size))).update h1.objs.size (Obj.mapFields fun x=>x.setIfInBounds 3 .none)).get? b=some o':=fun q=>
   (Heap.get?_update_other _ _ (Ne.symm hbn)).trans ((Heap.get?_update_other _ _ (Ne.symm hbe)).trans (aH _ q))
  obtain⟨sl',q'⟩:=z3 b o hb;exact⟨fun hn=>go ((z2 b hn).trans hb),sl',go q'⟩
theorem note_x(hfr:A.frames=some (env :: outer))(hF:s.heap.FunFrames base (env :: outer))(hL:env.frame=some L)(x:Xo s.heap e C dx t)(h:∀ h' a,s.heap.objs.size<=a->Xo h' e C dx (some a)->Kx (frs (env :: outer)) e t s.heap h'->Q () { s with heap:=h' }) :
  wpAny M A (noteFrame (.ref e) env) (fun _ s'=>wpAny M A (setFlight (.ref e) none) Q E s') E s:=by
 obtain⟨sl,vs,he,hz,h1⟩:=x.ob;unfold noteFrame;rw[hL];cases t with
 |none=>
  refine aA (wpAny_field he rfl h1 ?_);rw[if_neg (by decide)]
  exact entry_x hfr hF hL he hz h
 |some a=>
  obtain⟨ae,o,ts,q1,q2,q3,q4⟩:=x.tb a rfl;refine aA (wpAny_field he rfl h1 ?_);rw[if_pos (by rfl)]
  refine aA (wpAny_field q1 q2 q4 ?_);rw[if_neg (fun z=>by have:=beq_iff_eq.mp z;unfold rawInt at this;cases this)]
  refine aA (wpAny_setField q1 q2 q3 ?_);have ot:∀ b,b≠a->(s.heap.update a (Obj.mapFields fun x=>x.setIfInBounds 3 .none)).get? b=s.heap.get? b:=fun b hb=>Heap.get?_update_other _ _ (Ne.symm hb)
  refine entry_x (s:={ s with heap:=s.heap.update a (Obj.mapFields fun x=>x.setIfInBounds 3 .none) }) (base:=base) hfr (Heap.FunFrames.of_keeps (fun b o' hb hn=>⟨o',(ot b fun z=>?_).trans hb,rfl⟩) hF) hL ((ot e (Ne.symm ae)).trans he) hz fun h' a' n' x' k'=>h h' a' ?_ x' fun b o' hb hbe hbt=>k' b o' ((ot b (hbt a rfl)).trans hb) hbe fun _ z=>nomatch z
  ·rw[z,q1]at hb
   cases hb;exact hn ts q2
  ·have n':(s.heap.update a (Obj.mapFields fun x=>x.setIfInBounds 3 .none)).objs.size<=a':=n'
   rw[Heap.size_update]at n';exact n'
theorem leave_x(hfr:A.frames=some (env :: outer))(hF:s.heap.FunFrames base (env :: outer))(hL:env.frame=some L)(x:Xo s.heap e C dx t)(h:∀ h' a,s.heap.objs.size<=a->Xo h' e C dx (some a)->Kx (frs (env :: outer)) e t s.heap h'->Q () { s with heap:=h' }) :
  wpAny M A (leaving env (.ref e)) Q E s:=by
 unfold leaving;exact aA (note_x hfr hF hL x h)
end
variable{M:Model}{R:Result->Sd->Prop}
section
variable {prog:Program}{w:World}{A:Around}{E:vL->Sd->Prop}{h:Heap}{g:Array GenState}{d:Drawn}{t:Nat}{os:OsState}{nm q:Str}{C N fI:Ad}{bs bm bmB:Li vL}{hdct:Bool}{sn:Li Str}{sub:Li vL}{ab:Bool}{col:Ot Bool}{dd:Ot Ad}{k0 k1 k2 k3 k5:Ot vL}{B newId initId:String}{rest:Li vL}{oI:Obj}
def Tl(bmB bm:Li vL):Prop:=∃ l:Li Ad,bm=l.map Value.ref++bmB
theorem Tl.has(T:Tl bmB bm){x:String}(hb:bmB.contains (.type x)=b):bm.contains (.type x)=b:=by
 obtain⟨l,rfl⟩:=T
 induction l with
 |nil=>exact hb
 |cons a l ih=>rw[aP,List.cons_append,bV,ih];rfl
theorem chk_new(F:ExcBaseFacts B newId initId bmB)(T:Tl bmB bm){Q:Unit->Sd->Prop}(hC:h.get? C=some (excClassObj nm q C N bs bm hdct sn sub ab col dd k0 k1 k2 k3 k5 newId))(hq:Q () ⟨h,g,d,t,os⟩):wpAny M A (checkBuiltinCall newId ⟨.ref C :: rest,[]⟩) Q E ⟨h,g,d,t,os⟩:=by
 have c1:(Value.ref C :: bm).contains (.type B)=true:=by rw[bV,T.has F.hasB,dH]
 have c2:=F.noStar;simp only[checkBuiltinCall,F.newKind,F.newSplit,F.newRow]
 repeat (first|refine wpAny_madeBy_exc hC ?_|refine wpAny_staticBase_exc hC ?_ | (refine wpAny_isSubtype_exc hC ?_;rw[c1])|refine wpAny_loadPart_at hC ?_|simp only[Bool.false_eq_true,if_false,bne_self_eq_false]|wp_step)
 exact hq
theorem exc_new(F:ExcBaseFacts B newId initId bmB)(T:Tl bmB bm)(hC:h.get? C=some (excClassObj nm q C N bs bm hdct sn sub ab col dd k0 k1 k2 k3 k5 newId))(hq:R (.ok (.ret (.ref (h.objs.size+1)))) ⟨(h.push { cls:=.type "tuple",data:=.seq rest.toArray }).push { cls:=.ref C,data:=.fields #[.ref h.objs.size,.none,.none,.none,.bool false,.none] },g,d,t,os⟩)(hr:rest.length<=sizeLine):codeAny (model prog w) A (.builtin newId ⟨.ref C :: rest,[]⟩) R ⟨h,g,d,t,os⟩:=by
 have c0:=F.ends;have c1:(Value.ref C :: bm).contains (.type B)=true:=by rw[bV,T.has F.hasB,dH]
 have c2:(Value.ref C :: bm).contains (.type "AttributeError")=false:=by rw[bV,T.has F.noAttr];rfl
 have c3:(Value.ref C :: bm).contains (.type "NameError")=false:=by rw[bV,T.has F.noName];rfl
 refine codeAny_builtinAt F.entry ?_;unfold Builtin.«BaseException.__new__»
 refine PySem.wpAt_bind ?_;show PySem.wpAt _ _ _ (stack >>= _) _ _ _;refine PySem.wpAt_bind (PySem.wpAt_stack fun p below=>PySem.wpAt_of_wpAny ?_)
 wp_walk
 refine PySem.wpAt_of_wpAny ?_;rw[F.owner]
 repeat (first | (with_reducible refine wpAny_isSubtype_exc hC ?_;first|rw[c1]|rw[c2]|rw[c3])|with_reducible refine wpAny_loadPart_at hC ?_|with_reducible refine wpAny_madeHere_exc F.canon hC ?_|wp_step)
 show R _ _;rw[Heap.size_push];exact hq
theorem tcall_x{Q:Fin->Sd->Prop}(F:ExcBaseFacts B newId initId bmB)(T:Tl bmB bm)(hC:h.get? C=some (excClassObj nm q C N bs bm hdct sn sub ab col dd k0 k1 k2 k3 k5 newId))(hi:PySem.W.Looks (model prog w) h (typeLookup (.ref C) "__init__") (some (.ref fI)))(hf:h.get? fI=some oI)(hc:oI.cls=.type "function")(hr:rest.length<=sizeLine)(hq:∀ h' e,h.objs.size<=e->h.MadeExcOf h' e (.ref C) rest->wpAny (model prog w) A (call (.ref fI) (.ref e :: rest)) (fun r s'=>r=.none/\Q (.done (.ret (.ref e))) s') E ⟨h',g,d,t,os⟩) :
  wpAny (model prog w) A (Builtin.«type.__call__» { pos:=.ref C :: rest }) Q E ⟨h,g,d,t,os⟩:=by
 unfold Builtin.«type.__call__»
 simp only;have n1:¬(Value.ref C==Value.type "type")=true:=fun z=>nomatch beq_iff_eq.mp z
 rw[if_neg n1];refine aA (wpAny_mroOf_exc hC ?_);rw[if_neg (by simp)]
 refine aA (wpAny_madeBy_exc hC (aA (aB (aA (wpAny_holding (wpAny_call (codeAny_call_builtin_code (Code.quiet_builtin _ F.quiet) (chk_new F T hC (exc_new F T hC ?_ hr)))))))));have hh:∀ b o,h.get? b=some o->((h.push { cls:=.type "tuple",data:=.seq rest.toArray }).push { cls:=.ref C,data:=.fields #[.ref h.objs.size,.none,.none,.none,.bool false,.none] }).get? b=some o:=fun b o z=>aH _ (aH _ z)
 have hn:∀ a,h.objs.size<=a->h.get? a=none:=fun a ha=>by
  cases z:h.get? a with
  |none=>rfl
  |some o=>exact absurd (aE z) (Nat.not_lt.mpr ha)
 have hs:(h.push { cls:=.type "tuple",data:=.seq rest.toArray }).objs.size=h.objs.size+1:=Heap.size_push _ _;have he:((h.push { cls:=.type "tuple",data:=.seq rest.toArray }).push { cls:=.ref C,data:=.fields #[.ref h.objs.size,.none,.none,.none,.bool false,.none] }).get? (h.objs.size+1)=some { cls:=.ref C,data:=.fields #[.ref h.objs.size,.none,.none,.none,.bool false,.none] }:=Heap.get?_push_at hs.symm rfl
 have hm:h.MadeExcOf ((h.push { cls:=.type "tuple",data:=.seq rest.toArray }).push { cls:=.ref C,data:=.fields #[.ref h.objs.size,.none,.none,.none,.bool false,.none] }) (h.objs.size+1) (.ref C) rest:=⟨hh,hn _ (Nat.le_succ _),h.objs.size,he,hn _ (aD _),aH _ (aS _ rfl)⟩;have hC1:=hh C _ hC;generalize hg:(h.push { cls:=.type "tuple",data:=.seq rest.toArray }).push { cls:=.ref C,data:=.fields #[.ref h.objs.size,.none,.none,.none,.bool false,.none] }=h2 at *
 refine aA ?_;unfold isInstance typeOf;refine aA (aA (wpAny_loadPart_at he (aB (wpAny_isSubtype_exc hC1 ?_))));rw[show(Value.ref C :: bm).contains (.ref C)=true by simp]
 rw[if_neg (by decide)]
 refine aA (wpAny_holding ?_);unfold callSpecial? specialOf typeOf
 refine aA (aA (aA (wpAny_loadPart_at he (aB (hi _ _ _ _ hh ?_)))));refine wpAny_holding (aA (wpAny_bindSpecial_def (hh fI _ hf) hc (aA ?_)));refine aU (hq h2 (h.objs.size+1) (Nat.le_succ _) hm) (fun r s' ⟨q1,q2⟩=>?_) fun _ _ z=>z
 subst q1;exact aB (aB q2)
theorem call_x{Q:vL->Sd->Prop}(F:ExcBaseFacts B newId initId bmB)(T:Tl bmB bm)(hC:h.get? C=some (excClassObj nm q C N bs bm hdct sn sub ab col dd k0 k1 k2 k3 k5 newId))(hi:PySem.W.Looks (model prog w) h (typeLookup (.ref C) "__init__") (some (.ref fI)))(hf:h.get? fI=some oI)(hc:oI.cls=.type "function")(hr:rest.length<=sizeLine)(hq:∀ h' e,h.objs.size<=e->h.MadeExcOf h' e (.ref C) rest->wpAny (model prog w) (A.under (Code.builtin "type.__call__" { pos:=.ref C :: rest })) (call (.ref fI) (.ref e :: rest)) (fun r s'=>r=.none/\Q (.ref e) s') E ⟨h',g,d,t,os⟩) :
  wpAny (model prog w) A (call (.ref C) rest) Q E ⟨h,g,d,t,os⟩:=by
 refine wpAny_call (codeAny_of_tree (aA (wpAny_load' hC ?_)));refine aA (wpAny_specialOf ⟨_,hC,rfl⟩ tc_lookup (aA (wpAny_of_eq (tc_bind (.ref C)) (aA (aB ?_)))));refine wpAny_ite_true (by rfl) (aB ⟨rfl,codeAny_call_builtin_at (Code.quiet_builtin _ (by decide +kernel)) entry_typeCall (wpAny_check_type_call_sub hC (tcall_x F T hC hi hf hc hr fun h' e hz hm=>hq h' e hz hm))⟩)
end
section
variable {prog:Program}{w:World}{A:Around}{E:vL->Sd->Prop}{h:Heap}{g:Array GenState}{d:Drawn}{t:Nat}{os:OsState}{nm q:Str}{C H0 N e:Ad}{bs bm bmB:Li vL}{sn:Li Str}{sub:Li vL}{ab:Bool}{col:Ot Bool}{dd:Ot Ad}{k0 k1 k2 k3 k5:Ot vL}{B newId sa owner:String}{vs:Array vL}{name:Str}{v:vL}{tk:Tok}
theorem refuse_tail{self:vL}{what:Str}(T:Tl bmB bm)(h:refuseLoop self what bmB=pure ()):refuseLoop self what bm=pure ():=by
 obtain⟨l,rfl⟩:=T
 induction l with
 |nil=>exact h
 |cons a l ih=>rw[aP,List.cons_append,refuseLoop_ref];exact ih
theorem store_x{Q:Fin->Sd->Prop}(SF:StoreFacts B bmB sa owner)(T:Tl bmB bm)(hC:h.get? C=some (excClassObj nm q C N bs bm true sn sub ab col dd k0 k1 k2 k3 k5 newId))(hl:PySem.W.Looks (model prog w) h (typeLookup (.ref C) name) none)(he:h.get? e=some { cls:=.ref C,data:=.fields vs })(hq:∀ h' tk',h'.get? e=some ⟨.ref C,some h.objs.size,.fields vs,#[]⟩->h'.Ns1 h.objs.size (fun y=>if y=name then some v else none)->(∀ b o,b≠e->h.get? b=some o->h'.get? b=some o)->Q (.done (.ret .none)) ⟨h',g,d,tk',os⟩) :
  wpAny (model prog w) A (Builtin.«object.__setattr__» { pos:=[.ref e,.str name tk,v] }) Q E ⟨h,g,d,t,os⟩:=by
 unfold Builtin.«object.__setattr__»
 simp only;rw[if_neg (by decide),refuse_eq]
 have n1:¬(Value.ref C==Value.type "module")=true:=fun z=>nomatch beq_iff_eq.mp z
 unfold typeOf;refine aA (aA (aA (wpAny_loadPart_at he (aB (aA (wpAny_mroOf_exc hC ?_))))));rw[refuseLoop_ref,refuse_tail T (SF.passes _)];refine aB ?_;unfold Builtin.ObjectAttr.attrName;refine aA (aB (aA (aA (wpAny_loadPart_at he (aB (aA (hl _ _ _ _ (fun _ _ z=>z) ?_)))))))
 unfold Builtin.ObjectAttr.storeTaker?
 refine aA (aB ?_);unfold Builtin.ObjectAttr.storeInOwnDict ownStreamTells;refine aA (aB ?_);rw[if_neg n1];unfold Builtin.ObjectAttr.ownDictForStores instanceDict;refine aA (aA (wpAny_loadPart_at he ?_));simp only;unfold classData;refine aA (aA (wpAny_load' hC (aB ?_)));rw[if_neg (show ¬(!true)=true from Bf)]
 show wpAny _ _ (if (!true||!typeHasDict (.ref C))=true then pure none else _) _ _ _
 rw[if_neg (show ¬(!true||!typeHasDict (.ref C))=true from Bf)];refine aA (wpAny_alloc ?_);have hn:∀ a,h.objs.size<=a->h.get? a=none:=fun a ha=>by
  cases z:h.get? a with
  |none=>rfl
  |some o=>exact absurd (aE z) (Nat.not_lt.mpr ha)
 have ne:e≠h.objs.size:=fun z=>by rw[z,hn _ (aD _)]at he;cases he
 have he1:=aH { cls:=.type "dict",data:=.dict #[] } he;have hd1:(h.push { cls:=.type "dict",data:=.dict #[] }).get? h.objs.size=some { cls:=.type "dict",data:=.dict #[] }:=aS _ rfl;refine aA (wpAny_update' he1 (aB ?_));have he2:((h.push { cls:=.type "dict",data:=.dict #[] }).update e fun o=>{ o with dict:=some h.objs.size }).get? e=some ⟨.ref C,some h.objs.size,.fields vs,#[]⟩:=Heap.get?_update_self _ he1 rfl
 have hd2:((h.push { cls:=.type "dict",data:=.dict #[] }).update e fun o=>{ o with dict:=some h.objs.size }).get? h.objs.size=some { cls:=.type "dict",data:=.dict #[] }:=(Heap.get?_update_other _ _ ne).trans hd1
 have kp2:∀ b o,b≠e->h.get? b=some o->((h.push { cls:=.type "dict",data:=.dict #[] }).update e fun o=>{ o with dict:=some h.objs.size }).get? b=some o:=fun b o hb z=>(Heap.get?_update_other _ _ (Ne.symm hb)).trans (aH _ z)
 unfold Builtin.ObjectAttr.storeInDict Builtin.ObjectAttr.newKeyGuard;refine aA (aB (aA (wpAny_nsSet1 (m:=fun _=>none) (Heap.Ns1.of_empty ?_) fun h' n' sb=>?_)))
 ·exact⟨_,#[],0,hd2,rfl,by simp[StrKeys],by intro;rfl⟩
 ·obtain⟨o,es,ep,o1,o2,o3⟩:=Heap.Ns1.count (ns:=[name]) n' (fun y hy=>by
   by_cases z:y=name
   ·simp[z]
   ·rw[if_neg z]at hy;exact absurd rfl hy)
  refine aA (wpAny_lookBehind o1 ?_ (aB (hq h' _ ?_ n' fun b o hb z=>?_)))
  ·rw[o2]
   show(if es.size > sizeLine+1 then some "dict:memory" else none)=none
   rw[if_neg (by unfold sizeLine;simp at o3;omega)]
  ·exact(sb.2 e ne).trans he2
  ·exact(sb.2 b fun y=>by rw[y,hn _ (aD _)]at z;cases z).trans (kp2 b o hb z)
end
section
variable {prog:Program}{w:World}{A:Around}{E:vL->Sd->Prop}{h:Heap}{g:Array GenState}{d:Drawn}{t:Nat}{os:OsState}{nm q:Str}{C H0 N e:Ad}{bs bm bmB:Li vL}{sn:Li Str}{sub:Li vL}{ab:Bool}{col:Ot Bool}{dd:Ot Ad}{k0 k1 k2 k3 k5:Ot vL}{B newId sa owner:String}{vs:Array vL}{name:Str}{v:vL}{tk:Tok}{K:Fg}
theorem tail_has{x:vL}(T:Tl bmB bm)(h:bmB.contains x=true):bm.contains x=true:=by
 obtain⟨l,rfl⟩:=T
 induction l with
 |nil=>exact h
 |cons a l ih=>rw[aP,List.cons_append,bV,ih,dH]
theorem check_x{o:Obj}{nv:vL}{Q:Unit->Sd->Prop}(SF:StoreFacts B bmB sa owner)(T:Tl bmB bm)(hC:h.get? C=some (excClassObj nm q C N bs bm true sn sub ab col dd k0 k1 k2 k3 k5 newId))(he:h.get? e=some o)(hc:o.cls=.ref C)(hq:Q () ⟨h,g,d,t,os⟩) :
  wpAny M A (checkBuiltinCall sa { pos:=[.ref e,nv,v] }) Q E ⟨h,g,d,t,os⟩:=by
 have ha:=SF.args (.ref e) nv v;unfold checkBuiltinCall;rw[SF.kind,SF.split];simp only;unfold isInstance typeOf;refine aA (aA (aA (wpAny_loadPart_at he (aB ?_))));rw[hc];refine wpAny_isSubtype_exc hC ?_;rw[show(Value.ref C :: bm).contains (.type owner)=true by rw[bV,tail_has T SF.hasOwner,dH]]
 rw[if_neg (by decide)]
 unfold argsOk at ha;cases z:Manifest.signature? sa with
 |none=>exact aB hq
 |some sig=>
  rw[z]at ha;exact wpAny_of_eq ha hq
theorem scall_x{R:Result->Sd->Prop}(SF:StoreFacts B bmB sa owner)(T:Tl bmB bm)(hC:h.get? C=some (excClassObj nm q C N bs bm true sn sub ab col dd k0 k1 k2 k3 k5 newId))(hl:PySem.W.Looks (model prog w) h (typeLookup (.ref C) name) none)(he:h.get? e=some { cls:=.ref C,data:=.fields vs })(hq:∀ h' tk',h'.get? e=some ⟨.ref C,some h.objs.size,.fields vs,#[]⟩->h'.Ns1 h.objs.size (fun y=>if y=name then some v else none)->(∀ b o,b≠e->h.get? b=some o->h'.get? b=some o)->R (.ok (.ret .none)) ⟨h',g,d,tk',os⟩) :
  codeAny (model prog w) A (Code.call (.builtin sa) { pos:=[.ref e,.str name tk,v] }) R ⟨h,g,d,t,os⟩:=
 codeAny_call_builtin SF.slot.plain SF.entry (check_x SF T hC he rfl (store_x SF T hC hl he hq))
theorem setattr_x{Q:Unit->Sd->Prop}(KX:K.In h)(SF:StoreFacts B bmB "object.__setattr__" owner)(T:Tl bmB bm)(hC:h.get? C=some (excClassObj nm q C N bs bm true sn sub ab col dd k0 k1 k2 k3 k5 newId))(hs:PySem.W.findIn K (.ref C) "__setattr__"=some (some (.builtin "object.__setattr__")))(hl:PySem.W.findIn K (.ref C) name=some none)(he:h.get? e=some { cls:=.ref C,data:=.fields vs })(hq:∀ h' tk',h'.get? e=some ⟨.ref C,some h.objs.size,.fields vs,#[]⟩->h'.Ns1 h.objs.size (fun y=>if y=name then some v else none)->(∀ b o,b≠e->h.get? b=some o->h'.get? b=some o)->Q () ⟨h',g,d,tk',os⟩) :
  wpAny (model prog w) A (setAttr (.ref e) name v) Q E ⟨h,g,d,t,os⟩:=
 PySem.W.set_plain (od:=none) KX ⟨he,rfl,rfl,trivial⟩ hs (scall_x SF T hC (PySem.W.looks_findIn KX hl) he hq)
end
def fX(C e dx:Ad):Heap->Prop:=fun h=>∃ sl vs,h.get? e=some ⟨.ref C,some dx,.fields vs,sl⟩/\vs.size=6
variable{C dx:Ad}
theorem fX_ok{P:Program}{e:Ad}(x:fX C e dx h):ObjOk P w H h e (.ext (fX C e dx)):=
 ⟨x,let ⟨_,_,q,_⟩:=x;⟨_,q⟩,fun _ _ ⟨sl,vs,q,z⟩ k=>⟨sl,vs,k _ q,z⟩⟩
theorem Xo.f{e:Ad}{t:Ot Ad}(x:Xo h e C dx t):fX C e dx h:=let ⟨sl,vs,q,z,_⟩:=x.ob;⟨sl,vs,q,z⟩
noncomputable def CX1(P:Program)(w:World):CXT:=fun outer H s E e s'=>∃ (ea C dx:Ad) (t:Ot Ad) (H':Hp),e=.ref ea/\(s'.os=s.os/\AllBare s'.gens/\Un (frs outer) [] H H' s.heap s'.heap/\HOk P w H' s'.heap) /\
 (Xo s'.heap ea C dx t/\H' ea=some (.ext (fX C ea dx))/\s.heap.objs.size<=ea/\∀ a,t=some a->H' a=none/\s.heap.objs.size<=a)/\E (.ref C) (some dx) H'
def XS(X:Cx)(pQ:Li (Ad×Obj))(σ:St)(E:XK)(e:vL)(s':Sd):Prop:=∃ (ea C dx:Ad) (t:Ot Ad) (H':Hp),e=.ref ea/\Inv X pQ σ H' s' /\
 (Xo s'.heap ea C dx t/\H' ea=some (.ext (fX C ea dx))/\X.s₀.heap.objs.size<=ea/\∀ a,t=some a->H' a=none/\X.s₀.heap.objs.size<=a/\a≠X.env.locals)/\E (.ref C) (some dx) H'
section
variable {X:Cx}{pQ:Li (Ad×Obj)}{σ:St}{H H':Hp}{s s':Sd}{E:XK}{e:vL}
theorem hok_x{P:Program}{e:Ad}(ok:HOk P w H h)(he:H e=some (.ext (fX C e dx)))(x:fX C e dx h')(k:∀ b o u,b≠e->H b=some u->h.get? b=some o->h'.get? b=some o):HOk P w H h':=fun b u q=>by
 by_cases z:b=e
 ·subst z
  rw[he]at q;cases q;exact fX_ok x
 ·exact(ok b u q).stay (fun c v hc q'=>by
   rcases hc with hc|hc
   ·rw[hc]at q' ⊢;exact k b v u z q q'
   ·exact k c v _ (fun y=>by rw[y,he]at hc;cases hc) hc q') (fun _ z=>z) fun _ _ z=>z
theorem xs_leave{P:Program}{N:Li Str}{qual:Str}{scope:Scope}{f:Ad}{cd:vL}{A:Around}{outer:Li Env}(h:XS (cxOf (CX1 P w) P w K mg base N qual scope f cd A outer s H E) pQ σ E e s'):(cxOf (CX1 P w) P w K mg base N qual scope f cd A outer s H E).xe e s':=by
 obtain⟨ea,C,dx,t,H',rfl,I,⟨x,n1,z1,tt⟩,q⟩:=h;refine leave_x (base:=base) (outer:=outer) (L:=s.heap.objs.size) I.ok.frames I.stack rfl x fun h' a na x' k=>?_
 have far:∀ b o,s.heap.get? b=some o->b≠ea/\(∀ a,t=some a->b≠a)/\b≠s.heap.objs.size:=fun b o hb=>by
  have:=aE hb;exact⟨fun z=>absurd (aJ this z1) (z ▸ bD _),fun a ha z=>absurd (aJ this (tt a ha).2.1) (z ▸ bD _),aQ this⟩
 have bs:Un (frs outer) [] H H' s.heap s'.heap:=I.base;have kk:∀ b o,s'.heap.get? b=some o->b≠ea->H' b≠none->h'.get? b=some o:=fun b o hb he hn=>(k b o hb he (fun a ha z=>hn (z ▸ (tt a ha).1))).1 fun z=>hn (I.stkFree b z)
 refine⟨ea,C,dx,some a,H',rfl,⟨I.os,I.bare,⟨fun b o hb hn hf _=>?_,fun b o hb hn hf _=>?_,bs.free,fun b o hb _=>?_,bs.tups,bs.frzs,bs.tbls⟩,hok_x I.hok n1 x'.f fun b o u hn hu hb=>kk b o hb hn (by rw[hu];exact fun z=>nomatch z)⟩,⟨x',n1,z1,fun b hb=>?_⟩,q⟩
 ·obtain⟨f1,f2,f3⟩:=far b o hb
  refine(k b o (bs.keep b o hb hn hf (by simp)) f1 f2).1 fun z=>?_
  rcases aM.mp (show b∈s.heap.objs.size :: frs outer from z) with z|z
  ·exact f3 z
  ·exact hf z
 ·obtain⟨f1,f2,f3⟩:=far b o hb
  obtain⟨sl,e1⟩:=bs.slot b o hb hn hf (by simp)
  obtain⟨sl',e2⟩:=(k b _ e1 f1 f2).2;exact⟨sl',e2⟩
 ·obtain⟨f1,f2,f3⟩:=far b o hb
  obtain⟨o',e1⟩:=bs.there b o hb (by simp)
  obtain⟨sl',e2⟩:=(k b _ e1 f1 f2).2;exact⟨_,e2⟩
 ·cases hb
  exact⟨I.hok.fresh na,aG I.sz na⟩
theorem pass_x(h:∀ pQ σ e s',XS X pQ σ E e s'->X.xe e s'):Passes (CX1 X.prog X.w) X E:=fun pQ σ H s e s' I hx=>by
 obtain⟨ea,C,dx,t,H',rfl,⟨os,ba,un,ok⟩,⟨x,n1,z1,tt⟩,q⟩:=hx;have lt:=I.lt;refine h pQ σ _ s' ⟨ea,C,dx,t,H',rfl,I.call' os un ok ba (fun _ z=>absurd z (by simp)),⟨x,n1,aG I.sz z1,fun a ha=>⟨(tt a ha).1,aG I.sz (tt a ha).2,fun z=>?_⟩⟩,q⟩
 ·exact absurd (aJ lt (tt a ha).2) (z ▸ bD _)
end
section
variable {M:Model}{A:Around}{E:vL->Sd->Prop}{env:Env}{nm q:Str}{C N:Ad}{bs bm:Li vL}{hdct:Bool}{sn:Li Str}{sub:Li vL}{ab:Bool}{col:Ot Bool}{dd:Ot Ad}{k0 k1 k2 k3 k5:Ot vL}{newId:String}{s:Sd}{x:Sem vL}{Q:Flow->Sd->Prop}
theorem raise_x(hb:bm.contains (.type "BaseException")=true)(hh:A.handled=none)(h:wpAny M A x (fun v s1=>∃ e oe vs,v=.ref e/\s1.heap.get? C=some (excClassObj nm q C N bs bm hdct sn sub ab col dd k0 k1 k2 k3 k5 newId)/\s1.heap.get? e=some oe/\oe.cls=.ref C/\oe.data=.fields vs/\vs[1]?=some .none/\E (.ref e) s1) E s) :
  wpAny M A (raiseStmt env (some x) none) Q E s:=by
 have hcB:(Value.ref C :: bm).contains (.type "BaseException")=true:=by rw[bV,hb,dH]
 unfold raiseStmt;refine aA (aU h (fun v s1 ⟨e,oe,vs,ev,hC,he,hc,hd,h1,hE⟩=>?_) fun _ _ z=>z)
 subst ev;obtain⟨hp,g,d,tk,os⟩:=s1;refine aA (aB (aA (wpAny_holding ?_)));obtain⟨c0,di,da,sl⟩:=oe;have hc:c0=.ref C:=hc;have hd:da=.fields vs:=hd;subst hc;subst hd;unfold excFromValue isExcClass isType loadHead;refine aA (aA (aA (wpAny_loadPart_at he (aB (wpAny_ite_false rfl (aB (wpAny_ite_false rfl ?_)))))));unfold isInstance typeOf
 refine aA (aA (aA (wpAny_loadPart_at he (aB (wpAny_isSubtype_exc hC ?_)))));rw[hcB,if_pos rfl];refine aB (aA (aA (wpAny_loadPart_at he (aB (wpAny_ite_false rfl ?_)))));unfold raisedInstance typeOf;refine aA (aA (aA (wpAny_loadPart_at he (aB (aA (aA (wpAny_loadPart_at hC (aB (wpAny_ite_true rfl ?_)))))))))
 refine aB ?_;unfold setFlight;refine aA (aA (wpAny_field he rfl h1 (wpAny_ite_false rfl (aB ?_))));exact wpAny_raiseNew_none hh hE

end
structure XCls(K:Fg)(C fI:Addr)(f:Str):Prop where
 cl:∃ nm q N bs bm sn sub ab col dd k0 k1 k2 k3 k5 newId B initId bmB owner,K.lookup C=some (excClassObj nm q C N bs bm true sn sub ab col dd k0 k1 k2 k3 k5 newId)/\Tl bmB bm/\ExcBaseFacts B newId initId bmB/\StoreFacts B bmB "object.__setattr__" owner
 sa:PySem.W.findIn K (.ref C) "__setattr__"=some (some (.builtin "object.__setattr__"))
 na:PySem.W.findIn K (.ref C) f=some none
 ini:PySem.W.findIn K (.ref C) "__init__"=some (some (.ref fI))
 fn:∃ o,K.lookup fI=some o/\o.cls=.type "function"
 kp:PySem.W.keepIn K (.ref C)=true
def f0(C e:Ad)(vs:Array vL):Heap->Prop:=fun h=>h.get? e=some { cls:=.ref C,data:=.fields vs }
theorem f0_ok{P:Program}{e:Ad}(x:f0 C e vs h):ObjOk P w H h e (.ext (f0 C e vs)):=⟨x,⟨_,x⟩,fun _ _ q k=>k _ q⟩
def New(H:Hp)(C e:Ad):Prop:=∃ vs,vs.size=6/\vs[1]?=some Value.none/\H e=some (.ext (f0 C e vs))
section
variable {X:Cx}{pQ:Li (Ad×Obj)}{σ:St}{H:Hp}{s:Sd}{e C fI:Ad}{f:Str}{y:V}{u:vL}{A:Around}{E:vL->Sd->Prop}
def f1(C e dx:Ad):Heap->Prop:=fun h=>Xo h e C dx none
theorem f1_ok{P:Program}(x:f1 C e dx h):ObjOk P w H h e (.ext (f1 C e dx)):=
 ⟨x,let ⟨_,_,q,_⟩:=x.ob;⟨_,q⟩,fun _ _ ⟨⟨sl,vs,q,z⟩,r⟩ k=>⟨⟨sl,vs,k _ q,z⟩,fun _ z=>nomatch z⟩⟩
noncomputable def xInit(H:Hp)(C e dx:Ad)(f:Str)(y:V):Hp:=upd (upd H dx (.xd [(f,y)])) e (.ext (f1 C e dx))
theorem setattr_xok{Q:Unit->Sd->Prop}(c:XCls X.K C fI f)(I:Inv X pQ σ H s)(n:New H C e)(ry:RelV y u)(h:∀ dx s',H dx=none->dx≠e->Inv X pQ σ (xInit H C e dx f y) s'->Q () s') :
  wpAny (model X.prog X.w) A (setAttr (.ref e) f u) Q E s:=by
 obtain⟨vs,z6,z1,he⟩:=n;obtain⟨nm,q,N,bs,bm,sn,sub,ab,col,dd,k0,k1,k2,k3,k5,newId,B,initId,bmB,owner,lk,T,F,SF⟩:=c.cl;have ob:f0 C e vs s.heap:=(show ObjOk X.prog X.w H s.heap e (.ext (f0 C e vs)) from I.hok e _ he).1;obtain⟨hp,g,d,tk,os⟩:=s;have hd:H hp.objs.size=none:=I.hok.fresh (aD _);have ne:hp.objs.size≠e:=fun z=>by rw[z,he]at hd;cases hd
 refine setattr_x (K:=X.K) I.kIn SF T (I.kIn _ _ lk) c.sa c.na ob fun h' tk' e1 e2 k=>h hp.objs.size _ hd ne ?_
 have kd:∀ b o,b≠e->hp.get? b=some o->h'.get? b=some o:=k;have un:Un X.fs [] H (xInit H C e hp.objs.size f y) hp h':=by
  have w1:∀ b,H b=none->b < hp.objs.size->xInit H C e hp.objs.size f y b=none:=fun b hb lt=>by
   unfold xInit;rw[upd_ne (fun z=>by rw[z,he]at hb;cases hb),upd_ne (aQ lt)];exact hb
  have w2:∀ b v,H b=some v->b≠e->xInit H C e hp.objs.size f y b=some v:=fun b v hb hn=>by
   unfold xInit;rw[upd_ne hn,upd_ne (ne_of_none hb hd)];exact hb
  have w3:∀ b v,H b=some v->(∀ φ,v≠.ext φ)->b≠e:=fun b v hb hv z=>by
   rw[z,he]at hb;cases hb;exact hv _ rfl
  have w4:∀ b o,hp.get? b=some o->H b=none->b≠e:=fun b o _ hb z=>by rw[z,he]at hb;cases hb
  refine⟨fun b o hb hn _ _=>kd b o (w4 b o hb hn) hb,fun b o hb hn _ _=>⟨o.slots,kd b o (w4 b o hb hn) hb⟩,fun b o hb hn _=>w1 b hn (aE hb),fun b o hb _=>?_,fun b xs hb=>w2 b _ hb (w3 b _ hb fun _ z=>nomatch z),fun b o u hb=>w2 b _ hb (w3 b _ hb fun _ z=>nomatch z),fun b ps hb=>⟨#[],by rw[w2 b _ hb (w3 b _ hb fun _ z=>nomatch z)];simp⟩⟩
  by_cases z:b=e
  ·rw[z];exact⟨_,e1⟩
  ·exact⟨o,kd b o z hb⟩
 refine I.un un fun b v hb=>?_
 by_cases z:b=e
 ·subst z
  unfold xInit at hb;rw[upd_same]at hb;cases hb;exact f1_ok ⟨⟨#[],vs,e1,z6,z1⟩,fun _ z=>nomatch z⟩
 ·by_cases z2:b=hp.objs.size
  ·subst z2
   unfold xInit at hb;rw[upd_ne z,upd_same]at hb;cases hb;refine⟨_,e2,fun g=>?_⟩
   by_cases q:g=f
   ·rw[if_pos q,q]
    show RelO (List.lookup f [(f,y)]) (some u);rw[bB,beq_self_eq_true];exact ry
   ·rw[if_neg q]
    show RelO (List.lookup g [(f,y)]) none;rw[bB,bH.mpr q];exact True.intro
  ·have hb':H b=some v:=by unfold xInit at hb;rw[upd_ne z,upd_ne z2]at hb;exact hb
   refine(I.hok b v hb').stay (fun c o hc q=>kd c o ?_ q) (fun c q=>?_) fun c xs q=>?_
   ·rcases hc with hc|hc
    ·rw[hc];exact z
    ·exact fun y=>by rw[y,he]at hc;cases hc
   ·unfold xInit
    rw[upd_ne (fun y=>by rw[y,he]at q;cases q),upd_ne (ne_of_none q hd)];exact q
   ·unfold xInit
    rw[upd_ne (fun y=>by rw[y,he]at q;cases q),upd_ne (ne_of_none q hd)];exact q
variable {o value:Expr}{pos pos' p:Pos}{ta tv:TE}{x:Str}{CX:CXT}{k:Nat}{fd:FuncData}{ps:Li Str}{E':XK}{t:TA}{arg:Expr}
noncomputable def sX(C:Ad)(f:Str)(ta tv:TE):TS:=fun D σ H=>tv σ H fun y H1=>ta σ H1 fun x H2=>∃ e,x=.ref e/\New H2 C e/\∀ dx,H2 dx=none->dx≠e->D.nx σ (xInit H2 C e dx f y)
theorem ps_x(c:XCls X.K C fI f)(ha:PE X o ta)(hv:PE X value tv)(hs:swapsWith value (some (.Attribute o f pos')) pos.line X.env=pure false):PS X (.Assign [.Attribute o f pos'] value pos) (sX C f ta tv):=by
 intro pQ s σ H D I h;refine plainObj_wpAny_Assign_Attribute (thn (hv pQ s σ H _ I h) fun u s1 ⟨y,H1,I1,ry,q⟩=>thn (ha pQ s1 σ H1 _ I1 q) fun ov s2 ⟨x,H2,I2,rx,e,ex,n,q2⟩=>?_) hs
 subst ex;obtain rfl:ov=Value.ref e:=rx;exact setattr_xok c I2 n ry fun dx s3 h1 h2 I3=>⟨σ,_,I3,q2 dx h1 h2⟩
noncomputable def spI(C:Ad)(f:Str):Sp:=fun vs H Q _=>∃ e y,vs=[.ref e,y]/\New H C e/\∀ dx,H dx=none->dx≠e->Q .non (xInit H C e dx f y)
theorem init_x{P:Program}{name qual a0 a1:Str}{params:Arguments}{scope:Scope}{dV kV doc pm cdv ct oc:vL}{an od:Ot Ad}{osl:Array (Ot vL)}{p1 p2 p3 p4:Pos}(c:XCls K C fI f)(lk:K.lookup fI=some ⟨oc,od,.func (PySem.W.fnOf name qual params [.Assign [.Attribute (.Name a0 p1) f p2] (.Name a1 p3) p4] scope dV kV doc pm an cdv ct),osl⟩)(hcd:PySem.W.codeIn K cdv qual=true)(S:FnScope [a0,a1] [a0,a1] scope)(v0:Vis scope a0)(v1:Vis scope a1)(d0:(a0==("__debug__":Str))=false)(d1:(a1==("__debug__":Str))=false)(g0:(a0==("__classdict__":Str))=false)(g1:(a1==("__classdict__":Str))=false) :
  FnOk P w K mg base CX (k+1) fI (PySem.W.fnOf name qual params [.Assign [.Attribute (.Name a0 p1) f p2] (.Name a1 p3) p4] scope dV kV doc pm an cdv ct) [a0,a1] (spI C f):=by
 refine fn_of lk hcd S (fun vs H Q E ⟨e,y,h,_⟩=>by rw[h];rfl) fun A outer s H vs Q E hr ⟨e,y,h,n,q⟩=>?_
 subst h;refine⟨_,pss_cons (ps_x c (pe_var (i:=0) rfl v0 d0 g0) (pe_var (i:=1) rfl v1 d1 g1) (by rfl)) pss_nil,?_⟩
 exact⟨y,rfl,.ref e,rfl,e,rfl,n,fun dx h1 h2=>q dx h1 h2⟩
theorem xInit_upd{oo:HO}:xInit (upd H e oo) C e dx f y=xInit H C e dx f y:=by
 funext b
 unfold xInit upd;by_cases z:b=e
 ·simp[z]
 ·simp[z]
end
section
variable {X:Cx}{pQ:Li (Ad×Obj)}{σ:St}{H:Hp}{s:Sd}{e C fI:Ad}{f:Str}{y:V}{u:vL}{A:Around}{E:vL->Sd->Prop}{pos p rpos:Pos}{x:Str}{CX:CXT}{k:Nat}{fd:FuncData}{ps:Li Str}{E' E1:XK}{t:TA}{arg:Expr}
theorem run_xmake{Q:VK}(c:XCls X.K C fI f)(F:FnOk X.prog X.w X.K X.mg X.base CX k fI fd ps (spI C f))(hr:Room (k+1) X.A)(hb:Binds X.K fd ps [])(hx:Passes CX X E')(I:Inv X pQ σ H s)(ry:RelV y u)(h:∀ e dx,X.s₀.heap.objs.size<=e->H e=none->H dx=none->dx≠e->Q (.ref e) (xInit H C e dx f y)):wpAny (model X.prog X.w) X.A (call (.ref C) [u]) (EP X pQ σ Q) X.xe s:=by
 obtain⟨nm,q,N,bs,bm,sn,sub,ab,col,dd,k0,k1,k2,k3,k5,newId,B,initId,bmB,owner,lk,T,FB,SF⟩:=c.cl;obtain⟨oI,lI,cI⟩:=c.fn;obtain⟨hp,g,d,tk,os⟩:=s;refine call_x FB T (I.kIn _ _ lk) (PySem.W.looks_findIn I.kIn c.ini) (I.kIn _ _ lI) cI (show 1<=sizeLine by decide) fun h' e hz hm=>?_
 obtain⟨ta,te,_,_⟩:=hm.there;have I2:Inv X pQ σ (upd H e (.ext (f0 C e #[.ref ta,.none,.none,.none,.bool false,.none]))) ⟨h',g,d,tk,os⟩:=I.laid (t':=tk) hm.keeps hz (f0_ok te);have hn:H e=none:=I.hok.fresh hz;have hq:spI C f [.ref e,y] (upd H e (.ext (f0 C e #[.ref ta,.none,.none,.none,.bool false,.none]))) (fun v H2=>v=.non/\Q (.ref e) H2) E':=
  ⟨e,y,rfl,⟨_,rfl,rfl,upd_same⟩,fun dx h1 h2=>⟨rfl,by rw[xInit_upd];exact h e dx (aG I.sz hz) hn (by rw[upd_ne h2]at h1;exact h1) h2⟩⟩
 have r2:Vals [V.ref e,y] [Value.ref e,u]:=.cons rfl (.cons ry .nil);have hl:([Value.ref e,u]++[]).length=ps.length:=by
  have:=F.len _ _ _ _ hq;exact this
 refine wpAny_call (codeAny_mono (F.run _ X.stack _ _ ⟨[Value.ref e,u],[]⟩ [Value.ref e,u] _ _ E' (hr.make C [u] []) (I2.env0.make C [u] []) (hb _ [Value.ref e,u] I2.kIn hl) r2 hq) fun r s' hq'=>?_)
 cases r with
 |error e=>exact hx pQ σ _ _ e s' I2 hq'
 |ok fl=>
  cases fl with
  |ret u=>
   obtain⟨v,H',I3,rv,ev,q3⟩:=I2.after hq';subst ev;exact⟨rv,⟨V.ref e,H',I3,rfl,q3⟩⟩
  |next=>exact False.elim hq'
  |brk=>exact False.elim hq'
  |cont=>exact False.elim hq'
noncomputable def xSeen(H:Hp)(C e dx:Ad)(f:Str)(y:V):Hp:=upd (upd H dx (.xd [(f,y)])) e (.ext (fX C e dx))
noncomputable def tRaise(C:Ad)(f:Str)(E:XK)(t:TA):TS:=fun _ σ H=>t σ H fun vs H1=>∃ y,vs=[y]/\∀ e dx,H1 e=none->H1 dx=none->dx≠e->E (.ref C) (some dx) (xSeen H1 C e dx f y)
theorem ps_raise(c:XCls X.K C fI f)(F:FnOk X.prog X.w X.K X.mg X.base CX k fI fd ps (spI C f))(hr:Room (k+1) X.A)(hcl:X.calm=true)(hb:Binds X.K fd ps [])(hx:Passes CX X E')(hg:Gl X x)(hm:X.mg x=some (.ref C))(ha:PA X [arg] t)(hxe:∀ pQ σ e s',XS X pQ σ E1 e s'->X.xe e s')(hdb:(x==("__debug__":Str))=false:=by decide)(he:starEach [arg] X.env=(false,eval arg X.env) :: starEach [] X.env:=by rfl):PS X (.Raise (some (.Call (.Name x p) [arg] [] pos)) none rpos) (tRaise C f E1 t):=by
 intro pQ s σ H D I h;have hh:=I.ok.hd hcl;obtain⟨nm,q,N,bs,bm,sn,sub,ab,col,dd,k0,k1,k2,k3,k5,newId,B,initId,bmB,owner,lk,T,FB,SF⟩:=c.cl;rw[arm_exec_Raise];refine aA (wpAny_standAt ?_);refine raise_x (nm:=nm) (q:=q) (C:=C) (N:=N) (bs:=bs) (bm:=bm) (hdct:=true) (sn:=sn) (sub:=sub) (ab:=ab) (col:=col) (dd:=dd) (k0:=k0) (k1:=k1) (k2:=k2) (k3:=k3) (k5:=k5) (newId:=newId) (tail_has T FB.hasBase) hh (aA ?_)
 have ev:wpAny (model X.prog X.w) X.A (eval (.Call (.Name x p) [arg] [] pos) X.env) (EP X pQ σ fun v H'=>∃ e dx y H1,v=.ref e/\X.s₀.heap.objs.size<=e/\H1 e=none/\H1 dx=none/\dx≠e/\H'=xInit H1 C e dx f y/\E1 (.ref C) (some dx) (xSeen H1 C e dx f y)) X.xe s:=by
  refine wpAny_Call_Name_kw (ld_glob I hg hm ?_ hdb);refine PySem.W.callWith_K (h₀:=X.base) I.ok.mod.kin c.kp (thn (ha pos pQ s σ H _ I h) fun us s1 ⟨vs,H1,I1,r,y,ey,q⟩=>⟨I1.kIn,?_⟩) he rfl
  subst ey;obtain⟨u,rfl,ru⟩:=Vals.one r;exact run_xmake c F hr hb hx I1 ru fun e dx h0 h1 h2 h3=>⟨e,dx,y,H1,rfl,h0,h1,h2,h3,rfl,q e dx h1 h2 h3⟩
 refine thn ev fun v s1 ⟨w,H',I1,rw',e,dx,y,H1,ev,h0,h1,h2,h3,eH,q⟩=>aA (wpAny_standAt (aB ?_))
 subst ev;obtain rfl:v=Value.ref e:=rw';have he':H' e=some (.ext (f1 C e dx)):=by rw[eH];exact upd_same
 have xo:Xo s1.heap e C dx none:=(show ObjOk X.prog X.w H' s1.heap e (.ext (f1 C e dx)) from I1.hok e _ he').1;obtain⟨sl,vs,q1,q2,q3⟩:=xo.ob;refine⟨e,_,vs,rfl,I1.kIn _ _ lk,q1,rfl,rfl,q3,hxe pQ σ _ s1 ⟨e,C,dx,none,xSeen H1 C e dx f y,rfl,?_,⟨xo,upd_same,h0,fun _ z=>nomatch z⟩,q⟩⟩
 have ex:xSeen H1 C e dx f y=upd H' e (.ext (fX C e dx)):=by
  rw[eH];unfold xSeen xInit;rw[upd_upd]
 rw[ex];obtain⟨hp,g,d,tk,os⟩:=s1;exact I1.write (x:=e) (e:=e) (h':=hp) (t':=tk) (by rw[he'];exact True.intro) (.inl rfl) (fun b o _ z=>z) ⟨_,q1⟩ (fX_ok xo.f)
end
section
variable {X:Cx}{pQ:Li (Ad×Obj)}{σ:St}{H H':Hp}{s s':Sd}{ea C dx:Ad}{t:Ot Ad}{h h2 h3:Heap}{fs:Li Ad}{n x:Str}{i:Nat}{M:Model}{A:Around}{E:vL->Sd->Prop}
theorem un_kx(u:Un fs [] H H' h h2)(k:Kx fs ea t h2 h3)(z1:h.objs.size<=ea)(z2:∀ a,t=some a->h.objs.size<=a):Un fs [] H H' h h3:=by
 have far:∀ b o,h.get? b=some o->b≠ea/\∀ a,t=some a->b≠a:=fun b o hb=>by
  have:=aE hb;exact⟨fun z=>absurd (aJ this z1) (z ▸ bD _),fun a ha z=>absurd (aJ this (z2 a ha)) (z ▸ bD _)⟩
 refine⟨fun b o hb hn hf _=>?_,fun b o hb hn hf _=>?_,u.free,fun b o hb _=>?_,u.tups,u.frzs,u.tbls⟩
 ·obtain⟨f1,f2⟩:=far b o hb
  exact(k b o (u.keep b o hb hn hf (by simp)) f1 f2).1 hf
 ·obtain⟨f1,f2⟩:=far b o hb
  obtain⟨sl,e1⟩:=u.slot b o hb hn hf (by simp)
  obtain⟨sl',e2⟩:=(k b _ e1 f1 f2).2;exact⟨sl',e2⟩
 ·obtain⟨f1,f2⟩:=far b o hb
  obtain⟨o',e1⟩:=u.there b o hb (by simp)
  obtain⟨sl',e2⟩:=(k b _ e1 f1 f2).2;exact⟨_,e2⟩
theorem hok_kx{P:Program}(ok:HOk P w H' h2)(he:H' ea=some (.ext (fX C ea dx)))(x:fX C ea dx h3)(k:Kx fs ea t h2 h3)(n2:∀ a,t=some a->H' a=none)(n3:∀ b∈fs,H' b=none):HOk P w H' h3:=
 hok_x ok he x fun b o u hb hu hg=>(k b o hg hb fun a ha z=>by rw[z,n2 a ha]at hu;cases hu).1 fun z=>by rw[n3 b z]at hu;cases hu
theorem flight_x{a:Ad}{Q:Unit->Sd->Prop}(x:Xo s.heap ea C dx (some a))(q:∀ h',Xo h' ea C dx (some a)->Kx [] ea (some a) s.heap h'->Q () { s with heap:=h' }):wpAny M A (setFlight (.ref ea) none) Q E s:=by
 obtain⟨sl,vs,e1,e2,e3⟩:=x.ob;obtain⟨ne,o,ts,e4,e5,e6,e7⟩:=x.tb a rfl;refine wpAny_setFlight_none e1 rfl e3 e4 e5 e6 (q _ ⟨⟨sl,vs,(Heap.get?_update_other _ _ ne).trans e1,e2,e3⟩,fun b hb=>?_⟩ fun b o' hb he ht=>?_)
 ·cases hb
  exact⟨ne,_,_,upd_fld e4 e5,rfl,by simp;exact e6,by rw[dR];simp[e6]⟩
 ·have:=(Heap.get?_update_other s.heap (Obj.mapFields fun x=>x.setIfInBounds 3 .none) (Ne.symm (ht a rfl))).trans hb
  exact⟨fun _=>this,o'.slots,this⟩
noncomputable def Xm(X:Cx)(e:vL):Cx:={ X with A:=X.A.mark (some e),calm:=false }
theorem Inv.marked{e:vL}(I:Inv X pQ σ H s):Inv (Xm X e) pQ σ H s:=
 ⟨⟨I.ok.mod,I.ok.kind,I.ok.glob,I.ok.blt,I.ok.above,I.ok.inj,I.ok.has,I.ok.cab,fun z=>(nomatch z),I.ok.frames,I.ok.stk,I.ok.exf,I.ok.bs,I.ok.bsz,I.ok.noex,I.ok.exfs,I.ok.funs,I.ok.frf⟩,I.os,I.bare,I.base,I.loc,I.cell,I.free,I.freeC,I.pin,I.hok,I.len⟩
theorem Inv.unmarked{e:vL}(o:X.Ok)(I:Inv (Xm X e) pQ σ H s):Inv X pQ σ H s:=
 ⟨o,I.os,I.bare,I.base,I.loc,I.cell,I.free,I.freeC,I.pin,I.hok,I.len⟩
theorem del_ok{Q:Unit->Sd->Prop}(I:Inv X pQ σ H s)(hN:X.N.Nodup)(hi:X.N[i]?=some x)(hk:X.env.scope.names.lookup x=some .local){v:V}(hσ:σ[i]?=some (some v))(q:∀ s',Inv X pQ (σ.set i none) H s'->Q () s'):wpAny M A (unbindName X.env x) Q E s:=by
 obtain⟨m,hn,hl⟩:=id I.loc;have hcls:(X.env.scope.kind==.class||(X.env.scope.kind==.module&&X.env.locals != X.env.globals))=false:=by rw[I.ok.kind];rfl
 have hiσ:i < σ.length:=by rw[I.len];exact(bE.mp hi).1
 obtain⟨u,ru,lo⟩:=hl i x v hi hσ (.inl hk);have mx:m x=some u:=by
  rcases lo with⟨_,q⟩|⟨q,_⟩
  ·exact q
  ·have e:X.env.kindOf x=some .local:=hk
   rcases q with q|q<;>(rw[e]at q;cases q)
 obtain⟨oL,_,_,hoL,_⟩:=id hn;refine wpAny_unbindName_local hk hn mx hcls fun h' w hn' hs=>q _ ?_
 have tracked:HOk X.prog X.w H h':=fun b ob e=>by
  refine(I.hok b ob e).stay (fun c w' hc q=>(hs.2 c ?_).trans q) (fun _ q=>q) fun _ _ q=>q
  rintro rfl
  have hf:=I.free;rcases hc with hc|hc
  ·rw[<-hc,hf]at e;cases e
  ·rw[hf]at hc;cases hc
 refine⟨I.ok,I.os,I.bare,⟨fun b o e n hb hx=>?_,fun b o e n hb hx=>?_,I.base.free,fun b o e hx=>?_,I.base.tups,I.base.frzs,I.base.tbls⟩,⟨_,hn',fun j y v' e1 e2 e3=>?_⟩,fun y c e=>?_,I.free,I.freeC,fun p hp=>?_,tracked,by simpa using I.len⟩
 ·exact(hs.2 b (aQ (aJ (aE e) I.ok.above))).trans (I.base.keep b o e n hb hx)
 ·obtain⟨sl,e1⟩:=I.base.slot b o e n hb hx
  exact⟨sl,(hs.2 b (aQ (aJ (aE e) I.ok.above))).trans e1⟩
 ·obtain⟨o',e1⟩:=I.base.there b o e hx
  exact⟨o',(hs.2 b (aQ (aJ (aE e) I.ok.above))).trans e1⟩
 ·by_cases hj:j=i
  ·subst hj
   rw[bN hiσ]at e2;cases e2
  ·rw[aR (Ne.symm hj)]at e2
   obtain⟨u',r',lk⟩:=hl j y v' e1 e2 e3;refine⟨u',r',?_⟩;rcases lk with⟨k1,k2⟩|⟨k1,c,k2,k3⟩
   ·refine .inl ⟨k1,?_⟩
    show(if y=x then w else m y)=some u'
    have ny:y≠x:=fun e=>hj (nodup_ix hN e1 (e ▸ hi))
    rw[if_neg ny];exact k2
   ·exact .inr ⟨k1,c,k2,by
     obtain⟨o,p1,p2⟩:=k3;exact⟨o,(hs.2 c (I.cne y c k2)).trans p1,p2⟩⟩
 ·obtain⟨w',o,p1,p2⟩:=I.cell y c e
  exact⟨w',o,(hs.2 c (I.cne y c e)).trans p1,p2⟩
 ·obtain⟨p1,p2,p3,p4⟩:=I.pin p hp
  exact⟨(hs.2 p.1 p3).trans p1,p2,p3,p4⟩
end
section
variable {X:Cx}{es:Li Expr}{t:TA}
theorem PA.nox(h:PA X.nox es t):PA X es t:=fun p pQ s σ H Q I hw=>
 aU (h p pQ s σ H Q (I.wish _) hw) (fun _ _ ⟨v,H',I',r,q⟩=>⟨v,H',I'.unwish,r,q⟩) fun _ _ z=>False.elim z
end
section
variable {X:Cx}{pQ:Li (Ad×Obj)}{σ:St}{H:Hp}{s:Sd}{fb C0 Ch:Ad}{g hx n:Str}{a:Expr}{as:Li Expr}{t:TA}{k ni:Nat}{fd:FuncData}{ps:Li Str}{sp:Sp}{ds:Li vL}{dvs:Li V}{gp cp ep hp hq pos:Pos}{b0:Stmt}{suite:Li Stmt}{ts:TS}
noncomputable def tTry(ni:Nat)(C0:Ad)(sp:Sp)(dvs:Li V)(t:TA)(ts:TS):TS:=fun D σ H=>t σ H fun vs H1=>∃ E1:XK,sp (vs++dvs) H1 (fun _ _=>False) E1/\∀ e C dx H',H' e=some (.ext (fX C e dx))->E1 (.ref C) (some dx) H'->C=C0/\ts { nx:=fun σ2 H2=>D.nx (σ2.set ni none) H2,rt:=fun _ _=>False } (σ.set ni (some (.ref e))) H'
theorem ps_try(hst:X.stack=X.env :: X.outer/\X.env.frame=some X.env.locals)(hN:X.N.Nodup)(F:FnOk X.prog X.w X.K X.mg X.base (CX1 X.prog X.w) k fb fd ps sp)(hr:Room k X.A)(hg:Gl X g)(hm:X.mg g=some (.ref fb))(hk:PySem.W.keepIn X.K (.ref fb)=true)(hb:Binds X.K fd ps ds)(hd:Vals dvs ds)(ha:PA X.nox (a :: as) t)(hgx:Gl X hx)(hmx:X.mg hx=some (.ref Ch))(hmt:PySem.W.exmOne X.K (.ref C0) (.ref Ch)=some true)(hni:X.N[ni]?=some n)(hnl:X.env.scope.names.lookup n=some .local)(hs:∀ e,PSs (Xm X e).nox (b0 :: suite) ts)(d1:(g==("__debug__":Str))=false:=by decide)(d2:(hx==("__debug__":Str))=false:=by decide)(he:starEach (a :: as) X.env=(false,eval a X.env) :: starEach as X.env:=by rfl)(hpl:(backTo cp (starEach as X.env)).any (·.1)=false:=by rfl) :
  PS X (.Try [.Expr (.Call (.Name g gp) (a :: as) [] cp) ep] [.ExceptHandler (some (.Name hx hp)) (some n) (b0 :: suite) hq] [] [] pos) (tTry ni C0 sp dvs t ts):=by
 intro pQ s σ H D I h;refine wpAny_Try_except ?_;generalize hEb:(fun(e:vL) (s₁:Sd)=>wpAny (model X.prog X.w) X.A (noteFrame e X.env) (fun _ s₂=>wpAny (model X.prog X.w) X.A (setFlight e none) (fun _ s₃=>wpAny (model X.prog X.w) X.A (handleBy e X.env [.ExceptHandler (some (.Name hx hp)) (some n) (b0 :: suite) hq]) (SP X pQ D) X.xe s₃) X.xe s₂) X.xe s₁)=Eb
 have ev:wpAny (model X.prog X.w) X.A (eval (.Call (.Name g gp) (a :: as) [] cp) X.env) (fun _ _=>False) Eb s:=by
  refine wpAny_Call_Name_kw (ld_glob (X:=X.wish Eb) (I.wish Eb) hg hm ?_ d1);refine PySem.W.callWith_K (h₀:=X.base) I.ok.mod.kin hk (thn ((PA.nox (X:=X.wish Eb) ha) cp pQ s σ H _ (I.wish Eb) h) fun us s1 ⟨vs,H1,I1,r,E1,hsp,hh⟩=>⟨I1.kIn,?_⟩) he hpl
  have I1:=I1.unwish;have r2:Vals (vs++dvs) (us++ds):=r.append hd;have hl:(us++ds).length=ps.length:=by rw[<-r2.length];exact F.len _ _ _ _ hsp
  refine wpAny_call (codeAny_mono (F.run X.A X.stack s1 H1 ⟨us,[]⟩ (us++ds) (vs++dvs) _ E1 hr I1.env0 (hb s1 us I1.kIn hl) r2 hsp) fun r s' hq'=>?_)
  cases r with
  |ok fl=>
   cases fl with
   |ret u=>obtain⟨_,_,_,_,_,_,_,z⟩:=hq';exact z.elim
   |next=>exact False.elim hq'
   |brk=>exact False.elim hq'
   |cont=>exact False.elim hq'
  |error e=>
   obtain⟨ea,C,dx,tb,H',rfl,⟨os,ba,un,ok⟩,⟨x,n1,z1,tt⟩,q⟩:=hq';obtain⟨rfl,hts⟩:=hh ea C dx H' n1 q;have I2:Inv X pQ σ H' s':=I1.call' os un ok ba (fun _ z=>absurd z (by simp))
   rw[<-hEb];refine note_x (base:=X.base) (outer:=X.outer) (L:=X.env.locals) (I1.ok.frames.trans (by rw[hst.1])) (hst.1 ▸ I2.stack) hst.2 x fun h3 b3 z3 x3 k3=>?_
   rw[<-hst.1]at k3;have un3:=un_kx un k3 z1 fun a ha=>(tt a ha).2
   have ok3:HOk X.prog X.w H' h3:=hok_kx ok n1 x3.f k3 (fun a ha=>(tt a ha).1) I2.stkFree
   have z3':s1.heap.objs.size<=b3:=by
    obtain⟨_,_,q1,_⟩:=x.ob;exact aG (aG z1 (Nat.le_of_lt (aE q1))) z3
   have nb3:H' b3=none:=I2.hok.fresh z3;have I3:Inv X pQ σ H' { s' with heap:=h3 }:=I1.call' os un3 ok3 ba (fun _ z=>absurd z (by simp))
   refine wpAny_handleBy_cons ?_ (fun z=>nomatch z)
   refine codeAny_handlers_test (ld_glob (X:=Xm X (.ref ea)) I3.marked hgx hmx ?_ d2);have lt:PySem.W.Looks (model X.prog X.w) h3 (typeOf (.ref ea)) (.ref C):=fun A Q E s hk hq=>by
    obtain⟨sl,vs,q1,_⟩:=x3.ob;obtain⟨hp',g',d',t',o'⟩:=s;unfold typeOf;exact aA (wpAny_loadPart_at (hk _ _ q1) (aB hq))
   refine PySem.W.exm_one (show X.K.In h3 from I3.kIn) lt hmt _ _ _ _ (fun _ _ z=>z) ?_
   refine codeAny_handlers_suite_as (flight_x x3 fun h4 x4 k4=>?_)
   have k4':Kx (frs X.stack) ea (some b3) h3 h4:=fun b o hb he ht=>⟨fun _=>(k4 b o hb he ht).1 (by simp),(k4 b o hb he ht).2⟩
   have un4:=un_kx un3 k4' z1 fun a ha=>by cases ha;exact z3'
   have ok4:HOk X.prog X.w H' h4:=hok_kx ok3 n1 x4.f k4' (fun a ha=>by cases ha;exact nb3) I2.stkFree
   have I4:Inv X pQ σ H' { s' with heap:=h4 }:=I1.call' os un4 ok4 ba (fun _ z=>absurd z (by simp))
   refine store_ok I4 hN hni (.inl hnl) (v:=.ref ea) rfl (fun s5 I5=>?_) (.inr hnl)
   refine aU (hs (.ref ea) pQ s5 _ H' _ (I5.marked.wish _) hts) (fun fl s6 q6=>?_) fun _ _ z=>z.elim
   have q6:=q6.unwish;cases fl with
   |next=>
    obtain⟨σ2,H2,I6,q7⟩:=q6;have I6:Inv X pQ σ2 H2 s6:=I6.unmarked I.ok;refine aA (wpAny_bindName (store_ok I6 hN hni (.inl hnl) (v:=.non) rfl (fun s7 I7=>?_) (.inr hnl)))
    have hσ:(σ2.set ni (some V.non))[ni]?=some (some V.non):=bN (by rw[I6.len];exact(bE.mp hni).1)
    unfold unbindBehindTheSuite;refine wpAny_onRaise (del_ok I7 hN hni hnl hσ fun s8 I8=>⟨_,H2,I8,?_⟩)
    rw[List.set_set];exact q7
   |ret u=>obtain⟨_,_,_,_,_,z⟩:=q6;exact z.elim
   |brk=>obtain⟨_,_,_,z⟩:=q6;exact z.elim
   |cont=>obtain⟨_,_,_,z⟩:=q6;exact z.elim
 refine wpAny_execs_cons ?_;refine aU (wpAny_Expr_any (Q:=fun _ _=>False) (aU ev (fun _ _ z=>z.elim) fun _ _ z=>z) (I.wish Eb).quiet (by rfl)) (fun _ _ z=>z.elim) fun e s1 z=>z
end
section
variable {prog:Program}{w:World}{A:Around}{E:vL->Sd->Prop}{s:Sd}{h:Heap}{g:Array GenState}{d:Drawn}{t:Nat}{os:OsState}{nm q name:Str}{C N e:Ad}{bs bm bmB:Li vL}{hdct:Bool}{sn:Li Str}{sub:Li vL}{ab:Bool}{col:Ot Bool}{dd:Ot Ad}{k0 k1 k2 k3 k5:Ot vL}{B newId:String}{K:Fg}{ox:Obj}{od:Ot Obj}{v:vL}{tk:Tok}{fill expr:Bool}
theorem chk_ga{nameV:vL}{o:Obj}{Q:Unit->Sd->Prop}(FB:ExcAttrBase B bmB)(hC:h.get? C=some (excClassObj nm q C N bs bm hdct sn sub ab col dd k0 k1 k2 k3 k5 newId))(T:Tl bmB bm)(hx:h.get? e=some o)(hc:o.cls=.ref C)(hq:Q () ⟨h,g,d,t,os⟩):wpAny M A (checkBuiltinCall "BaseException.__getattribute__" ⟨[.ref e,nameV],[]⟩) Q E ⟨h,g,d,t,os⟩:=by
 have c1:builtinKind "BaseException.__getattribute__"=some .slot:=by decide +kernel
 have c2:splitId "BaseException.__getattribute__"=some ("BaseException", "__getattribute__"):=by decide +kernel
 have c3:(Value.ref C :: bm).contains (.type "BaseException")=true:=by rw[bV,T.has FB.hasBase];rfl
 have c4:=F.args_bexc_ga (.ref e) nameV;simp only[checkBuiltinCall,c1,c2];refine aA ?_;unfold isInstance
 repeat (first | (with_reducible refine wpAny_isSubtype_exc hC ?_;rw[c3]) | (with_reducible refine wpAny_loadPart_at hx ?_;rw[hc])|wp_step)
 exact hq
theorem gby_x{Q:vL->Sd->Prop}(KX:K.In s.heap)(J:PySem.W.InstAt s.heap e ox C od)(FB:ExcAttrBase B bmB)(hg:PySem.W.findIn K (.ref C) "__getattribute__"=some (some (.builtin "BaseException.__getattribute__")))(hn:PySem.W.findIn K (.ref C) "__getattr__"=some none)(hc:codeAny (model prog w) A (Code.call (.builtin "BaseException.__getattribute__") { pos:=[.ref e,.str name tk] }) (fun r s'=>match r with
   |.ok (.ret v)=>PySem.W.handedIn v=true/\Q v s'
   |_=>False) s):wpAny (model prog w) A (getAttrBy (.ref e) (.str name tk) fill expr) Q E s:=by
 obtain⟨hp,g,d,tt,os⟩:=s;unfold getAttrBy typeOf;refine wpAny_holding (aA (aA (wpAny_loadPart_at J.at_ (aB ?_))));rw[J.cls];refine aA (PySem.W.looks_findIn KX hg _ _ _ _ (fun _ _ z=>z) ?_)
 refine wpAny_ite_false (by rfl) ?_
 unfold getAttrByItsOwn hookBefore;refine aA (wpAny_ite_true (by rfl) (PySem.W.looks_findIn KX hn _ _ _ _ (fun _ _ z=>z) ?_))
 refine aA (wpAny_attempt (wpAny_holding ?_));unfold callGetattribute;have hx:(expr&&onTheHeap (.builtin "BaseException.__getattribute__"))=false:=by cases expr<;>rfl
 rw[hx,if_neg Bf];unfold boundAndCalled;refine aA (wpAny_of_eq (FB.ga.bind (.ref e)) (wpAny_call (codeAny_mono hc fun r s' q=>?_)))
 cases r with
 |error e=>exact q.elim
 |ok fl=>
  cases fl with
  |ret v=>exact PySem.W.handed_on q.1 q.2
  |next=>exact q.elim
  |brk=>exact q.elim
  |cont=>exact q.elim
theorem gcall_x{r:Builtin.ObjectAttr.Found}(KX:K.In h)(J:PySem.W.InstAt h e ox C od)(FB:ExcAttrBase B bmB)(hC:h.get? C=some (excClassObj nm q C N bs bm hdct sn sub ab col dd k0 k1 k2 k3 k5 newId))(T:Tl bmB bm)(hf:PySem.W.findObj K C od name=some r)(hr:match r with
   |.value v=>R (.ok (.ret v)) ⟨h,g,d,t,os⟩
   |.bind gg a=>wpAny (model prog w) A.in1 (call gg [a,.ref e,.ref C]) (fun v s'=>R (.ok (.ret v)) s') (fun e s'=>R (.error e) s') ⟨h,g,d,t,os⟩
   |.missing=>False):codeAny (model prog w) A (Code.call (.builtin "BaseException.__getattribute__") { pos:=[.ref e,.str name tk] }) R ⟨h,g,d,t,os⟩:=by
 refine codeAny_call_builtin FB.ga.plain F.entry_bexc_ga (chk_ga FB hC T J.at_ J.cls ?_);unfold Builtin.«object.__getattribute__» slotArgs
 refine aA (wpAny_ite_false (by rfl) (wpAny_ite_false (by rfl) (aB ?_)))
 unfold Builtin.ObjectAttr.attrName typeOf;refine aA (aB (aA (aA (wpAny_loadPart_at J.at_ (aB ?_)))));rw[J.cls];refine aA (PySem.W.looks_find KX J hf _ _ _ _ (fun _ _ z=>z) ?_)
 cases r with
 |value v=>exact aB hr
 |bind gg a=>
  unfold Builtin.ObjectAttr.bindTo;exact aA (wpAny_holding (aU hr (fun v s' z=>aB z) fun _ _ z=>z))
 |missing=>exact hr.elim
theorem gattr_x{Q:vL->Sd->Prop}(KX:K.In h)(J:PySem.W.InstAt h e ox C od)(FB:ExcAttrBase B bmB)(hC:h.get? C=some (excClassObj nm q C N bs bm hdct sn sub ab col dd k0 k1 k2 k3 k5 newId))(T:Tl bmB bm)(hg:PySem.W.findIn K (.ref C) "__getattribute__"=some (some (.builtin "BaseException.__getattribute__")))(hn:PySem.W.findIn K (.ref C) "__getattr__"=some none)(hf:PySem.W.findObj K C od name=some (.value v))(hv:PySem.W.handedIn v=true)(hq:Q v ⟨h,g,d,t+1,os⟩) :
  wpAny (model prog w) A (getAttr (.ref e) name expr) Q E ⟨h,g,d,t,os⟩:=by
 unfold getAttr mkText;exact aA (aA (wpAny_fresh' (aB (gby_x KX J FB hg hn (gcall_x KX J FB hC T hf ⟨hv,hq⟩)))))
theorem kit_x{od:Obj}(FB:ExcAttrBase B bmB)(lk:K.lookup C=some (excClassObj nm q C N bs bm hdct sn sub ab col dd k0 k1 k2 k3 k5 newId))(T:Tl bmB bm)(hg:PySem.W.findIn K (.ref C) "__getattribute__"=some (some (.builtin "BaseException.__getattribute__")))(hn:PySem.W.findIn K (.ref C) "__getattr__"=some none)(hc:PySem.W.findIn K (.ref C) "__class__"=some (some (.builtin "object.__class__")))(hs:PySem.W.specialIn K (.builtin "object.__class__") "__get__"=some (some (.builtin "getset_descriptor.__get__")))(ht:PySem.W.takesIn K (.builtin "object.__class__")=some true)(hm:PySem.W.mroIn K C (.type "object")=some true)(hd:(PySem.W.clsIn K C).isSome=true) :
  PySem.W.KitX K (.ref e) (.ref C) (fun h=>PySem.W.InstAt h e ox C (some od)) where
 ty:=fun M h KX J A Q E s hk hq=>by
  obtain⟨hp,g,d,t,os⟩:=s;unfold typeOf;refine aA (wpAny_loadPart_at (hk _ _ J.at_) (aB ?_));rw[J.cls];exact hq
 it:=fun M h KX J A Q E s hk hq=>by
  obtain⟨hp,g,d,t,os⟩:=s;unfold isType loadHead;exact aA (wpAny_loadPart_at (hk _ _ (KX _ _ lk)) (aB hq))
 ne:=fun h tp dd its n sl KX z=>by
  refine bH.mpr fun y=>?_
  cases y;rw[KX _ _ lk]at z;exact absurd (congrArg Obj.cls (Option.some.inj z)) (by simp[excClassObj])
 ca:=fun {prog w A E Q s} KX J hq=>by
  obtain⟨hp,g,d,t,os⟩:=s;unfold getAttr? mkText getAttrBy?
  refine aA (aA (wpAny_fresh' (aB (aA (wpAny_attempt ?_)))));refine gby_x KX J FB hg hn (gcall_x KX J FB (KX _ _ lk) T (PySem.W.findObj_data hd hc hs ht) (wpAny_call (PySem.W.class_get KX J hm ⟨rfl,aB hq⟩)))
end
structure XGet(K:Fg)(C:Addr):Prop where
 cl:∃ nm q N bs bm sn sub ab col dd k0 k1 k2 k3 k5 newId B bmB,K.lookup C=some (excClassObj nm q C N bs bm true sn sub ab col dd k0 k1 k2 k3 k5 newId)/\Tl bmB bm/\ExcAttrBase B bmB
 ga:PySem.W.findIn K (.ref C) "__getattribute__"=some (some (.builtin "BaseException.__getattribute__"))
 gn:PySem.W.findIn K (.ref C) "__getattr__"=some none
 gc:PySem.W.findIn K (.ref C) "__class__"=some (some (.builtin "object.__class__"))
 gs:PySem.W.specialIn K (.builtin "object.__class__") "__get__"=some (some (.builtin "getset_descriptor.__get__"))
 gt:PySem.W.takesIn K (.builtin "object.__class__")=some true
 gm:PySem.W.mroIn K C (.type "object")=some true
 gd:PySem.W.hasDictIn K C=true
section
variable {X:Cx}{pQ:Li (Ad×Obj)}{σ:St}{H:Hp}{s:Sd}{C:Ad}{x t f:Str}{p tp pos:Pos}{i:Nat}{b:Bool}{u:vL}{v:V}
def Ex(H:Hp)(C e:Ad)(fs:Li (Str×V)):Prop:=∃ dx,H e=some (.ext (fX C e dx))/\H dx=some (.xd fs)
theorem Ex.look{e:Ad}{fs:Li (Str×V)}{P:Program}(n:Ex H C e fs)(ok:HOk P w H h):∃ (ox od:Obj) (mA:Str->Ot vL),PySem.W.InstAt h e ox C (some od)/\(∀ f,PySem.W.lookIn f od=some (mA f))/\∀ f,RelO (fs.lookup f) (mA f):=by
 obtain⟨dx,h1,h2⟩:=n;obtain⟨sl,vs,q,_⟩:=(show ObjOk P w H h e (.ext (fX C e dx)) from ok e _ h1).1;obtain⟨mA,ns,r⟩:=(show ObjOk P w H h dx (.xd fs) from ok dx _ h2);obtain⟨od,ho,hl⟩:=lookIn_ns ns;exact⟨_,od,mA,⟨q,rfl,rfl,ho⟩,hl,r⟩
theorem dict_cls(h:PySem.W.hasDictIn K C=true):(PySem.W.clsIn K C).isSome=true:=by
 unfold PySem.W.hasDictIn at h;cases q:PySem.W.clsIn K C with
 |none=>rw[q]at h;cases h
 |some c=>rfl
end
end L2


namespace Dp
open PySem
variable{α:Type}
theorem Zb{x:α}{C:Prop}(h:(none:Ot α)=some x):C:=nomatch h
noncomputable abbrev S(x:String):Str:=Str.ofString x

inductive D where
 |non|bl (b:Bool)|int (i:Int)|str (x:Str)|tup (xs:List D)|lst (id:Nat)|dct (ks:List Str) (vs:List D)|obj (i:Nat)|kt (ks:List Str)|dic (id:Nat)

noncomputable abbrev Env:=Li (Ot D)
noncomputable abbrev Z5:=Bool×Li D
noncomputable abbrev Za:=Li Z5
noncomputable abbrev Res:=Ot (D×Za)
noncomputable abbrev Fn:=Li D->Za->Res

noncomputable def o2{α β γ:Type}(f:α->β->γ):Ot α->Ot β->Ot γ
 |some x,some y=>some (f x y)
 |_,_=>none
noncomputable def og{α:Type}(p:Prop)[Decidable p](o:Ot α):Ot α:=if p then o else none
mutual
noncomputable def Vm:D->D->Bool
 |.non,.non=>true
 |.bl a,.bl b=>a==b
 |.int a,.int b=>decide (a=b)
 |.str a,.str b=>decide (a=b)
 |.tup a,.tup b=>YW a b
 |_,_=>false
noncomputable def YW:Li D->Li D->Bool
 |[],[]=>true
 |x :: xs,y :: ys=>Vm x y&&YW xs ys
 |_,_=>false
end
mutual
noncomputable def okD:Nat->D->Bool
 |_,.non=>true
 |_,.int _=>true
 |_,.str _=>true
 |n+1,.tup xs=>XB n xs
 |_,_=>false
noncomputable def XB:Nat->Li D->Bool
 |_,[]=>true
 |n,x :: xs=>okD n x&&XB n xs
end
inductive Sc where
 |non|bl (b:Bool)|int (i:Int)|str (x:Str)
noncomputable def scD:D->Ot Sc
 |.non=>some .non
 |.bl b=>some (.bl b)
 |.int i=>some (.int i)
 |.str x=>some (.str x)
 |_=>none
noncomputable def ZcA:Sc->Sc->Ot Bool
 |.non,.non=>some true
 |.non,.bl _=>some false
 |.non,.int _=>some false
 |.non,.str _=>some false
 |.bl _,.non=>some false
 |.bl a,.bl b=>some (a==b)
 |.bl _,.int _=>none
 |.bl _,.str _=>some false
 |.int _,.non=>some false
 |.int _,.bl _=>none
 |.int a,.int b=>some (decide (a=b))
 |.int _,.str _=>some false
 |.str _,.non=>some false
 |.str _,.bl _=>some false
 |.str _,.int _=>some false
 |.str a,.str b=>some (decide (a=b))
noncomputable def eqT(xs:Li D):D->Ot Bool
 |.tup ys=>if okD 8 (.tup xs)&&okD 8 (.tup ys) then some (YW xs ys) else none
 |_=>none
noncomputable def eqD(x y:D):Ot Bool:=match x with
 |.tup xs=>eqT xs y
 |x=>(o2 ZcA (scD x) (scD y)).join

inductive Ty where
 |int|bool|str|tuple
 deriving DecidableEq

set_option genInjectivity false in
inductive CE where
 |var (i:Nat)|cst (d:D)
 |bin (op:Operator) (a b:CE)|neg (a:CE)
 |cmp (op:CmpOp) (a b:CE)
 |not (a:CE)|and (a b:CE)|or (a b:CE)|ife (c a b:CE)
 |tupE (a:CE)|lstE (a:CE)|aN|aC (a r:CE)
 |ix (a b:CE)|slice (a lo hi:CE)|nop|part (a:CE)
 |call (f:Nat) (args:CE) (ds:List D)
 |len (a:CE)|tOf (a:CE)|listOf (a:CE)|intOf (a:CE)|min (a b:CE)|max (a b:CE)|isi (T:Ty) (a:CE)
 |comp (rng:Bool) (fr:List Nat) (it elt Yi:CE)|comp2 (fr:List Nat) (it elt Yi:CE)|compT (fr:List Nat) (it elt Yi:CE)|lstR (a b:CE)|new (i:Nat)|meth (tab:List (Nat×Nat)) (o a:CE)|isc (l:List Nat) (a:CE)|tix (o a:CE)
 |rs (k:Bool) (a:CE)
 |inv (a:CE)|tupR (a:CE)|look (ks:List Str) (ds:List D) (a:CE)|dget (a k d:CE)|all (a:CE)|any (a:CE)|inR (ng:Bool) (a b:CE)
 |dict (ks:List Str) (a:CE)|dnew|strOf (a:CE)|joinE (a b:CE)|starts (a b:CE)|rng2 (a b:CE)|srt (a:CE)

set_option genInjectivity false in
inductive CS where
 |skip|seq (a b:CS)|ret (e:CE)|set (i:Nat) (e:CE)|app (i:Nat) (e:CE)|ext (i:Nat) (e:CE)|put (i:Nat) (k e:CE)
 |ite (c:CE) (a b:CS)|for1 (i:Nat) (rng:Bool) (it:CE) (b:CS)|for3 (i:Nat) (it:CE) (b:CS)|forP (i j:Nat) (it:CE) (b:CS)|forE (i j:Nat) (it:CE) (b:CS)|set2 (i j:Nat) (e:CE)|for4 (i j l:Nat) (it:CE) (b:CS)|for2 (i j:Nat) (it:CE) (b:CS)|whl (c:CE) (b:CS)|brk|cont|stop|set3 (i j l:Nat) (e:CE)|act (e:CE)|dput (i:Nat) (a b e:CE)|app2 (o e:CE)

noncomputable def ZM(i:Int):Bool:=decide (-(2 ^ 64) < i)&&decide (i < 2 ^ 64)
noncomputable def Ze:Nat:=1000000

noncomputable def Jh(op:Operator)(i j:Int):Ot Int:=
 match op with
 |.Add=>some (i+j)
 |.Sub=>some (i - j)
 |.Mult=>if ZM i||ZM j then some (i * j) else none
 |.FloorDiv=>if 0 < j/\j < 1073741824 then some (i / j) else if j < 0/\-1073741824 < j then some (i.fdiv j) else none
 |.Mod=>if 0 < j then some (i % j) else if j < 0 then some (i.fmod j) else none
 |.Pow=>if 0<=j/\j<=1000/\ZM i=true then some (i ^ j.toNat) else none
 |_=>none
noncomputable def XZ:Operator->Bool
 |.Add=>true
 |_=>false
noncomputable def WW:Operator->Bool
 |.Mult=>true
 |_=>false
noncomputable def Zbd(a b:Nat)(st:Za):Res:=match st[a]?,st[b]? with
 |some (_,xs),some (_,ys)=>if xs.length+ys.length<=Ze then some (.lst st.length,st++[(true,xs++ys)]) else none
 |_,_=>none
noncomputable def ZfV(a:Nat)(j:Int)(st:Za):Res:=match st[a]? with
 |some (true,[x])=>if j<=1000/\-1000<=j then some (.lst st.length,st++[(true,List.replicate j.toNat x)]) else none
 |_=>none
noncomputable def Zlr(xs:Li D)(j:Int)(st:Za):Res:=match xs with
 |[x]=>if j<=1000/\-1000<=j then some (.tup (List.replicate j.toNat x),st) else none
 |_=>none
noncomputable def UC(op:Operator)(x y:D)(st:Za):Res:=
 match x,y with
 |.int i,.int j=>match Jh op i j with
  |some k=>some (.int k,st)
  |none=>none
 |.tup xs,.int j=>if WW op=true then Zlr xs j st else none
 |.lst a,.lst b=>if XZ op=true then Zbd a b st else none
 |.lst a,.int j=>if WW op=true then ZfV a j st else none
 |.str x,.str y=>if XZ op=true/\x.length+y.length<=Ze then some (.str (x++y),st) else none
 |_,_=>none

noncomputable def QK(x k:Str):Bool:=!(PySem.Builtin.Str.occurrences x k 0 x.length 1).isEmpty
noncomputable def chS(x:Str):Li Str:=x.cps.toList.map fun c=>⟨#[c]⟩
noncomputable def Zfq(c:Nat):Bool:=decide (48<=c)&&decide (c<=57)
noncomputable def dgV(l:Li Nat):Nat:=l.foldl (fun a c=>a * 10+(c - 48)) 0
noncomputable def Vz(l:Li Nat):Bool:=!l.isEmpty&&l.all Zfq&&decide (l.length<=600)
noncomputable def Wn(x:Str):Ot Int:=match x.cps.toList with
 |45 :: r=>if Vz r=true then some (-(dgV r:Int)) else none
 |l=>if Vz l=true then some (dgV l:Int) else none
noncomputable def stW(x y:Str):Bool:=x.cps.toList.take y.cps.toList.length==y.cps.toList
noncomputable def W5:Li Str->Li Nat
 |[]=>[]
 |x :: r=>x.cps.toList++W5 r
noncomputable def Z6(s:Str):Li Str->Li Nat
 |[]=>[]
 |x :: r=>(s.cps.toList++x.cps.toList)++Z6 s r
noncomputable def Xv(s:Str):Li Str->Li Nat
 |[]=>[]
 |x :: r=>x.cps.toList++Z6 s r
noncomputable def W1:Li D->Ot (Li Str)
 |[]=>some []
 |.str x :: r=>(W1 r).map (x :: ·)
 |_=>none

noncomputable def Zbo(xs ys:Li D):Ot Bool:=if (xs.isEmpty||ys.isEmpty)=true then some (xs.isEmpty&&ys.isEmpty) else none
noncomputable def Jk(f:D->D->Bool):Li D->Li D->Bool
 |[],[]=>true
 |x :: xs,y :: ys=>f x y&&Jk f xs ys
 |_,_=>false
noncomputable def dEq(st:Za):Nat->D->D->Bool
 |_,.str x,.str y=>decide (x=y)
 |_,.bl x,.bl y=>decide (x=y)
 |n+1,.lst a,.lst b=>(match st[a]? with
  |some c=>(match st[b]? with
   |some d=>Jk (dEq st n) c.2 d.2
   |none=>false)
  |none=>false)
 |_,_,_=>false
noncomputable def ZaK(st:Za):Li D->Li D->Ot Bool
 |[.lst a,.bl i],[.lst b,.bl j]=>if dEq st 8 (.lst a) (.lst b)=true/\i=j then some true else none
 |_,_=>none
noncomputable def Zjr(st:Za)(xs:Li D):D->Ot Bool
 |.tup ys=>(match eqT xs (.tup ys) with
  |some k=>some k
  |none=>ZaK st xs ys)
 |_=>none
noncomputable def Zjq(st:Za)(a:Nat):D->Ot Bool
 |.lst b=>(o2 (fun(c d:Z5)=>Zbo c.2 d.2) st[a]? st[b]?).join
 |_=>none
noncomputable def eqS(st:Za)(x y:D):Ot Bool:=match x with
 |.lst a=>Zjq st a y
 |.tup xs=>Zjr st xs y
 |x=>eqD x y

noncomputable def Xy:Int->Li D->Ot Bool
 |_,[]=>some false
 |k,.int i :: r=>(Xy k r).map fun b=>decide (i=k)||b
 |_,_=>none
noncomputable def YS:Str->Li D->Ot Bool
 |_,[]=>some false
 |k,.str i :: r=>(YS k r).map fun b=>decide (i=k)||b
 |_,_=>none

noncomputable def ZjD:D->Ot Int
 |.int i=>some i
 |_=>none
noncomputable def isK(k:Str):D->Bool
 |.tup [.str x,_]=>decide (x=k)
 |_=>false
noncomputable def ZlA:D->Ot D
 |.tup [_,v]=>some v
 |_=>none
noncomputable def Yo(xs:Li D)(k:Str):Ot D:=(xs.find? (isK k)).bind ZlA
noncomputable def XU:Li D->Bool
 |.int _ :: _=>true
 |_=>false
noncomputable def dAt(k:Str)(a:Nat)(st:Za):Ot (Ot D):=match st[a]? with
 |some (_,xs)=>if XU xs=true then none else some (Yo xs k)
 |none=>none
noncomputable def YZ:Li Str->Li D->Str->Ot D
 |k :: ks,v :: vs,x=>if k=x then some v else YZ ks vs x
 |_,_,_=>none
noncomputable def JI(f:Int->Int->Bool):D->D->Ot Bool
 |.int i,.int j=>some (f i j)
 |_,_=>none
noncomputable def ltD(x y:D):Ot Bool:=JI (fun i j=>decide (i < j)) x y
noncomputable def ltS(_:Za)(x y:D):Ot Bool:=ltD x y
noncomputable def inS(st:Za)(x y:D):Ot Bool:=match x,y with
 |.int k,.tup xs=>Xy k xs
 |.str k,.tup xs=>YS k xs
 |.str k,.dic a=>(dAt k a st).map Option.isSome
 |.str k,.kt ks=>some (ks.contains k)
 |.str k,.str x=>some (QK x k)
 |_,_=>none
noncomputable def niS(st:Za)(x y:D):Ot Bool:=match y with
 |.dct _ _=>none
 |y=>(inS st x y).map not
noncomputable def isN:D->Ot Bool
 |.non=>some true
 |.int _=>some false
 |.str _=>some false
 |.bl _=>some false
 |.tup _=>some false
 |.lst _=>some false
 |.dct _ _=>none
 |.obj _=>none
 |.kt _=>none
 |.dic _=>none
noncomputable def isB(b:Bool):D->Ot Bool
 |.bl a=>some (a==b)
 |_=>none
noncomputable def isD(x:D):D->Ot Bool
 |.non=>isN x
 |.bl b=>isB b x
 |_=>none
noncomputable def X6(op:CmpOp)(x y:D)(st:Za):Ot Bool:=
 match op with
 |.Lt=>ltS st x y
 |.LtE=>JI (fun i j=>decide (i<=j)) x y
 |.Gt=>JI (fun i j=>decide (j < i)) x y
 |.GtE=>JI (fun i j=>decide (j<=i)) x y
 |.Eq=>eqS st x y
 |.NotEq=>(eqS st x y).map not
 |.In=>inS st x y
 |.NotIn=>niS st x y
 |.Is=>isD x y
 |.IsNot=>(isD x y).map not

noncomputable def ixN(n:Nat)(i:Int):Ot Nat:=if 0<=i then (if i < n then some i.toNat else none) else if -(n:Int)<=i then some (i+n).toNat else none
noncomputable def atD(xs:Li D)(i:Int):Ot D:=(ixN xs.length i).bind fun j=>xs[j]?
noncomputable def ixD(x y:D)(st:Za):Ot D:=
 match x,y with
 |.tup xs,.int i=>atD xs i
 |.lst a,.int i=>match st[a]? with
  |some (_,xs)=>atD xs i
  |none=>none
 |.str x,.int i=>if x.length<=Ze then atD ((chS x).map .str) i else none
 |_,_=>none

noncomputable def sIx(n d:Nat):Ot Int->Nat
 |none=>d
 |some i=>if i < 0 then (i+n).toNat else Nat.min i.toNat n
noncomputable def WF(x:Str)(lo hi:Ot Int):Str:=⟨((x.cps.toList.drop (sIx x.length 0 lo)).take (sIx x.length x.length hi - sIx x.length 0 lo)).toArray⟩
noncomputable def Zbi(xs:Li D)(lo hi:Ot Int):Li D:=(xs.drop (sIx xs.length 0 lo)).take (sIx xs.length xs.length hi - sIx xs.length 0 lo)
noncomputable def Ye(x:D)(lo hi:Ot Int)(st:Za):Res:=
 match x with
 |.tup xs=>if sIx xs.length 0 lo=0/\sIx xs.length xs.length hi=xs.length then some (.tup xs,st) else some (.tup (Zbi xs lo hi),st)
 |.lst a=>match st[a]? with
  |some (_,xs)=>some (.lst st.length,st++[(true,Zbi xs lo hi)])
  |none=>none
 |.str x=>if x.length<=Ze then some (.str (WF x lo hi),st) else none
 |_=>none

noncomputable def Zbz(x:D)(st:Za):Ot Int:=
 match x with
 |.tup xs=>some xs.length
 |.lst a=>match st[a]? with
  |some (_,xs)=>some xs.length
  |none=>none
 |.str x=>if x.length<=Ze then some x.length else none
 |.dic a=>match st[a]? with
  |some (_,xs)=>if XU xs=true then none else some xs.length
  |none=>none
 |_=>none

noncomputable def Zfs(T:Ty):D->Ot Bool
 |.int _=>some (decide (T=.int))
 |.bl _=>some (decide (T=.int)||decide (T=.bool))
 |.str _=>some (decide (T=.str))
 |.tup _=>some (decide (T=.tuple))
 |.non=>some false
 |_=>none

noncomputable def UO(rng:Bool)(x:D):Ot (Li D):=
 match rng,x with
 |true,.int n=>if n < 2 ^ 62/\-(2 ^ 62)<=n then some ((List.range n.toNat).map fun(k:Nat)=>D.int (k:Int)) else none
 |_,_=>none

noncomputable def ZJ(a b c:Int):Nat:=if 0 < c then (if a < b then ((b - a - 1) / c+1).toNat else 0) else (if b < a then ((a - b - 1) / (-c)+1).toNat else 0)
noncomputable def ZP(a b c:Int):Bool:=decide ((-(2 ^ 30) < a/\a < 2 ^ 30)/\(-(2 ^ 30) < b/\b < 2 ^ 30)/\(c=1\/c=2))
noncomputable def ZG(a b c:Int):Li Int:=(List.range (ZJ a b c)).map fun(k:Nat)=>a+k * c
noncomputable def Zc9:Li D->Ot (Li Int)
 |[]=>some []
 |x :: r=>o2 List.cons (ZjD x) (Zc9 r)
noncomputable def Ziy:Li Int->Ot (Li Int)
 |[a,b]=>og (ZP a b 1=true) (some (ZG a b 1))
 |[a,b,c]=>og (ZP a b c=true) (some (ZG a b c))
 |_=>none
noncomputable def UM:D->Ot (Li Int)
 |.tup xs=>(Zc9 xs).bind Ziy
 |_=>none
noncomputable def Yh(ok:Za->Prop)(f:D->Za->Res)(c:D->Za->Res):Li D->Za->Ot (Li D×Za)
 |[],st=>open Classical in if ok st then some ([],st) else none
 |x :: xs,st=>open Classical in if ok st then (match c x st with
  |some (.bl true,st1)=>match f x st1 with
   |some (y,st2)=>match Yh ok f c xs st2 with
    |some (ys,st3)=>some (y :: ys,st3)
    |none=>none
   |none=>none
  |some (.bl false,st1)=>Yh ok f c xs st1
  |_=>none) else none
noncomputable def Q4(rng:Bool)(x:D)(st:Za):Ot (Li D×(Za->Prop)):=match UO rng x with
 |some xs=>some (xs,fun _=>True)
 |none=>match rng,x with
  |false,.str x=>if x.cps.all (fun c=>decide (c < 128))=true then some ((chS x).map .str,fun _=>True) else none
  |false,.dct [] [.int a,.int b]=>some ((ZG a b 1).map .int,fun _=>True)
  |_,_=>none


noncomputable def Q5(xs ys:Li D):Li D:=(xs.zip ys).map fun p=>.tup [p.1,p.2]
noncomputable def VX(x:D)(st:Za):Ot (Li D×(Za->Prop)):=match x with
 |.tup [.lst a,.tup ys]=>match st[a]? with
  |some c=>some (Q5 c.2 ys,fun s=>s[a]?=some c)
  |none=>none
 |_=>none


noncomputable abbrev Ev:=Env->Za->Res
noncomputable def Zo(fa:Ev)(g:D->Za->Res):Ev:=fun ρ st=>match fa ρ st with
 |some (x,st1)=>g x st1
 |none=>none
noncomputable def Zz(fa fb:Ev)(g:D->D->Za->Res):Ev:=fun ρ st=>match fa ρ st with
 |some (x,st1)=>match fb ρ st1 with
  |some (y,st2)=>g x y st2
  |none=>none
 |none=>none
noncomputable def JS(fa fb fc:Ev)(g:D->D->D->Za->Res):Ev:=fun ρ st=>match fa ρ st with
 |some (x,st1)=>match fb ρ st1 with
  |some (y,st2)=>match fc ρ st2 with
   |some (z,st3)=>g x y z st3
   |none=>none
  |none=>none
 |none=>none
noncomputable def Yi(fc ft ff:Ev):Ev:=fun ρ st=>match fc ρ st with
 |some (.bl true,st1)=>ft ρ st1
 |some (.bl false,st1)=>ff ρ st1
 |_=>none
noncomputable def ZV(i:Nat):Ev:=fun ρ st=>match ρ[i]? with
 |some (some d)=>some (d,st)
 |_=>none
noncomputable def evC(d:D):Ev:=fun _ st=>some (d,st)
noncomputable def ZfC:D->Za->Res
 |.int i,st=>some (.int (-i),st)
 |_,_=>none
noncomputable def JH:D->Za->Res
 |.bl k,st=>some (.bl (!k),st)
 |_,_=>none
noncomputable def Xp(op:CmpOp)(x y:D)(st:Za):Res:=match X6 op x y st with
 |some k=>some (.bl k,st)
 |none=>none
noncomputable def JD:D->Za->Res
 |.tup xs,st=>some (.lst st.length,st++[(true,xs)])
 |_,_=>none
noncomputable def Xr:D->D->Za->Res
 |x,.tup xs,st=>if xs.length < 1000 then some (.tup (x :: xs),st) else none
 |_,_,_=>none
noncomputable def ixR(x y:D)(st:Za):Res:=match ixD x y st with
 |some d=>some (d,st)
 |none=>none
noncomputable def Wc:D->D->D->Za->Res
 |x,.non,.non,st=>Ye x none none st
 |x,.int i,.non,st=>Ye x (some i) none st
 |x,.non,.int j,st=>Ye x none (some j) st
 |x,.int i,.int j,st=>Ye x (some i) (some j) st
 |_,_,_,_=>none
noncomputable def QM:D->Za->Res
 |.int i,st=>some (.int i,st)
 |_,_=>none
noncomputable def Wr:Res->Res
 |some (.dct [_] _,_)=>none
 |r=>r
noncomputable def V4(g:Fn)(ds:Li D):D->Za->Res
 |.tup xs,st=>g (xs++ds) st
 |_,_=>none
noncomputable def Qj(g:Fn)(ds:Li D)(x:D)(st:Za):Res:=Wr (V4 g ds x st)
noncomputable def WY(F:Nat->Fn)(tab:Li (Nat×Nat))(fo fa:Ev):Ev:=fun ρ st=>match fo ρ st with
 |some (.dic a,st1)=>(match st1[a]? with
  |some (_,.int c :: _)=>(match tab.lookup c.toNat with
   |some j=>(match fa ρ st1 with
    |some (.tup xs,st2)=>F j (.dic a :: xs) st2
    |_=>none)
   |none=>none)
  |_=>none)
 |_=>none
noncomputable def ZjN(F:Nat->Fn)(tab:Li (Nat×Nat))(fo fa:Ev):Ev:=fun ρ st=>Wr (WY F tab fo fa ρ st)
noncomputable def XW(c:Nat):Li Nat->Li (Li Nat)
 |[]=>[[]]
 |x :: r=>if x=c then [] :: XW c r else match XW c r with
  |p :: q=>(x :: p) :: q
  |[]=>[[x]]
noncomputable def XJ(x y:Str):Li Str:=(XW (y.cps.toList.headD 0) x.cps.toList).map fun l=>⟨l.toArray⟩
noncomputable def Zec:D->D->Za->Res
 |.str x,.tup [.str y],st=>if y.length=1/\x.length<=Ze then some (.lst st.length,st++[(true,(XJ x y).map .str)]) else none
 |_,_,_=>none
noncomputable def Zde(l:Li Nat):D->Za->Res
 |.obj i,st=>some (.bl (l.contains (i % 1000)),st)
 |_,_=>none
noncomputable def Zdk:D->Za->Res
 |.obj i,st=>some (.int ((i / 1000:Nat):Int),st)
 |_,_=>none
noncomputable def ZkP(F:Nat->Fn)(l:Li Nat)(fa:Ev):Ev:=match l with
 |[i,j]=>fun _ st=>match F j [.dic st.length] (st++[(true,[.int i])]) with
  |some (.non,st')=>some (.dic st.length,st')
  |_=>none
 |[_]=>Zo fa Zdk
 |_ :: _ :: _ :: l=>Zo fa (Zde l)
 |[]=>fun _ _=>none
noncomputable def ZcG(ks:Li Str)(d:D)(st:Za):Res:=match ks,d with
 |[f],.dic a=>(match st[a]? with
  |some (_,.int _ :: es)=>(match Yo es f with
   |some v=>some (v,st)
   |none=>none)
  |_=>none)
 |_,_=>none
noncomputable def XV(x:D)(st:Za):Res:=match Zbz x st with
 |some n=>some (.int n,st)
 |none=>none
noncomputable def XL:D->Za->Res
 |.tup xs,st=>some (.tup xs,st)
 |.lst l,st=>match st[l]? with
  |some (_,xs)=>some (.tup xs,st)
  |none=>none
 |_,_=>none
noncomputable def Zc6:D->Za->Res
 |.int i,st=>some (.int i,st)
 |.bl true,st=>some (.int 1,st)
 |.bl false,st=>some (.int 0,st)
 |.str x,st=>(match Wn x with
  |some i=>some (.int i,st)
  |none=>none)
 |_,_=>none
noncomputable def Q1:D->Za->Res
 |.int i,st=>if ZM i=true then some (.str (Str.ofString (toString i)),st) else none
 |_,_=>none
noncomputable def Zax(ds:Li D)(st:Za):Res:=match W1 ds with
 |some xs=>if (W5 xs).length<=Ze then some (.str ⟨(W5 xs).toArray⟩,st) else none
 |none=>none
noncomputable def Zaw(s:Str)(ds:Li D)(st:Za):Res:=match W1 ds with
 |some xs=>if (Z6 s xs).length<=Ze then some (.str ⟨(Xv s xs).toArray⟩,st) else none
 |none=>none
noncomputable def Ue:D->D->Za->Res
 |.str s,.lst a,st=>match st[a]? with
  |some (_,ds)=>if s.length=0 then Zax ds st else Zaw s ds st
  |none=>none
 |_,_,_=>none
noncomputable def QS:D->D->Za->Res
 |.int a,.int b,st=>if ZP a b 1=true then some (.dct [] [.int a,.int b],st) else none
 |_,_,_=>none
noncomputable def Vj:D->D->Za->Res
 |.str x,.tup [.str y],st=>some (.bl (stW x y),st)
 |_,_,_=>none
noncomputable def Zfy:D->D->Za->Res
 |.int i,.int j,st=>some (.int (if j < i then j else i),st)
 |_,_,_=>none
noncomputable def Zfw:D->D->Za->Res
 |.int i,.int j,st=>some (.int (if j > i then j else i),st)
 |_,_,_=>none
noncomputable def Ju(T:Ty)(x:D)(st:Za):Res:=match Zfs T x with
 |some k=>some (.bl k,st)
 |none=>none
noncomputable def Ug(ks:Li Str)(ds:Li D):D->Za->Res
 |.str k,st=>match YZ ks ds k with
  |some d=>some (d,st)
  |none=>none
 |_,_=>none
noncomputable def getD:D->D->D->Za->Res
 |.dct ks vs,.str k,d,st=>some ((YZ ks vs k).getD d,st)
 |_,_,_,_=>none
noncomputable def Xl:Li D->Ot (Li Bool)
 |[]=>some []
 |.bl b :: r=>(Xl r).map (b :: ·)
 |_=>none
noncomputable def WN(f:Li Bool->Bool)(x:D)(st:Za):Res:=match x with
 |.lst a=>match st[a]? with
  |some (_,xs)=>match Xl xs with
   |some bs=>some (.bl (f bs),st)
   |none=>none
  |none=>none
 |_=>none

noncomputable def one(d:D):Li (Ot D):=[some d]
noncomputable def two:D->Li (Ot D)
 |.tup [a,b]=>[some a,some b]
 |_=>[]
noncomputable def YR(b:D->Li (Ot D))(ρ:Env)(fr:Li Nat)(d:D):Env:=b d++fr.map fun i=>(ρ[i]?).join
noncomputable def Vr(b:D->Li (Ot D))(w:D->Za->Ot (Li D×(Za->Prop)))(fr:Li Nat)(fi fe fc:Ev):Ev:=fun ρ st=>match fi ρ st with
 |some (x,st1)=>match w x st1 with
  |some (xs,ok)=>if xs.length<=1000 then
    match Yh ok (fun d s=>fe (YR b ρ fr d) s) (fun d s=>fc (YR b ρ fr d) s) xs st1 with
    |some (ys,st2)=>some (.lst st2.length,st2++[(true,ys)])
    |none=>none
   else none
  |none=>none
 |none=>none

noncomputable def ZgH:Ev:=fun _ st=>some (.dic st.length,st++[(true,[])])
noncomputable def ev(F:Nat->Fn):CE->Ev
 |.var i=>ZV i
 |.cst d=>evC d
 |.bin op a b=>Zz (ev F a) (ev F b) (UC op)
 |.neg a=>Zo (ev F a) ZfC
 |.cmp op a b=>Zz (ev F a) (ev F b) (Xp op)
 |.not a=>Zo (ev F a) JH
 |.and a b=>Yi (ev F a) (ev F b) (evC (.bl false))
 |.or a b=>Yi (ev F a) (evC (.bl true)) (ev F b)
 |.ife c a b=>Yi (ev F c) (ev F a) (ev F b)
 |.tupE a=>ev F a
 |.lstE a=>Zo (ev F a) JD
 |.aN=>evC (.tup [])
 |.aC a r=>Zz (ev F a) (ev F r) Xr
 |.ix a b=>Zz (ev F a) (ev F b) ixR
 |.slice a lo hi=>JS (ev F a) (ev F lo) (ev F hi) Wc
 |.nop=>evC .non
 |.part a=>Zo (ev F a) QM
 |.call f a ds=>Zo (ev F a) (Qj (F f) ds)
 |.len a=>Zo (ev F a) XV
 |.tOf a=>Zo (ev F a) XL
 |.listOf _=>fun _ _=>none
 |.intOf a=>Zo (ev F a) Zc6
 |.min a b=>Zz (ev F a) (ev F b) Zfy
 |.max a b=>Zz (ev F a) (ev F b) Zfw
 |.isi T a=>Zo (ev F a) (Ju T)
 |.rs _ _=>fun _ _=>none
 |.inv _=>fun _ _=>none
 |.tupR _=>fun _ _=>none
 |.look ks ds a=>Zo (ev F a) (Ug ks ds)
 |.dget _ _ _=>fun _ _=>none
 |.inR _ _ _=>fun _ _=>none
 |.all a=>Zo (ev F a) (WN fun l=>l.all id)
 |.any _=>fun _ _=>none
 |.comp rng fr it elt cnd=>Vr one (Q4 rng) fr (ev F it) (ev F elt) (ev F cnd)
 |.comp2 fr it elt cnd=>Vr two VX fr (ev F it) (ev F elt) (ev F cnd)
 |.compT _ _ _ _=>fun _ _=>none
 |.lstR _ _=>fun _ _=>none
 |.new _=>fun _ _=>none
 |.meth tab o a=>ZjN F tab (ev F o) (ev F a)
 |.isc l a=>ZkP F l (ev F a)
 |.tix o a=>Zz (ev F o) (ev F a) Zec
 |.dict ks a=>Zo (ev F a) (ZcG ks)
 |.dnew=>ZgH
 |.strOf a=>Zo (ev F a) Q1
 |.joinE a b=>Zz (ev F a) (ev F b) Ue
 |.starts a b=>Zz (ev F a) (ev F b) Vj
 |.rng2 a b=>Zz (ev F a) (ev F b) QS
 |.srt _=>fun _ _=>none

inductive Fl where
 |nx (ρ:Env)|rt (d:D)|bk (ρ:Env)|ct (ρ:Env)

noncomputable def Zi(ρ:Env)(i:Nat)(d:D):Env:=ρ.set i (some d)

noncomputable def Wp(body:D->Env->Za->Ot (Fl×Za)):Li D->Env->Za->Ot (Fl×Za)
 |[],ρ,st=>some (.nx ρ,st)
 |d :: ds,ρ,st=>match body d ρ st with
  |some (.nx ρ',st')=>Wp body ds ρ' st'
  |some (.ct ρ',st')=>Wp body ds ρ' st'
  |some (.bk ρ',st')=>some (.nx ρ',st')
  |some (.rt v,st')=>some (.rt v,st')
  |none=>none
noncomputable def Z4(body:D->Env->Za->Ot (Fl×Za))(a:Nat):Nat->Nat->Env->Za->Ot (Fl×Za)
 |0,i,ρ,st=>match st[a]? with
  |some (_,xs)=>if xs.length<=i then some (.nx ρ,st) else none
  |none=>none
 |n+1,i,ρ,st=>match st[a]? with
  |some (_,xs)=>match xs[i]? with
   |none=>some (.nx ρ,st)
   |some d=>match body d ρ st with
    |some (.nx ρ',st')=>Z4 body a n (i+1) ρ' st'
    |some (.ct ρ',st')=>Z4 body a n (i+1) ρ' st'
    |some (.bk ρ',st')=>some (.nx ρ',st')
    |some (.rt v,st')=>some (.rt v,st')
    |none=>none
  |none=>none

noncomputable abbrev Ex:=Env->Za->Ot (Fl×Za)
noncomputable def Y4(f g:Ex):Ex:=fun ρ st=>match f ρ st with
 |some (.nx ρ',st')=>g ρ' st'
 |r=>r
noncomputable def JQ(f:Ev):Ex:=fun ρ st=>match f ρ st with
 |some (d,st')=>some (.rt d,st')
 |none=>none
noncomputable def VO(i:Nat)(f:Ev):Ex:=fun ρ st=>match f ρ st with
 |some (d,st')=>some (.nx (Zi ρ i d),st')
 |none=>none
noncomputable def QW(i j l:Nat)(f:Ev):Ex:=fun ρ st=>match f ρ st with
 |some (.tup [x,y,z],st')=>some (.nx (Zi (Zi (Zi ρ i x) j y) l z),st')
 |_=>none
noncomputable def evX(F:Nat->Fn):CE->Ev
 |.call f a ds=>Zo (ev F a) (V4 (F f) ds)
 |.meth tab o a=>WY F tab (ev F o) (ev F a)
 |_=>fun _ _=>none
noncomputable def Qc(f:Ev):Ex:=fun ρ st=>match f ρ st with
 |some (.dct [k] vs,st')=>some (.rt (.dct [k] vs),st')
 |some (_,st')=>some (.nx ρ,st')
 |none=>none
noncomputable def Jd(a:Nat)(d:D)(st:Za):Ot Za:=match st[a]? with
 |some (true,xs)=>if xs.length < Ze then some (st.set a (true,xs++[d])) else none
 |_=>none
noncomputable def Zhp(i:Nat)(f:Ev):Ex:=fun ρ st=>match ρ[i]? with
 |some (some (.lst a))=>match f ρ st with
  |some (d,st')=>match Jd a d st' with
   |some st2=>some (.nx ρ,st2)
   |none=>none
  |none=>none
 |_=>none
noncomputable def Qd(o f:Ev):Ex:=fun ρ st=>match o ρ st with
 |some (.lst a,st1)=>match f ρ st1 with
  |some (d,st2)=>match Jd a d st2 with
   |some st3=>some (.nx ρ,st3)
   |none=>none
  |none=>none
 |_=>none
noncomputable def VN(i:Nat)(f:Ev):Ex:=fun ρ st=>match f ρ st with
 |some (.int k,st')=>some (.rt (.dct [S "!"] [.int i,.int k]),st')
 |_=>none
noncomputable def ZdR(i:Nat)(k:CE)(f:Ev):Ex:=fun ρ st=>match k with
 |.cst (.str x)=>(match f ρ st with
  |some (d,st1)=>(match ρ[i]? with
   |some (some (.dic a))=>(match st1[a]? with
    |some (true,.int c :: es)=>if es.length < 900/\es.any (isK x)=false then some (.nx ρ,st1.set a (true,.int c :: (es++[.tup [.str x,d]]))) else none
    |_=>none)
   |_=>none)
  |none=>none)
 |_=>none
noncomputable def Qo(o k f:Ev):Ex:=fun ρ st=>match f ρ st with
 |some (d,st1)=>(match o ρ st1 with
  |some (.dic a,st2)=>(match k ρ st2 with
   |some (.str x,st3)=>(match st3[a]? with
    |some (true,es)=>if XU es=false/\es.length < Ze/\es.any (isK x)=false then some (.nx ρ,st3.set a (true,es++[.tup [.str x,d]])) else none
    |_=>none)
   |_=>none)
  |_=>none)
 |none=>none
noncomputable def W7(c:Ev)(f g:Ex):Ex:=fun ρ st=>match c ρ st with
 |some (.bl true,st1)=>f ρ st1
 |some (.bl false,st1)=>g ρ st1
 |_=>none
noncomputable def Jp(i:Nat)(rng:Bool)(it:Ev)(b:Ex):Ex:=fun ρ st=>match rng,it ρ st with
 |false,some (.lst a,st1)=>(match st1[a]? with
  |some (_,xs)=>Z4 (fun d ρ s=>b (Zi ρ i d) s) a xs.length 0 ρ st1
  |none=>none)
 |_,_=>none
noncomputable def Qu(i:Nat)(it:Ev)(b:Ex):Ex:=fun ρ st=>match it ρ st with
 |some (x,st1)=>match UM x with
  |some xs=>Wp (fun d ρ s=>b (Zi ρ i d) s) (xs.map .int) ρ st1
  |none=>none
 |none=>none
noncomputable def ZN(ok:Za->Prop)(body:D->D->Env->Za->Ot (Fl×Za)):Li (D×D)->Env->Za->Ot (Fl×Za)
 |[],ρ,st=>open Classical in if ok st then some (.nx ρ,st) else none
 |p :: ps,ρ,st=>open Classical in if ok st then (match body p.1 p.2 ρ st with
  |some (.nx ρ',st')=>ZN ok body ps ρ' st'
  |some (.ct ρ',st')=>ZN ok body ps ρ' st'
  |some (.bk ρ',st')=>some (.nx ρ',st')
  |some (.rt v,st')=>some (.rt v,st')
  |none=>none) else none
noncomputable def Vu(i j:Nat)(it:Ev)(b:Ex):Ex:=fun ρ st=>match it ρ st with
 |some (.tup [.lst la,.tup ys],st1)=>match st1[la]? with
  |some ca=>ZN (fun s=>s[la]?=some ca) (fun x y ρ s=>b (Zi (Zi ρ i x) j y) s) (ca.2.zip ys) ρ st1
  |none=>none
 |_=>none
noncomputable def Wj:Nat->Li D->Li (D×D)
 |_,[]=>[]
 |k,x :: xs=>(.int (k:Int),x) :: Wj (k+1) xs
noncomputable def Zkt(x:D)(st:Za):Ot (Li D×(Za->Prop)):=match x with
 |.lst a=>match st[a]? with
  |some c=>some (c.2,fun s=>s[a]?=some c)
  |none=>none
 |_=>none
noncomputable def Qv(i j:Nat)(it:Ev)(b:Ex):Ex:=fun ρ st=>match it ρ st with
 |some (x,st1)=>match Zkt x st1 with
  |some (xs,ok)=>ZN ok (fun x y ρ s=>b (Zi (Zi ρ i x) j y) s) (Wj 1 xs) ρ st1
  |none=>none
 |none=>none
noncomputable def Qt(it:Ev):Ex:=fun ρ st=>match it ρ st with
 |some (.lst a,st1)=>(match st1[a]? with
  |some (_,[])=>some (.nx ρ,st1)
  |_=>none)
 |_=>none
noncomputable def exNums:Li Nat:=[224,226]
noncomputable def Zlz(F:Nat->Fn)(c:CE)(b:Ex):Ex:=match c with
 |.compT l (.var n) e _=>fun ρ st=>(match evX F e ρ st with
  |some (.dct [_] [.int c,.int k],st1)=>if (0<=k/\c.toNat < 1000)/\l.contains c.toNat=true/\exNums.contains c.toNat=true then (match b (Zi ρ n (.obj (c.toNat+1000 * k.toNat))) st1 with
   |some (.nx ρ',st2)=>some (.nx (ρ'.set n none),st2)
   |_=>none) else none
  |_=>none)
 |_=>fun _ _=>none

noncomputable def ex(F:Nat->Fn):CS->Ex
 |.skip=>fun ρ st=>some (.nx ρ,st)
 |.seq a b=>Y4 (ex F a) (ex F b)
 |.ret e=>JQ (ev F e)
 |.set i e=>VO i (ev F e)
 |.app i e=>Zhp i (ev F e)
 |.ext i e=>VN i (ev F e)
 |.put i k e=>ZdR i k (ev F e)
 |.ite c a b=>W7 (ev F c) (ex F a) (ex F b)
 |.for1 i rng it b=>Jp i rng (ev F it) (ex F b)
 |.forP i j it b=>Vu i j (ev F it) (ex F b)
 |.forE i j it b=>Qv i j (ev F it) (ex F b)
 |.for3 i it b=>Qu i (ev F it) (ex F b)
 |.set2 _ _ _=>fun _ _=>none
 |.for4 _ _ _ _ _=>fun _ _=>none
 |.for2 _ _ it _=>Qt (ev F it)
 |.whl c b=>Zlz F c (ex F b)
 |.brk=>fun ρ st=>some (.bk ρ,st)
 |.cont=>fun ρ st=>some (.ct ρ,st)
 |.stop=>fun _ _=>none
 |.set3 i j l e=>QW i j l (ev F e)
 |.act e=>Qc (evX F e)
 |.dput _ a b e=>Qo (ev F a) (ev F b) (ev F e)
 |.app2 o e=>Qd (ev F o) (ev F e)

structure FD where
 ps:Nat
 ns:Nat
 body:CS
noncomputable def fnD(F:Nat->Fn)(f:FD):Fn:=fun ds st=>
 if ds.length=f.ps then
  match ex F f.body (ds.map some++List.replicate (f.ns - ds.length) none) st with
  |some (.rt d,st')=>some (d,st')
  |some (.nx _,st')=>some (.non,st')
  |_=>none
 else none
noncomputable def run(T:Nat->Ot FD):Nat->Nat->Fn
 |0,_=>fun _ _=>none
 |n+1,i=>match T i with
  |some f=>fnD (run T n) f
  |none=>fun _ _=>none

inductive GV where
 |fn (i:Nat) (ps:Nat) (ds:List D)|cst (d:D)|blt|dct (ks:List Str) (ds:List D)|cls (i:Nat) (ms:List (Str×Nat×Nat)) (subs:List Nat)|exc (i:Nat) (subs:List Nat)|fnq (i:Nat)
noncomputable abbrev Gs:=Li (Str×GV)

noncomputable def CE.ofConst:Const->Ot CE
 |.none=>some (.cst .non)
 |.bool b=>some (.cst (.bl b))
 |.int i=>some (.cst (.int i))
 |.str x=>some (.cst (.str x))
 |_=>none
noncomputable def Xz(sc:Scope)(x:Str):Bool:=!(x==("__debug__":Str))&&!(x==("__classdict__":Str))&&match sc.names.lookup x with
 |some .local=>true
 |some .cell=>true
 |some .free=>true
 |_=>false
noncomputable def Zq(sc:Scope)(x:Str):Bool:=!(x==("__debug__":Str))&&match sc.names.lookup x with
 |some .globalImplicit=>true
 |_=>false
noncomputable def Zkp(x:Str):Ot Ty:=
 if x = "int" then some .int else if x = "bool" then some .bool else if x = "str" then some .str else if x = "tuple" then some .tuple else none
noncomputable def ZL(sc:Scope):Li Str:=(sc.names.filter fun p=>decide (p.2=.free)).map (·.1)

noncomputable def Zht(f:Str)(x:CE):Ot CE:=
 if f = "len" then some (.len x) else if f = "tuple" then some (.tOf x) else if f = "int" then some (.intOf x) else if f = "all" then some (.all x) else if f = "str" then some (.strOf x) else none
noncomputable def Zhu(f:Str)(x y:CE):Ot CE:=if f = "min" then some (.min x y) else if f = "max" then some (.max x y) else none
noncomputable def Ud(G:Gs)(x:Str):Bool:=match G.lookup x with
 |some .blt=>true
 |_=>false
noncomputable def ZiW(G:Gs)(sc:Scope)(t:Str):Ot Ty:=if Zq sc t&&Ud G t then Zkp t else none
noncomputable def ZaW(G:Gs)(sc:Scope):Expr->Ot Ty
 |.Name t _=>ZiW G sc t
 |_=>none


noncomputable def ZgV(m:Str)(k:Nat)(G:Gs)(x:Str):Ot (Nat×Nat):=match G.lookup x with
 |some (.cls i ms _)=>(match ms.lookup m with
  |some (j,ps)=>if ps=k+1 then some (i,j) else none
  |none=>none)
 |_=>none
noncomputable def YL(m:Str)(k:Nat)(G:Gs):Li (Nat×Nat):=(G.map Prod.fst).filterMap (ZgV m k G)
noncomputable def ZgF:Expr->Ot (Str×Li Expr)
 |.Call (.Name f _) as [] _=>some (f,as)
 |_=>none
noncomputable def fnA(G:Gs)(sc:Scope)(nm:Str)(e:Expr):Ot (Li Expr):=(ZgF e).bind fun p=>og (p.1=nm/\Zq sc p.1=true/\Ud G p.1=true) (some p.2)
noncomputable def Zj3:Li Expr->Ot Expr
 |[a]=>some a
 |_=>none
noncomputable def YA(G:Gs)(sc:Scope)(e:Expr):Ot Expr:=(fnA G sc "range" e).bind Zj3
noncomputable def J1(_:Gs)(_:Scope)(_:Str)(_:Expr):Ot Expr:=none
noncomputable def Zej:Li Expr->Ot (Expr×Expr)
 |[a,b]=>some (a,b)
 |_=>none
noncomputable def JC(_:Gs)(_:Scope)(_:Str)(_:Expr):Ot (Expr×Expr):=none
noncomputable def o3{α β γ δ:Type}(f:α->β->γ->δ):Ot α->Ot β->Ot γ->Ot δ
 |some x,b,c=>o2 (f x) b c
 |none,_,_=>none
variable{γ:Type}
theorem X9{P:γ->Prop}{f:α->γ}{a:Ot α}{c:γ}(h:a.map f=some c)(k:∀ x,a=some x->P (f x)):P c:=by
 cases a with
 |none=>exact Zb h
 |some x=>cases h;exact k x rfl
variable{β:Type}
theorem ZQ{P:γ->Prop}{f:α->β->γ}{a:Ot α}{b:Ot β}{c:γ}(h:o2 f a b=some c)(k:∀ x y,a=some x->b=some y->P (f x y)):P c:=by
 cases a with
 |none=>exact Zb h
 |some x=>cases b with
  |none=>exact Zb h
  |some y=>cases h;exact k x y rfl rfl
theorem WM{δ:Type}{P:δ->Prop}{f:α->β->γ->δ}{a:Ot α}{b:Ot β}{d:Ot γ}{c:δ}(h:o3 f a b d=some c)(k:∀ x y z,a=some x->b=some y->d=some z->P (f x y z)):P c:=by
 cases a with
 |none=>exact Zb h
 |some x=>exact ZQ (P:=P) h fun y z e e'=>k x y z rfl e e'
theorem ZY{P:Prop}{p:Prop}[Decidable p]{o:Ot α}{c:α}(h:og p o=some c)(k:p->o=some c->P):P:=by
 unfold og at h;by_cases hp:p
 ·rw[if_pos hp]at h;exact k hp h
 ·rw[if_neg hp]at h;cases h
theorem j_e{P:Prop}{o:Ot (Ot α)}{c:α}(h:o.join=some c)(k:o=some (some c)->P):P:=by
 cases o with
 |none=>exact Zb h
 |some x=>cases h;exact k rfl

noncomputable def Zb9(G:Gs)(sc:Scope)(f:Str)(a:Expr)(r:Expr->Ot CE):Ot CE:=match J1 G sc f a with
 |some e=>(r e).map .tupR
 |none=>match JC G sc f a with
  |some (u,v)=>o2 .lstR (r u) (r v)
  |none=>((r a).map (Zht f)).join
noncomputable def Zju(G:Gs)(t:Str):Ot (Li Nat):=match G.lookup t with
 |some (.exc _ l)=>some l
 |some .blt=>if t = "ValueError" then some exNums else none
 |_=>none
noncomputable def Jn(G:Gs)(sc:Scope):Expr->Ot (Li Nat)
 |.Name t _=>if Zq sc t then Zju G t else none
 |_=>none
noncomputable def ZX(G:Gs):Bool:=(G.lookup ("law":Str)).isSome
noncomputable def Yb(G:Gs):Gs:=(G.map Prod.fst).filterMap fun x=>match G.lookup x with
 |some .blt=>some (x,.blt)
 |some (.exc i l)=>some (x,.exc i l)
 |_=>none
noncomputable def Zca(G:Gs)(sc:Scope)(f:Str)(a b:Expr)(r:Expr->Ot CE):Ot CE:=if f = "isinstance" then (match Jn G sc b with
 |some l=>(r a).map (.isc (0 :: 0 :: 0 :: l))
 |none=>o2 (fun x T=>.isi T x) (r a) (ZaW G sc b)) else og (ZX G=true) (o2 (Zhu f) (r a) (r b)).join
noncomputable def Zcg(G:Gs)(sc:Scope)(f:Str)(as:Li Expr)(cs:Ot CE)(r:Expr->Ot CE):Ot CE:=
 if Zq sc f then (match G.lookup f with
   |some (.fn i ps ds)=>og (as.length<=ps/\ps<=as.length+ds.length) (cs.map fun c=>.call i c (ds.drop (as.length+ds.length - ps)))
   |some .blt=>match as with
    |[a]=>og (ZX G=true) (Zb9 G sc f a r)
    |[a,b]=>Zca G sc f a b r
    |_=>none
   |some (.cls i ms _)=>match as with
    |[]=>(ms.lookup ("__init__":Str)).bind fun p=>og (p.2=1) (some (.isc [i,p.1] .aN))
    |_=>none
   |_=>none) else none
noncomputable def ZgB(G:Gs)(ob:Expr)(m:Str)(ap:Pos)(as:Li Expr)(cp:Pos)(cs:Ot CE)(r:Expr->Ot CE):Ot CE:=match ob with
 |.Constant _ _ _=>(match as with
  |[a]=>og (m = "join"/\(ap.endLine==cp.line)=true) (o2 .joinE (r ob) (r a))
  |_=>none)
 |.Name _ _=>og ((ap.endLine==cp.line)=true/\as.length < 20) (if m = "split" then og (as.length=1) (o2 .tix (r ob) cs) else if m = "startswith" then og (as.length=1) (o2 .starts (r ob) cs) else o2 (.meth (YL m as.length G)) (r ob) cs)
 |_=>none
noncomputable def Zjg(G:Gs)(sc:Scope)(f:Expr)(as:Li Expr)(cp:Pos)(cs:Ot CE)(r:Expr->Ot CE):Ot CE:=match f with
 |.Name f _=>Zcg G sc f as cs r
 |.Attribute ob m ap=>ZgB G ob m ap as cp cs r
 |_=>none
noncomputable def ZjE:Expr->Bool
 |.Slice ..=>true
 |_=>false
noncomputable def fldNames:Li Str:=["takes", "names", "rows", "aims"]
noncomputable def ZhM(o:Expr)(f:Str)(c:Ot CE):Ot CE:=match o with
 |.Name _ _=>if f = "line" then c.map (.isc [0]) else og (fldNames.contains f=true) (c.map (.dict [f]))
 |_=>none
noncomputable def ZkJ(keys:Li (Ot Expr))(vals:Li Expr):Ot CE:=match keys with
 |[]=>og (vals.length=0) (some .dnew)
 |_=>none
noncomputable def XR(G:Gs)(sc:Scope)(e:Expr):Ot (Li Expr):=(fnA G sc "range" e).bind fun as=>og (as.length=2\/as.length=3) (some as)
noncomputable def Wy(G:Gs)(sc:Scope)(e:Expr):Ot (Li Expr):=(fnA G sc "zip" e).bind fun as=>og (as.length=2) (some as)
noncomputable def nmE:Expr->Ot Str
 |.Name x _=>some x
 |_=>none
variable{e:Expr}
theorem X8{x:Str}(h:nmE e=some x):∃ p,e=.Name x p:=by
 unfold nmE at h;split at h
 ·cases h;exact⟨_,rfl⟩
 ·exact Zb h
noncomputable def ZeG:Stmt->Ot (Li Expr×Expr)
 |.Assign t e _=>some (t,e)
 |_=>none
variable{s:Stmt}
theorem Zab{t:Li Expr}(h:ZeG s=some (t,e)):∃ q,s=.Assign t e q:=by
 unfold ZeG at h;split at h
 ·cases h;exact⟨_,rfl⟩
 ·exact Zb h
noncomputable def ZhK:Stmt->Ot Expr
 |.Expr e _=>some e
 |_=>none
theorem Ze3(h:ZhK s=some e):∃ q,s=.Expr e q:=by
 unfold ZhK at h;split at h
 ·cases h;exact⟨_,rfl⟩
 ·exact Zb h
noncomputable def ZeQ:Expr->Ot (Expr×Li Expr×Li Keyword)
 |.Call f as ks _=>some (f,as,ks)
 |_=>none
variable{as:Li Expr}
theorem Zad{f:Expr}{ks:Li Keyword}(h:ZeQ e=some (f,as,ks)):∃ q,e=.Call f as ks q:=by
 unfold ZeQ at h;split at h
 ·cases h;exact⟨_,rfl⟩
 ·exact Zb h
noncomputable def UW{α:Type}:Li α->Ot α
 |[a]=>some a
 |_=>none
theorem Xc{l:Li α}{a:α}(h:UW l=some a):l=[a]:=by
 unfold UW at h;split at h
 ·cases h;rfl
 ·exact Zb h
noncomputable def ZhV:Expr->Ot Const
 |.Constant c _ _=>some c
 |_=>none
theorem Zfo{c:Const}(h:ZhV e=some c):∃ k p,e=.Constant c k p:=by
 unfold ZhV at h;split at h
 ·cases h;exact⟨_,_,rfl⟩
 ·exact Zb h
noncomputable def ZeR(e:Expr):Ot (Str×Li Expr):=(ZeQ e).bind fun q=>if q.2.2.isEmpty=true then (nmE q.1).map fun f=>(f,q.2.1) else none
theorem UD{f:Str}(h:ZeR e=some (f,as)):∃ p q,e=.Call (.Name f p) as [] q:=by
 obtain⟨⟨g,bs,ks⟩,h1,h⟩:=aO.mp h;dsimp only at h;split at h
 ·rename_i hk
  obtain⟨x,h2,h3⟩:=cZ.mp h;cases h3;obtain⟨p,rfl⟩:=X8 h2;obtain⟨q,rfl⟩:=Zad h1;cases ks with
  |nil=>exact⟨p,q,rfl⟩
  |cons _ _=>cases hk
 ·exact Zb h
noncomputable def ZgN:Const->Bool
 |.int i=>decide (i=1)
 |_=>false
noncomputable def Wi(G:Gs)(sc:Scope)(e:Expr):Ot Expr:=(ZeQ e).bind fun q=>(nmE q.1).bind fun f=>(UW q.2.1).bind fun x=>(UW q.2.2).bind fun k=>(ZhV k.value).bind fun c=>og ((ZgN c=true/\k.arg=some ("start":Str))/\f = "enumerate"/\Zq sc f=true/\Ud G f=true) (some x)
noncomputable def nmL:Li Expr->Ot (Li Str)
 |[a,b]=>o2 (fun x y=>[x,y]) (nmE a) (nmE b)
 |_=>none
noncomputable def tgN:Expr->Ot (Li Str)
 |.Name x _=>some [x]
 |.Tuple es _ _=>nmL es
 |_=>none
noncomputable def mkC(r:Ot (Ot Bool))(fr:Li Nat)(ci ce cc:CE):CE:=match r with
 |some (some b)=>.comp b fr ci ce cc
 |some none=>.comp2 fr ci ce cc
 |none=>.compT fr ci ce cc
noncomputable def XD(N:Li Str):Li Str->Ot (Li Nat)
 |[]=>some []
 |x :: r=>match N.idxOf? x,XD N r with
  |some i,some is=>some (i :: is)
  |_,_=>none

noncomputable def Zdq(G:Gs)(sc:Scope)(N:Li Str)(x:Str):Ot CE:=
 if Xz sc x then (N.idxOf? x).map .var else if Zq sc x then (match G.lookup x with
  |some (.cst d)=>some (.cst d)
  |_=>none) else none
noncomputable def WX(G:Gs)(sc:Scope):Expr->Ot (Li Str×Li D)
 |.Name x _=>if Zq sc x then (match G.lookup x with
  |some (.dct ks ds)=>some (ks,ds)
  |_=>none) else none
 |_=>none
noncomputable def Vi:Expr->Ot (Ot Expr×Ot Expr)
 |.Slice lo hi none _=>some (lo,hi)
 |_=>none
noncomputable def Zg3(_:Expr):Ot Expr:=none
noncomputable def Jt:CE->Bool
 |.ix (.var _) (.cst (.int _))=>true
 |.var _=>true
 |.len (.var _)=>true
 |_=>false
noncomputable def ZkN:CE->Bool
 |.neg (.cst (.int 1))=>true
 |_=>false
noncomputable def Vy(sc:Scope)(x:Str):Bool:=match sc.names.lookup x with
 |some .cell=>true
 |some .free=>true
 |_=>false
noncomputable def Xq(sc sc2:Scope)(xs:Li Str):Bool:=
 decide (sc2.kind=.function)&&(sc2.names.all fun p=>decide (p.2≠.cell))&&(xs.all fun x=>decide (sc2.names.lookup x=some .local))&&(sc2.names.all fun p=>!decide (p.2=.local)||decide (sc2.names.lookup p.1=some .local)) &&
 decide (xs++ZL sc2).Nodup&&(ZL sc2).all (fun y=>Vy sc y&&decide (sc2.names.lookup y=some .free))
noncomputable def ZhS:CmpOp->Ot Bool
 |.In=>some false
 |.NotIn=>some true
 |_=>none
noncomputable def unC(op:UnaryOp)(a:Ot CE):Ot CE:=match op with
 |.Not=>a.map .not
 |.USub=>a.map .neg
 |_=>none
noncomputable def Zji(G:Gs)(sc:Scope)(f:Expr->Ot CE)(a:Ot CE):Li CmpOp->Li Expr->Ot CE
 |[op],[b]=>(match WX G sc b with
  |some (ks,_)=>o2 (fun _ x=>.cmp op x (.cst (.kt ks))) (ZhS op) a
  |none=>o2 (.cmp op) a (f b))
 |[op,op2],[b,b2]=>(o3 (fun x y z=>og (Jt y=true) (some (.and (.cmp op x y) (.cmp op2 y z)))) a (f b) (f b2)).join
 |_,_=>none
noncomputable def ZgD(f:Expr->Ot CE)(op:BoolOp)(pos:Pos):Li Expr->Ot CE
 |[]=>none
 |[a]=>f a
 |a :: b :: r=>match op with
  |.And=>o2 .and (f a) (f (.BoolOp .And (b :: r) pos))
  |.Or=>o2 .or (f a) (f (.BoolOp .Or (b :: r) pos))
noncomputable def ZiT(G:Gs)(sc:Scope)(f:Expr->Ot CE)(fo:Ot Expr->Ot CE)(a b:Expr):Ot CE:=match Vi b with
 |some (lo,hi)=>o3 .slice (f a) (fo lo) (fo hi)
 |none=>match Zg3 b with
  |some s=>(o2 (fun x y=>og (ZkN y=true) (some (.rs false x))) (f a) (f s)).join
  |none=>match WX G sc a with
   |some (ks,ds)=>(f b).map (.look ks ds)
   |none=>o2 .ix (f a) (f b)
noncomputable def itC(G:Gs)(sc:Scope)(it:Expr)(f:Expr->Ot CE):Li Str->Ot (Ot (Ot Bool)×CE)
 |[_]=>(match YA G sc it with
  |some a=>(f a).map fun c=>(some (some true),c)
  |none=>match (fnA G sc "range" it).bind Zej with
   |some p=>o2 (fun x y=>(some (some false),.rng2 x y)) (f p.1) (f p.2)
   |none=>(f it).map fun c=>(some (some false),c))
 |_=>(match (fnA G sc "zip" it).bind Zej with
  |some p=>o2 (fun x y=>(some none,.aC x (.aC y .aN))) (f p.1) (f p.2)
  |none=>(f it).map fun c=>(none,c))
noncomputable def ifC(f:Expr->Ot CE):Li Expr->Ot CE
 |[]=>some (CE.cst (.bl true))
 |[c]=>f c
 |_=>none
noncomputable def Zah(G:Gs)(sc sc2:Scope)(N:Li Str)(f:Expr->Ot CE)(g:Li Str->Expr->Ot CE)(elt:Expr):Li Comprehension->Ot CE
 |[⟨tg,it,ifs,0⟩]=>(match tgN tg with
  |none=>none
  |some xs=>og (Xq sc sc2 xs=true) (o3 (fun fr p (q:CE×CE)=>mkC p.1 fr p.2 q.1 q.2) (XD N (ZL sc2)) (itC G sc it f xs) (o2 Prod.mk (g (xs++ZL sc2) elt) (ifC (g (xs++ZL sc2)) ifs))))
 |_=>none
mutual
noncomputable def cE(G:Gs):Nat->Scope->Li Str->Expr->Ot CE
 |0,_,_,_=>none
 |n+1,sc,N,e=>match e with
  |.Constant c _ _=>CE.ofConst c
  |.Name x _=>Zdq G sc N x
  |.BinOp a op b _=>o2 (.bin op) (cE G n sc N a) (cE G n sc N b)
  |.UnaryOp op a _=>unC op (cE G n sc N a)
  |.Compare a ops bs _=>Zji G sc (cE G n sc N) (cE G n sc N a) ops bs
  |.BoolOp op vs pos=>ZgD (cE G n sc N) op pos vs
  |.IfExp c a b _=>o3 .ife (cE G n sc N c) (cE G n sc N a) (cE G n sc N b)
  |.Tuple es _ _=>(cEs G n sc N es).map .tupE
  |.List es _=>(cEs G n sc N es).map .lstE
  |.Dict keys vals _=>ZkJ keys vals
  |.Attribute o f _=>ZhM o f (cE G n sc N o)
  |.Subscript a b _=>ZiT G sc (cE G n sc N) (cO G n sc N) a b
  |.Call f as [] cp=>Zjg G sc f as cp (cEs G n sc N as) (cE G n sc N)
  |.ListComp elt gens sc2 _=>og (ZX G=true) (Zah G sc sc2 N (cE G n sc N) (cE G n sc2) elt gens)
  |_=>none
noncomputable def cEs(G:Gs):Nat->Scope->Li Str->Li Expr->Ot CE
 |0,_,_,_=>none
 |_+1,_,_,[]=>some .aN
 |n+1,sc,N,e :: es=>o2 .aC (cE G n sc N e) (cEs G n sc N es)
noncomputable def cO(G:Gs):Nat->Scope->Li Str->Ot Expr->Ot CE
 |0,_,_,_=>none
 |_+1,_,_,none=>some .nop
 |n+1,sc,N,some e=>(cE G n sc N e).map .part
end

noncomputable def Yy:Expr->Bool
 |.ListComp ..=>true
 |.SetComp ..=>true
 |.DictComp ..=>true
 |_=>false
noncomputable def QC:Expr->Bool
 |.Tuple ..=>true
 |_=>false
noncomputable def Zjc(G:Gs)(N:Li Str)(tg e:Expr)(c:Ot CE):Ot CS:=match tg with
 |.Name x _=>o2 .set (N.idxOf? x) c
 |.Tuple [.Name x _,.Name y _] _ _=>og ((Yy e||QC e)=false/\ZX G=true) (o3 (fun i j c=>og (i≠j) (some (.set2 i j c))) (N.idxOf? x) (N.idxOf? y) c).join
 |.Tuple [.Name x _,.Name y _,.Name z _] _ _=>og ((Yy e||QC e)=false/\ZX G=true) (o3 (fun i j (p:Nat×CE)=>.set3 i j p.1 p.2) (N.idxOf? x) (N.idxOf? y) (o2 Prod.mk (N.idxOf? z) c))
 |_=>none



noncomputable def ZhO(G:Gs)(sc:Scope)(N:Li Str)(f:Expr->Ot CE)(fs:Li Expr->Ot CE)(tg it:Expr)(b:Ot CS):Ot CS:=match tg with
 |.Name x _=>(match XR G sc it with
  |some as=>o3 .for3 (N.idxOf? x) (fs as) b
  |none=>match YA G sc it with
   |some a=>o3 (fun i c b=>.for1 i true c b) (N.idxOf? x) (f a) b
   |none=>o3 (fun i c b=>.for1 i false c b) (N.idxOf? x) (f it) b)
 |.Tuple [.Name x _,.Name y _] _ _=>(o2 (fun i j=>og (i≠j) (some (i,j))) (N.idxOf? x) (N.idxOf? y)).join.bind fun p=>(match Wy G sc it with
  |some as=>o2 (.forP p.1 p.2) (fs as) b
  |none=>match Wi G sc it with
   |some e=>o2 (.forE p.1 p.2) (f e) b
   |none=>o2 (.for2 p.1 p.2) (f it) b)
 |.Tuple [.Name x _,.Name y _,.Name z _] _ _=>o3 (fun(p:Nat×Nat) (q:Nat×CE) b=>.for4 p.1 p.2 q.1 q.2 b) (o2 Prod.mk (N.idxOf? x) (N.idxOf? y)) (o2 Prod.mk (N.idxOf? z) (f it)) b
 |_=>none
noncomputable def Zho(sc:Scope)(N:Li Str)(x m:Str)(ap cp:Pos)(c:Ot CE):Ot CS:=og (Xz sc x=true/\(ap.endLine==cp.line)=true) (if m = "append" then o2 .app (N.idxOf? x) c else none)
noncomputable def V3(G:Gs)(sc:Scope)(fs:Li Expr->Ot CE)(g:Str)(as:Li Expr):Ot CE:=match G.lookup g with
 |some (.fn i ps ds)=>og (Zq sc g=true/\as.length<=ps/\ps<=as.length+ds.length) ((fs as).map fun c=>.call i c (ds.drop (as.length+ds.length - ps)))
 |_=>none
noncomputable def Zja(G:Gs)(sc:Scope)(N:Li Str)(f:Expr->Ot CE)(fs:Li Expr->Ot CE):Expr->Ot CS
 |.Call (.Name g _) as [] _=>(V3 G sc fs g as).map .act
 |.Call (.Attribute (.Name x p) m ap) as kw cp=>if m = "append" then (match as,kw with
  |[e],[]=>Zho sc N x m ap cp (f e)
  |_,_=>none) else og (kw.isEmpty=true/\(ap.endLine==cp.line)=true/\as.length < 20) (o2 (fun o c=>.act (.meth (YL m as.length G) o c)) (f (.Name x p)) (fs as))
 |.Call (.Attribute (.Attribute o k p) m ap) [e] [] cp=>og (m = "append"/\(ap.endLine==cp.line)=true) (o2 .app2 (f (.Attribute o k p)) (f e))
 |_=>none
noncomputable def JO(G:Gs)(sc:Scope)(f:Expr->Ot CE)(e c:Ot Expr):Ot CS:=match e.bind ZeR with
 |some (x,[a])=>(match G.lookup x with
  |some (.exc i _)=>if Zq sc x=true/\exNums.contains i=true/\ZX G=true/\c.isNone=true then (f a).map (CS.ext i) else some .stop
  |_=>some .stop)
 |_=>some .stop
noncomputable def Zko:ExceptHandler->Ot (Str×Str×Str×Str×Str)
 |.ExceptHandler t y b _=>(t.bind nmE).bind fun x=>y.bind fun y=>(UW b).bind fun s=>(ZeG s).bind fun p=>(UW p.1).bind fun z=>(nmE z).bind fun z=>(ZeR p.2).bind fun q=>(UW q.2).bind fun a=>(nmE a).map fun a=>(x,y,z,q.1,a)
theorem Zgu{h:ExceptHandler}{x y z f a:Str}(e:Zko h=some (x,y,z,f,a)):∃ p1 p2 p3 p4 p5 p6 p7,h=.ExceptHandler (some (.Name x p1)) (some y) [.Assign [.Name z p2] (.Call (.Name f p3) [.Name a p4] [] p5) p6] p7:=by
 cases h with
 |ExceptHandler t0 y0 b p7=>
  obtain⟨x0,e1,e⟩:=aO.mp e;obtain⟨t,et,e1⟩:=aO.mp e1;obtain⟨y1,ey,e⟩:=aO.mp e;obtain⟨s,e2,e⟩:=aO.mp e;obtain⟨⟨ts,v⟩,e3,e⟩:=aO.mp e;obtain⟨z0,e4,e⟩:=aO.mp e;obtain⟨z1,e5,e⟩:=aO.mp e;obtain⟨⟨f0,as⟩,e6,e⟩:=aO.mp e
  obtain⟨a0,e7,e⟩:=aO.mp e;obtain⟨a1,e8,e⟩:=cZ.mp e
  injection e with e9 e
  injection e with e10 e
  injection e with e11 e
  injection e with e12 e13
  obtain⟨p1,q1⟩:=X8 e1;obtain⟨p6,q3⟩:=Zab e3;obtain⟨p2,q5⟩:=X8 e5;obtain⟨p3,p5,q6⟩:=UD e6;obtain⟨p4,q8⟩:=X8 e8;exact⟨p1,p2,p3,p4,p5,p6,p7,by rw[et,q1,ey,Xc e2,q3,show ts=_ from Xc e4,q5,show v=_ from q6,show as=_ from Xc e7,q8,e9,e10,e11,show f0=_ from e12,e13]⟩
noncomputable def Zkn(G:Gs)(sc:Scope)(N:Li Str)(c:Ot CE)(h:ExceptHandler):Ot CS:=(Zko h).bind fun q=>match G.lookup q.1 with
 |some (.exc _ l)=>(match G.lookup q.2.2.2.1 with
  |some (.fnq j)=>og ((Zq sc q.1=true/\Zq sc q.2.2.2.1=true)/\(sc.names.lookup q.2.1=some .local/\q.2.2.2.2=q.2.1/\Xz sc q.2.1=true)) (o3 (fun n m c=>.whl (.compT l (.var n) c .nop) (.set m (.call j (.aC (.var n) .aN) []))) (N.idxOf? q.2.1) (N.idxOf? q.2.2.1) c)
  |_=>none)
 |_=>none
noncomputable def Zkm(G:Gs)(sc:Scope)(N:Li Str)(f:Expr->Ot CE)(fs:Li Expr->Ot CE)(b:Li Stmt)(h:ExceptHandler)(hs:Li ExceptHandler):Ot CS:=(UW b).bind fun s=>match ZeG s with
 |some p=>(UW p.1).bind fun x=>(nmE x).bind fun x=>o2 .set (N.idxOf? x) (f p.2)
 |none=>(ZhK s).bind fun e=>(ZeR e).bind fun q=>if hs.isEmpty=true/\q.2.isEmpty=false then Zkn G sc N (V3 G sc fs q.1 q.2) h else none
mutual
noncomputable def cS(G:Gs):Nat->Scope->Li Str->Stmt->Ot CS
 |0,_,_,_=>none
 |n+1,sc,N,s=>match s with
  |.Assign [.Subscript o k _] e _=>og (Yy e=false/\ZjE k=false) (o3 (.dput 0) (cE G n sc N o) (cE G n sc N k) (cE G n sc N e))
  |.Assign [.Attribute (.Name x _) k _] e _=>og (Yy e=false/\Xz sc x=true/\fldNames.contains k=true) (o2 (fun i c=>.put i (.cst (.str k)) c) (N.idxOf? x) (cE G n sc N e))
  |.Try b (h :: hs) [] [] _=>Zkm G sc N (cE G n sc N) (cEs G n sc N) b h hs
  |.Assign [tg] e _=>Zjc G N tg e (cE G n sc N e)
  |.Expr e _=>Zja G sc N (cE G n sc N) (cEs G n sc N) e
  |.Return (some e) _=>(cE G n sc N e).map .ret
  |.If c a b _=>o3 .ite (cE G n sc N c) (cSs G n sc N a) (cSs G n sc N b)
  |.For tg it b [] _=>og (ZX G=true) (ZhO G sc N (cE G n sc N) (cEs G n sc N) tg it (cSs G n sc N b))
  |.Pass _=>some .skip
  |.Break _=>some .brk
  |.Continue _=>some .cont
  |.Raise a b _=>JO G sc (cE G n sc N) a b
  |_=>none
noncomputable def cSs(G:Gs):Nat->Scope->Li Str->Li Stmt->Ot CS
 |0,_,_,_=>none
 |_+1,_,_,[]=>some .skip
 |n+1,sc,N,s :: r=>o2 .seq (cS G n sc N s) (cSs G n sc N r)
end
theorem Ut{c:Nat}:∀ {p:Li Nat},c∉p->XW c p=[p]
 |[],_=>rfl
 |x :: p,h=>by
  have hx:¬x=c:=fun z=>h (by rw[z];exact Ls)
  have ih:=Ut (fun z=>h (Lm _ z):c∉p)
  unfold XW;rw[if_neg hx,ih]
theorem Q0{c:Nat}{q:Li Nat}:∀ {p:Li Nat},c∉p->XW c (p++c :: q)=p :: XW c q
 |[],_=>by
  show XW c (c :: q)=_
  conv=>lhs;unfold XW
  rw[if_pos rfl]
 |x :: p,h=>by
  have hx:¬x=c:=fun z=>h (by rw[z];exact Ls)
  have ih:=Q0 (q:=q) (fun z=>h (Lm _ z):c∉p)
  show XW c (x :: (p++c :: q))=_
  conv=>lhs;unfold XW
  rw[if_neg hx,ih]
theorem VT{c:Nat}:∀ {xs:Li Str},xs≠[]->(∀ p∈xs,c∉p.cps.toList)->XW c (Xv ⟨#[c]⟩ xs)=xs.map fun p=>p.cps.toList
 |[],h,_=>absurd rfl h
 |[x],_,h=>by
  show XW c (x.cps.toList++[])=_;rw[bU,Ut (h x Ls)];rfl
 |x :: y :: r,_,h=>by
  have ih:=VT (c:=c) (xs:=y :: r) (dI _ _) (fun p hp=>h p (Lm _ hp))
  show XW c (x.cps.toList++c :: Xv ⟨#[c]⟩ (y :: r))=_;rw[Q0 (h x Ls),ih];rfl
mutual
theorem WD:∀ {n:Nat}{x:D},okD n x=true->Vm x x=true
 |_,.non,_=>rfl
 |_,.bl a,_=>beq_self_eq_true a
 |_,.int a,_=>aW rfl
 |_,.str a,_=>aW rfl
 |0,.tup a,h=>nomatch (show false=true from h)
 |n+1,.tup a,h=>Vn (n:=n) (x:=a) h
 |n,.lst a,h=>by cases n<;>cases h
 |n,.dct a b,h=>by cases n<;>cases h
 |n,.obj a,h=>by cases n<;>cases h
 |n,.kt a,h=>by cases n<;>cases h
 |n,.dic a,h=>by cases n<;>cases h
theorem Vn:∀ {n:Nat}{x:Li D},XB n x=true->YW x x=true
 |_,[],_=>rfl
 |n,a :: x,h=>by
  have h:(okD n a&&XB n x)=true:=h;rw[Ba]at h;show(Vm a a&&YW x x)=true;rw[WD h.1,Vn h.2];rfl
end
end Dp


namespace Dp
open PySem PySem.Spec PyProof.Rows L2
class ClsTab where
 ca:Nat->Addr
variable [ClsTab]

variable{X:Cx}{e:Expr}
theorem Zl{t t':TE}(h:PE X e t)(i:∀ σ H Q,t' σ H Q->t σ H Q):PE X e t':=fun pQ s σ H Q I q=>h pQ s σ H Q I (i σ H Q q)
theorem Wa{t t':TT}(h:PT X e t)(i:∀ σ H Q,t' σ H Q->t σ H Q):PT X e t':=fun pQ s σ H Q I q=>h pQ s σ H Q I (i σ H Q q)
theorem VG{e:Li Expr}{t t':TA}(h:PA X e t)(i:∀ σ H Q,t' σ H Q->t σ H Q):PA X e t':=fun pos pQ s σ H Q I q=>h pos pQ s σ H Q I (i σ H Q q)
theorem ZdM{e:Ot Expr}{t t':TO}(h:PO X e t)(i:∀ σ H Q,t' σ H Q->t σ H Q):PO X e t':=fun pQ s σ H Q I q=>h pQ s σ H Q I (i σ H Q q)
theorem ZF{e:Stmt}{t t':TS}(h:PS X e t)(i:∀ D σ H,t' D σ H->t D σ H):PS X e t':=fun pQ s σ H D I q=>h pQ s σ H D I (i D σ H q)
theorem ZaN{e:Li Stmt}{t t':TS}(h:PSs X e t)(i:∀ D σ H,t' D σ H->t D σ H):PSs X e t':=fun pQ s σ H D I q=>h pQ s σ H D I (i D σ H q)

def KT(K:Fg)(a:Ad)(xs:Li V):Prop:=
 ∃ (o:Obj) (its:Array vL) (n:Nat),K.lookup a=some o/\o.cls=.type "tuple"/\o.data=.seq its n/\its.size<=sizeLine/\Vals xs its.toList
def TupAt(K:Fg)(H:Hp)(a:Ad)(xs:Li V):Prop:=H a=some (.tup xs)\/KT K a xs
variable{K:Fg}{H:Hp}{xs:Li V}
theorem TupAt.sq{a:Ad}(h:TupAt K H a xs):SqT K H a xs:=by
 rcases h with h|h
 ·exact .inl (.inl h)
 ·exact .inr h
noncomputable def isM:HO->Bool
 |.dK _=>true
 |.ins _ _ _=>true
 |_=>false
def Yg(H:Hp)(a:Ad):Prop:=∃ o,H a=some o/\isM o=true
def LA(ad:Li Ad)(H:Hp)(i:Nat)(a:Ad):Prop:=ad[i]?=some a/\¬Yg H a
variable{o:HO}
theorem UU{a:Ad}(h:H a=some o)(n:isM o=false):¬Yg H a:=fun⟨o',z,m⟩=>by rw[h]at z;cases z;rw[n]at m;cases m
structure XG(K:Fg)(C:Addr):Prop where
 g:XGet K C
 na:PySem.W.findIn K (.ref C) "line"=some none
 kv:PySem.W.kitOne K (.ref C) (.type "ValueError")=some true
noncomputable def isF:HO->Bool
 |.tup _=>true
 |.ext _=>true
 |.xd _=>true
 |_=>false
mutual
inductive Den(K:Fg)(ad:List Addr)(H:Hp):V->D->Prop where
 |non:Den K ad H .non .non
 |bl (b:Bool):Den K ad H (.bl b) (.bl b)
 |int (i:Int):Den K ad H (.int i) (.int i)
 |str (x:Str):Den K ad H (.str x) (.str x)
 |tup {a:Addr}{xs:List V}{ds:List D} (h:TupAt K H a xs) (r:Dens K ad H xs ds):Den K ad H (.ref a) (.tup ds)
 |lst {a:Addr}{i:Nat} (h:LA ad H i a):Den K ad H (.ref a) (.lst i)
 |dic {a:Addr}{i:Nat} (h:ad[i]?=some a) (n:Yg H a):Den K ad H (.ref a) (.dic i)
 |obj {a dx:Addr}{i:Nat} (g:XG K (ClsTab.ca (i % 1000))/\i % 1000∈exNums) (h:H a=some (.ext (fX (ClsTab.ca (i % 1000)) a dx))) (h2:H dx=some (.xd [("line",.int ((i / 1000:Nat):Int))])):Den K ad H (.ref a) (.obj i)
 |kt {a:Addr}{ks:List Str}{o:Obj}{its:Array Value}{n:Nat} (l:K.lookup a=some o) (c:o.cls=.type "tuple") (g:o.dict=none) (e:o.data=.seq its n) (z:its.size<=sizeLine) (r:Vals (ks.map V.str) its.toList):Den K ad H (.ref a) (.kt ks)
inductive Dens(K:Fg)(ad:List Addr)(H:Hp):List V->List D->Prop where
 |nil:Dens K ad H [] []
 |cons {v:V}{d:D}{vs:List V}{ds:List D} (h:Den K ad H v d) (r:Dens K ad H vs ds):Dens K ad H (v :: vs) (d :: ds)
end

structure Ext(ad:List Addr)(H:Hp)(ad':List Addr)(H':Hp):Prop where
 pre:∀ (i:Nat) (a:Addr),ad[i]?=some a->ad'[i]?=some a
 tup:∀ b u,isF u=true->H b=some u->H' b=some u
 keep:∀ b o,H b=some o->b∉ad->H' b=some o
 new:∀ b,b∈ad'->b∈ad\/H b=none
 kd:∀ (i:Nat) (a:Addr),ad[i]?=some a->(Yg H a↔Yg H' a)
theorem Ext.refl(ad:Li Ad)(H:Hp):Ext ad H ad H:=⟨fun _ _ h=>h,fun _ _ _ h=>h,fun _ _ h _=>h,fun _ h=>.inl h,fun _ _ _=>Iff.rfl⟩
theorem Ext.trans{a1 a2 a3:Li Ad}{H1 H2 H3:Hp}(x:Ext a1 H1 a2 H2)(y:Ext a2 H2 a3 H3):Ext a1 H1 a3 H3:=by
 refine⟨fun i a h=>y.pre i a (x.pre i a h),fun b u m h=>y.tup b u m (x.tup b u m h),fun b o h n=>?_,fun b h=>?_,fun i a h=>(x.kd i a h).trans (y.kd i a (x.pre i a h))⟩
 ·refine y.keep b o (x.keep b o h n) fun z=>?_
  rcases x.new b z with z|z
  ·exact n z
  ·rw[h]at z;cases z
 ·rcases y.new b h with z|z
  ·exact x.new b z
  ·cases e:H1 b with
   |none=>exact .inr rfl
   |some o=>
    by_cases q:b∈a1
    ·exact .inl q
    ·rw[x.keep b o e q]at z;cases z

variable{ad ad':Li Ad}{H':Hp}
theorem TupAt.mono{a:Ad}(x:Ext ad H ad' H')(h:TupAt K H a xs):TupAt K H' a xs:=h.imp (x.tup _ _ rfl) id
theorem TupAt.upd{K:Fg}{H:Hp}{a p:Ad}{xs:Li V}{o o':HO}(hp:H p=some o)(ho:∀ xs,o≠.tup xs)(h:TupAt K H a xs):TupAt K (upd H p o') a xs:=by
 rcases h with h|h
 ·refine .inl ?_
  have n:a≠p:=fun z=>by subst z;rw[h]at hp;cases hp;exact ho _ rfl
  rw[upd_ne n];exact h
 ·exact .inr h
variable{v:V}{d:D}{vs ys:Li V}{ds es:Li D}{x:Str}{i j:Nat}{kvs kvs':Li (Str×V)}{st:Za}{p:Ad}{α:Type}{o':HO}{σ:L2.St}{ρ:Env}
section
variable {K:Fg}{ad ad':Li Ad}{H H':Hp}
structure Keeps(K:Fg)(ad ad':List Addr)(H H':Hp):Prop where
 t:∀ {a xs},TupAt K H a xs->TupAt K H' a xs
 l:∀ {i:Nat}{a:Addr},ad[i]?=some a->ad'[i]?=some a/\(Yg H a↔Yg H' a)
 o:∀ {a u},isF u=true->H a=some u->H' a=some u
theorem Den.map(x:Keeps K ad ad' H H')(h:Den K ad H v d):Den K ad' H' v d:=
 Den.rec (motive_1:=fun v d _=>Den K ad' H' v d) (motive_2:=fun vs ds _=>Dens K ad' H' vs ds) .non .bl .int .str (fun h _ r=>.tup (x.t h) r) (fun h=>.lst ⟨(x.l h.1).1,fun z=>h.2 ((x.l h.1).2.mpr z)⟩) (fun h n=>.dic (x.l h).1 ((x.l h).2.mp n)) (fun g h h2=>.obj g (x.o rfl h) (x.o rfl h2)) .kt .nil (fun _ _ a b=>.cons a b) h
theorem Dens.map(x:Keeps K ad ad' H H')(h:Dens K ad H vs ds):Dens K ad' H' vs ds:=
 Dens.rec (motive_1:=fun _ _ _=>True) (motive_2:=fun vs ds _=>Dens K ad' H' vs ds) trivial (fun _=>trivial) (fun _=>trivial) (fun _=>trivial) (fun _ _ _=>trivial) (fun _=>trivial) (fun _ _=>trivial) (fun _ _ _=>trivial) (fun _ _ _ _ _ _=>trivial) .nil (fun a _ _ b=>.cons (a.map x) b) h
theorem Ext.keeps(x:Ext ad H ad' H'):Keeps K ad ad' H H':=⟨fun h=>h.mono x,fun h=>⟨x.pre _ _ h,x.kd _ _ h⟩,fun m h=>x.tup _ _ m h⟩
theorem Den.mono(x:Ext ad H ad' H')(h:Den K ad H v d):Den K ad' H' v d:=h.map x.keeps
theorem Dens.mono(x:Ext ad H ad' H')(h:Dens K ad H vs ds):Dens K ad' H' vs ds:=h.map x.keeps
theorem Zh0(x:∀ (i:Nat) (a:Ad),ad[i]?=some a->ad'[i]?=some a)(y:∀ b,b∈ad'->b∈ad\/∃ xs,H b=some (.lst xs)):Keeps K ad ad' H H:=⟨id,fun h=>⟨x _ _ h,Iff.rfl⟩,fun _ h=>h⟩
theorem Dens.length:∀ {vs:Li V}{ds:Li D},Dens K ad H vs ds->vs.length=ds.length
 |_,_,.nil=>rfl
 |_,_,.cons _ r=>congrArg (·+1) (Dens.length r)
theorem Dens.get:∀ {vs:Li V}{ds:Li D}{i:Nat}{d:D},Dens K ad H vs ds->ds[i]?=some d->∃ v,vs[i]?=some v/\Den K ad H v d
 |_,_,_,_,.nil,e=>by simp at e
 |_,_,0,_,.cons h _,e=>by simp at e;subst e;exact⟨_,rfl,h⟩
 |_,_,i+1,d,.cons _ r,e=>by
  obtain⟨v,h1,h2⟩:=Dens.get (i:=i) (d:=d) r (by simpa using e)
  exact⟨v,by simpa using h1,h2⟩
theorem Dens.append:∀ {vs ws:Li V}{ds es:Li D},Dens K ad H vs ds->Dens K ad H ws es->Dens K ad H (vs++ws) (ds++es)
 |_,_,_,_,.nil,s=>s
 |_,_,_,_,.cons h r,s=>.cons h (Dens.append r s)
theorem Dens.take:∀ {vs:Li V}{ds:Li D} (n:Nat),Dens K ad H vs ds->Dens K ad H (vs.take n) (ds.take n)
 |_,_,0,_=>.nil
 |_,_,_+1,.nil=>.nil
 |_,_,n+1,.cons h r=>.cons h (Dens.take n r)
theorem Dens.drop:∀ {vs:Li V}{ds:Li D} (n:Nat),Dens K ad H vs ds->Dens K ad H (vs.drop n) (ds.drop n)
 |_,_,0,r=>r
 |_,_,_+1,.nil=>.nil
 |_,_,n+1,.cons _ r=>Dens.drop n r
theorem Dens.rep(h:Den K ad H v d):∀ n:Nat,Dens K ad H (List.replicate n v) (List.replicate n d)
 |0=>.nil
 |n+1=>.cons h (Dens.rep h n)
theorem Den.ofInt{i:Int}(h:Den K ad H v (.int i)):v=.int i:=by cases h;rfl
theorem Den.ofStr(h:Den K ad H v (.str x)):v=.str x:=by cases h;rfl
theorem Den.ofBl{b:Bool}(h:Den K ad H v (.bl b)):v=.bl b:=by cases h;rfl
theorem Den.ofNon(h:Den K ad H v .non):v=.non:=by cases h;rfl
theorem Den.ofTup(h:Den K ad H v (.tup ds)):∃ a xs,v=.ref a/\TupAt K H a xs/\Dens K ad H xs ds:=by
 cases h with
 |tup h r=>exact⟨_,_,rfl,h,r⟩
theorem Den.ofLst(h:Den K ad H v (.lst i)):∃ a,v=.ref a/\LA ad H i a:=by
 cases h with
 |lst h=>exact⟨_,rfl,h⟩
theorem Den.ofDic(h:Den K ad H v (.dic i)):∃ a,v=.ref a/\ad[i]?=some a/\Yg H a:=by
 cases h with
 |dic h n=>exact⟨_,rfl,h,n⟩
theorem Den.newL{a:Ad}(h:ad[i]?=some a):Den K ad (upd H a (.lst xs)) (.ref a) (.lst i):=.lst ⟨h,UU upd_same rfl⟩
theorem LA.mono{a:Ad}(x:Ext ad H ad' H')(h:LA ad H i a):LA ad' H' i a:=⟨x.pre _ _ h.1,fun z=>h.2 ((x.kd _ _ h.1).mpr z)⟩

theorem Den.ofKt{ks:Li Str}(h:Den K ad H v (.kt ks)):∃ a o its n,v=.ref a/\K.lookup a=some o/\(o.cls=.type "tuple"/\o.dict=none)/\o.data=.seq its n/\its.size<=sizeLine/\Vals (ks.map V.str) its.toList:=by
 cases h with
 |kt l c g e z r=>exact⟨_,_,_,_,rfl,l,⟨c,g⟩,e,z,r⟩
theorem Uv:∀ ks:Li Str,Dens K ad H (ks.map V.str) (ks.map D.str)
 |[]=>.nil
 |k :: ks=>.cons (.str k) (Uv ks)

def KL(K:Fg)(a:Ad)(xs:Li V):Prop:=
 ∃ (o:Obj) (its:Array vL) (n:Nat),(K.lookup a=some o/\o.cls=.type "list")/\(o.dict=none/\o.data=.seq its n)/\its.size<=sizeLine/\Vals xs its.toList
inductive Ents(K:Fg)(ad:List Addr)(H:Hp):List (Str×V)->List D->Prop where
 |nil:Ents K ad H [] []
 |cons {k:Str}{v:V}{d:D}{kvs:List (Str×V)}{ds:List D} (h:Den K ad H v d) (r:Ents K ad H kvs ds):Ents K ad H ((k,v) :: kvs) (.tup [.str k,d] :: ds)
theorem Ents.map(x:Keeps K ad ad' H H')(h:Ents K ad H kvs ds):Ents K ad' H' kvs ds:=by
 induction h with
 |nil=>exact .nil
 |cons h _ ih=>exact .cons (h.map x) ih
theorem Ents.mono(x:Ext ad H ad' H')(h:Ents K ad H kvs ds):Ents K ad' H' kvs ds:=h.map x.keeps
theorem Ents.dict(h:Ents K ad H kvs ds):XU ds=false:=by cases h<;>rfl
noncomputable abbrev YJ(kvs:Li (Str×V)):Li (Key×V):=kvs.map fun p=>(Sum.inr p.1,p.2)
structure ObC(K:Fg)(C:Addr):Prop where
 cl:Cls K C
 na:∀ f,fldNames.contains f=true->NoAttr K C f
inductive CellOk(K:Fg)(ad:List Addr)(H:Hp)(a:Addr)(c:Z5):Prop where
 |l {xs:List V} (n:¬Yg H a) (r:Dens K ad H xs c.2) (h:(c.1=true/\H a=some (.lst xs))\/(c.1=false/\((∃ o,H a=some (.frz o (.lst xs)))\/KL K a xs)))
 |d {kvs:List (Str×V)} (r:Ents K ad H kvs c.2) (e:c.1=true) (h:H a=some (.dK (YJ kvs)))
 |o {i:Nat}{dx:Addr}{kvs:List (Str×V)}{es:List D} (q:c.2=.int (i:Int) :: es) (r:Ents K ad H kvs es) (e:c.1=true) (h:H a=some (.ins (ClsTab.ca i) dx kvs)) (oc:ObC K (ClsTab.ca i)/\∀ k,fldNames.contains k=false->kvs.lookup k=none)
structure StOk(K:Fg)(ad:List Addr)(H:Hp)(st:Za):Prop where
 len:ad.length=st.length
 nd:∀ (i j:Nat) (a:Addr) (c d:List D),ad[i]?=some a->ad[j]?=some a->st[i]?=some (true,c)->st[j]?=some (true,d)->i=j
 cell:∀ (i:Nat) (c:Z5),st[i]?=some c->∃ a,ad[i]?=some a/\CellOk K ad H a c

theorem CellOk.sq{a:Ad}{c:Z5}(h:CellOk K ad H a c)(n:¬Yg H a):∃ xs,Dens K ad H xs c.2/\SqL K H a xs:=by
 cases h with
 |l _ r h=>
  obtain⟨_,e⟩|⟨_,⟨o,e⟩|⟨o,its,n,⟨h1,h2⟩,⟨h3,h4⟩,h5,h6⟩⟩:=h
  ·exact⟨_,r,.inl (.inl e)⟩
  ·exact⟨_,r,.inl (.inr ⟨o,e⟩)⟩
  ·exact⟨_,r,.inr ⟨o,its,n,h1,h2,h3,h4,h5,h6⟩⟩
 |d r e h=>exact absurd ⟨_,h,rfl⟩ n
 |o _ r e h _=>exact absurd ⟨_,h,rfl⟩ n
theorem StOk.list{a:Ad}{b:Bool}(S:StOk K ad H st)(h:LA ad H i a)(e:st[i]?=some (b,ds)):∃ xs,Dens K ad H xs ds/\SqL K H a xs:=by
 obtain⟨a',e',c⟩:=S.cell i _ e;rw[h.1]at e';cases e'
 exact c.sq h.2
theorem StOk.listM{a:Ad}(S:StOk K ad H st)(h:LA ad H i a)(e:st[i]?=some (true,ds)):∃ xs,Dens K ad H xs ds/\H a=some (.lst xs):=by
 obtain⟨a',e',c⟩:=S.cell i _ e;rw[h.1]at e';cases e'
 cases c with
 |l _ r q=>
  obtain⟨_,q⟩|⟨q,_⟩:=q
  ·exact⟨_,r,q⟩
  ·cases q
 |d r _ q=>exact absurd ⟨_,q,rfl⟩ h.2
 |o _ r _ q _=>exact absurd ⟨_,q,rfl⟩ h.2
theorem StOk.dict{a:Ad}{b:Bool}(S:StOk K ad H st)(h:ad[i]?=some a)(n:Yg H a)(e:st[i]?=some (b,ds))(ob:XU ds=false):∃ kvs,Ents K ad H kvs ds/\H a=some (.dK (YJ kvs))/\b=true:=by
 obtain⟨a',e',c⟩:=S.cell i _ e;rw[h]at e';cases e'
 cases c with
 |l z=>exact absurd n z
 |d r e q=>exact⟨_,r,q,e⟩
 |o q _ _ _ _=>rw[show ds=_ from q]at ob;cases ob
theorem StOk.obj{a:Ad}{b:Bool}{c:Int}(S:StOk K ad H st)(h:ad[i]?=some a)(n:Yg H a)(e:st[i]?=some (b,.int c :: es)):∃ (j:Nat) (dx:Ad) (kvs:Li (Str×V)),c=(j:Int)/\Ents K ad H kvs es/\H a=some (.ins (ClsTab.ca j) dx kvs)/\b=true/\ObC K (ClsTab.ca j)/\∀ k,fldNames.contains k=false->kvs.lookup k=none:=by
 obtain⟨a',e',c⟩:=S.cell i _ e;rw[h]at e';cases e'
 cases c with
 |l z=>exact absurd n z
 |d r e q=>have:=r.dict;cases this
 |o q r e h oc=>cases q;exact⟨_,_,_,rfl,r,h,e,oc⟩
theorem J2{a:Ad}(hp:¬Yg H p)(ho:isM o=false):Yg H a↔Yg (upd H p o) a:=by
 by_cases z:a=p
 ·subst z
  exact⟨fun q=>absurd q hp,fun q=>absurd q (UU upd_same ho)⟩
 ·unfold Yg
  rw[upd_ne z]
theorem ZaH(hp:H p=none):¬Yg H p:=fun⟨_,z,_⟩=>by rw[hp]at z;cases z
theorem Ext.laid(hp:H p=none)(ho:isM o=false:=by rfl):Ext ad H ad (upd H p o):=
 ⟨fun _ _ h=>h,fun b u _ h=>by rw[upd_ne (ne_of_none h hp)];exact h,fun b o h _=>by rw[upd_ne (ne_of_none h hp)];exact h,fun _ h=>.inl h,fun _ _ _=>J2 (ZaH hp) ho⟩
theorem CellOk.laid{a:Ad}{c:Z5}(ha:ad[i]?=some a)(hp:H p=none)(x:Ext ad H ad' (upd H p o))(h:CellOk K ad H a c):CellOk K ad' (upd H p o) a c:=by
 cases h with
 |l n r h=>
  refine .l (fun z=>n ((x.kd i a ha).mpr z)) (r.mono x) ?_
  rcases h with⟨b,e⟩|⟨b,⟨o,e⟩|e⟩
  ·exact .inl ⟨b,by rw[upd_ne (ne_of_none e hp)];exact e⟩
  ·exact .inr ⟨b,.inl ⟨o,by rw[upd_ne (ne_of_none e hp)];exact e⟩⟩
  ·exact .inr ⟨b,.inr e⟩
 |d r e h=>exact .d (r.mono x) e (by rw[upd_ne (ne_of_none h hp)];exact h)
 |o q r e h oc=>exact .o q (r.mono x) e (by rw[upd_ne (ne_of_none h hp)];exact h) oc
theorem StOk.laid(S:StOk K ad H st)(hp:H p=none)(ho:isM o=false:=by rfl):StOk K ad (upd H p o) st:=
 ⟨S.len,S.nd,fun i c e=>let ⟨a,h,q⟩:=S.cell i c e;⟨a,h,q.laid h hp (Ext.laid hp ho)⟩⟩
theorem Wl{l:Li α}{x y:α}(h:(l++[x])[i]?=some y):l[i]?=some y\/(i=l.length/\y=x):=by
 by_cases hi:i < l.length
 ·rw[bF hi]at h
  exact .inl h
 ·rw[aY (by omega)]at h
  have:i - l.length=0:=by
   cases e:i - l.length with
   |zero=>rfl
   |succ k=>rw[e]at h;simp at h
  rw[this]at h;simp at h;exact .inr ⟨by omega,h.symm⟩
theorem XI{l:Li α}{x y:α}(h:l[i]?=some y):(l++[x])[i]?=some y:=by
 rw[bF (bE.mp h).1];exact h
theorem ZI{l:Li α}{x:α}:(l++[x])[l.length]?=some x:=by simp
theorem Ext.pushG(hp:H p=none)(hk:∀ (i:Nat) (a:Ad),ad[i]?=some a->(Yg H a↔Yg (upd H p o) a)):Ext ad H (ad++[p]) (upd H p o):=
 ⟨fun _ _ h=>XI h,fun b u _ h=>by rw[upd_ne (ne_of_none h hp)];exact h,fun b o h _=>by rw[upd_ne (ne_of_none h hp)];exact h,fun b h=>(bM.mp h).elim .inl fun z=>.inr (by rw[bW.mp z];exact hp),hk⟩
theorem Ext.push(hp:H p=none):Ext ad H (ad++[p]) (upd H p (.lst xs)):=Ext.pushG hp fun _ _ _=>J2 (ZaH hp) rfl
theorem StOk.more(S:StOk K ad H st)(hn:∀ (i:Nat) (c:Li D),ad[i]?=some p->st[i]?=some (true,c)->False)(hc:∀ (i:Nat) (c:Z5) (a:Ad),ad[i]?=some a->CellOk K ad H a c->CellOk K (ad++[p]) H' a c)(hp:CellOk K (ad++[p]) H' p (true,ds)):StOk K (ad++[p]) H' (st++[(true,ds)]):=by
 have old:∀ (i:Nat) (c:Li D) (a:Ad),(ad++[p])[i]?=some a->st[i]?=some (true,c)->ad[i]?=some a:=fun i c a h e=>by
  obtain⟨a1,q1,_⟩:=S.cell i _ e;have z1:=XI (x:=p) q1;rw[h]at z1;cases z1;exact q1
 refine⟨by rw[aI,aI,S.len];rfl,fun i j a c d h1 h2 h3 h4=>?_,fun i c e=>?_⟩
 ·rcases Wl h3 with h3|⟨e3,_⟩
  ·rcases Wl h4 with h4|⟨e4,_⟩
   ·exact S.nd i j a c d (old i c a h1 h3) (old j d a h2 h4) h3 h4
   ·have q1:=old i c a h1 h3
    rw[e4,<-S.len,ZI]at h2;cases h2;exact(hn i c q1 h3).elim
  ·rcases Wl h4 with h4|⟨e4,_⟩
   ·have q2:=old j d a h2 h4
    rw[e3,<-S.len,ZI]at h1;cases h1;exact(hn j d q2 h4).elim
   ·omega
 ·rcases Wl e with e|⟨e1,e2⟩
  ·obtain⟨a,h,q⟩:=S.cell i c e
   exact⟨a,XI h,hc i c a h q⟩
  ·subst e2
   exact⟨p,by rw[e1,<-S.len];exact ZI,hp⟩
theorem StOk.noNew(S:StOk K ad H st)(hp:H p=none)(i:Nat)(c:Li D)(h:ad[i]?=some p)(e:st[i]?=some (true,c)):False:=by
 obtain⟨a',e',q⟩:=S.cell i _ e;rw[h]at e';cases e'
 cases q with
 |l _ _ q=>
  obtain⟨_,q⟩|⟨q,_⟩:=q
  ·rw[hp]at q;cases q
  ·cases q
 |d _ _ q=>rw[hp]at q;cases q
 |o _ _ _ q _=>rw[hp]at q;cases q
theorem StOk.push(S:StOk K ad H st)(hp:H p=none)(r:Dens K ad H xs ds):StOk K (ad++[p]) (upd H p (.lst xs)) (st++[(true,ds)]):=
 S.more (S.noNew hp) (fun _ _ _ h q=>q.laid h hp (Ext.push hp)) (.l (UU upd_same rfl) (r.mono (Ext.push hp)) (.inl ⟨rfl,upd_same⟩))
theorem StOk.wrG(S:StOk K ad H st)(kp:Keeps K ad ad H (upd H p o))(hn:p∉ad):StOk K ad (upd H p o) st:=
 ⟨S.len,S.nd,fun i c e=>by
  obtain⟨a,h,q⟩:=S.cell i c e;have ne:a≠p:=fun z=>hn (by rw[<-z];exact bG h)
  refine⟨a,h,?_⟩;cases q with
  |l n r q=>
   refine .l (fun z=>n ((kp.l h).2.mpr z)) (r.map kp) ?_
   rcases q with⟨b,q⟩|⟨b,⟨o,q⟩|q⟩
   ·exact .inl ⟨b,by rw[upd_ne ne];exact q⟩
   ·exact .inr ⟨b,.inl ⟨o,by rw[upd_ne ne];exact q⟩⟩
   ·exact .inr ⟨b,.inr q⟩
  |d r t q=>exact .d (r.map kp) t (by rw[upd_ne ne];exact q)
  |o z r t q oc=>exact .o z (r.map kp) t (by rw[upd_ne ne];exact q) oc⟩
theorem StOk.has{a:Ad}(S:StOk K ad H st)(hi:ad[i]?=some a):(∃ o,H a=some o)\/∃ o,K.lookup a=some o:=by
 obtain⟨a',e',q⟩:=S.cell i _ (Lg (show i < st.length by rw[<-S.len];exact(bE.mp hi).1))
 rw[hi]at e';cases e'
 cases q with
 |l _ _ q=>
  obtain⟨_,q⟩|⟨_,⟨o,q⟩|⟨o,its,m,⟨h1,h2⟩,_⟩⟩:=q
  ·exact .inl ⟨_,q⟩
  ·exact .inl ⟨_,q⟩
  ·exact .inr ⟨_,h1⟩
 |d _ _ q=>exact .inl ⟨_,q⟩
 |o _ _ _ q _=>exact .inl ⟨_,q⟩
theorem StOk.extD{o:HO}(S:StOk K ad H st)(hp:H p=none)(hk:∀ o,K.lookup p≠some o):Ext ad H (ad++[p]) (upd H p o):=
 Ext.pushG hp fun i a h=>by
  have n:a≠p:=fun z=>(S.has h).elim (fun⟨o,q⟩=>by rw[z,hp]at q;cases q) fun⟨o,q⟩=>hk o (z ▸ q)
  unfold Yg;rw[upd_ne n]
theorem StOk.pushD(S:StOk K ad H st)(hp:H p=none)(hk:∀ o,K.lookup p≠some o):StOk K (ad++[p]) (upd H p (.dK [])) (st++[(true,[])]):=
 S.more (S.noNew hp) (fun _ _ _ h q=>q.laid h hp (S.extD hp hk)) (.d .nil rfl upd_same)
theorem StOk.pushO{dx:Ad}(S:StOk K ad H st)(hp:H p=none)(hk:∀ o,K.lookup p≠some o)(oc:ObC K (ClsTab.ca i)):StOk K (ad++[p]) (upd H p (.ins (ClsTab.ca i) dx [])) (st++[(true,[.int (i:Int)])]):=
 S.more (S.noNew hp) (fun _ _ _ h q=>q.laid h hp (S.extD hp hk)) (.o rfl .nil rfl upd_same ⟨oc,fun _ _=>rfl⟩)
theorem StOk.adopt(S:StOk K ad H st)(hp:H p=some (.lst xs))(hn:p∉ad)(r:Dens K ad H xs ds):StOk K (ad++[p]) H (st++[(true,ds)]):=by
 have kp:Keeps K ad (ad++[p]) H H:=Zh0 (fun _ _ h=>XI h) (fun b hb=>(bM.mp hb).imp id fun z=>⟨xs,by rw[bW.mp z];exact hp⟩)
 exact S.more (fun i _ h _=>hn (bG h)) (fun _ _ _ _ q=>by
  cases q with
  |l n r h=>exact .l n (r.map kp) h
  |d r e h=>exact .d (r.map kp) e h
  |o q r e h oc=>exact .o q (r.map kp) e h oc) (.l (UU hp rfl) (r.map kp) (.inl ⟨rfl,hp⟩))
theorem Ext.writeG{a:Ad}(h:H a=some o)(ha:a∈ad)(h1:isF o=false)(hk:Yg H a↔Yg (upd H a o') a):Ext ad H ad (upd H a o'):=
 ⟨fun _ _ h=>h,fun b u m e=>by rw[upd_ne (ne_of e h (fun z=>by rw[<-z,m]at h1;cases h1))];exact e,fun b o e n=>by rw[upd_ne (show b≠a from fun z=>n (by rw[z];exact ha))];exact e,fun _ h=>.inl h,fun _ b _=>by
  by_cases z:b=a
  ·rw[z];exact hk
  ·unfold Yg;rw[upd_ne z]⟩
theorem Ext.write{a:Ad}(h:H a=some (.lst xs))(ha:a∈ad):Ext ad H ad (upd H a (.lst ys)):=
 Ext.writeG h ha rfl ⟨fun z=>absurd z (UU h rfl),fun z=>absurd z (UU upd_same rfl)⟩
theorem StOk.writeG{a:Ad}(S:StOk K ad H st)(h:ad[i]?=some a)(e:st[i]?=some (true,ds))(hx:H a=some o)(hf:∀ q u,o≠.frz q u)(x:Ext ad H ad (upd H a o'))(r:CellOk K ad (upd H a o') a (true,es)) :
  StOk K ad (upd H a o') (st.set i (true,es)):=by
 have hi:i < st.length:=(bE.mp e).1;refine⟨by rw[bI];exact S.len,fun j k b c d h1 h2 h3 h4=>?_,fun j c q=>?_⟩
 ·have up:∀ (j:Nat) (c:Li D),(st.set i (true,es))[j]?=some (true,c)->∃ c',st[j]?=some (true,c'):=fun j c q=>by
   by_cases z:i=j
   ·subst z;exact⟨_,e⟩
   ·rw[aR z]at q;exact⟨_,q⟩
  obtain⟨c',h3⟩:=up j c h3;obtain⟨d',h4⟩:=up k d h4;exact S.nd j k b c' d' h1 h2 h3 h4
 ·by_cases z:i=j
  ·subst z
   rw[bN hi]at q;cases q;exact⟨a,h,r⟩
  ·rw[aR z]at q
   obtain⟨b,hb,hz⟩:=S.cell j c q;refine⟨b,hb,?_⟩;have ne:c.1=true->b≠a:=fun t w=>by
    obtain⟨cb,cl⟩:=c;cases (show cb=true from t)
    exact z (S.nd i j a ds cl h (w ▸ hb) e q)
   cases hz with
   |l n rz hz=>
    refine .l (fun z=>n ((x.kd j b hb).mpr z)) (rz.mono x) ?_
    rcases hz with⟨t,hz⟩|⟨t,⟨o,hz⟩|hz⟩
    ·exact .inl ⟨t,by rw[upd_ne (ne t)];exact hz⟩
    ·exact .inr ⟨t,.inl ⟨o,by rw[upd_ne (ne_of hz hx (fun z=>hf _ _ z.symm))];exact hz⟩⟩
    ·exact .inr ⟨t,.inr hz⟩
   |d rz t hz=>exact .d (rz.mono x) t (by rw[upd_ne (ne t)];exact hz)
   |o z rz t hz oc=>exact .o z (rz.mono x) t (by rw[upd_ne (ne t)];exact hz) oc
theorem StOk.write{a:Ad}(S:StOk K ad H st)(h:LA ad H i a)(e:st[i]?=some (true,ds))(hx:H a=some (.lst xs))(r:Dens K ad H ys es) :
  StOk K ad (upd H a (.lst ys)) (st.set i (true,es)):=
 S.writeG h.1 e hx (fun _ _ z=>nomatch z) (Ext.write hx (bG h.1)) (.l (UU upd_same rfl) (r.mono (Ext.write hx (bG h.1))) (.inl ⟨rfl,upd_same⟩))
theorem Ext.writeM{a:Ad}(h:H a=some o)(m:isM o=true)(m':isM o'=true)(ha:a∈ad):Ext ad H ad (upd H a o'):=
 Ext.writeG h ha (by cases o<;>first|rfl|cases m) ⟨fun _=>⟨_,upd_same,m'⟩,fun _=>⟨_,h,m⟩⟩
theorem StOk.writeD{a:Ad}(S:StOk K ad H st)(h:ad[i]?=some a)(e:st[i]?=some (true,ds))(hx:H a=some (.dK (YJ kvs)))(r:Ents K ad H kvs' es) :
  StOk K ad (upd H a (.dK (YJ kvs'))) (st.set i (true,es)):=
 S.writeG h e hx (fun _ _ z=>nomatch z) (Ext.writeM hx rfl rfl (bG h)) (.d (r.mono (Ext.writeM hx rfl rfl (bG h))) rfl upd_same)
theorem StOk.writeO{a dx:Ad}(S:StOk K ad H st)(h:ad[i]?=some a)(e:st[i]?=some (true,ds))(hx:H a=some (.ins (ClsTab.ca j) dx kvs))(oc:ObC K (ClsTab.ca j))(r:Ents K ad H kvs' es)(nf:∀ k,fldNames.contains k=false->kvs'.lookup k=none) :
  StOk K ad (upd H a (.ins (ClsTab.ca j) dx kvs')) (st.set i (true,.int (j:Int) :: es)):=
 S.writeG h e hx (fun _ _ z=>nomatch z) (Ext.writeM hx rfl rfl (bG h)) (.o rfl (r.mono (Ext.writeM hx rfl rfl (bG h))) rfl upd_same ⟨oc,nf⟩)

structure EnvOk(K:Fg)(ad:List Addr)(H:Hp)(σ:L2.St)(ρ:Env):Prop where
 len:σ.length=ρ.length
 at_:∀ (i:Nat) (d:D),ρ[i]?=some (some d)->∃ v,σ[i]?=some (some v)/\Den K ad H v d
theorem EnvOk.mono(x:Ext ad H ad' H')(h:EnvOk K ad H σ ρ):EnvOk K ad' H' σ ρ:=⟨h.len,fun i d e=>let ⟨v,e1,e2⟩:=h.at_ i d e;⟨v,e1,e2.mono x⟩⟩
theorem EnvOk.set(h:EnvOk K ad H σ ρ)(i:Nat)(r:Den K ad H v d):EnvOk K ad H (σ.set i (some v)) (Zi ρ i d):=by
 refine⟨by unfold Zi;rw[bI,bI];exact h.len,fun j e q=>?_⟩
 unfold Zi at q;by_cases z:i=j
 ·subst z
  by_cases hi:i < ρ.length
  ·rw[bN hi]at q
   cases q;exact⟨v,by rw[bN (by rw[h.len];exact hi)],r⟩
  ·rw[eB (by rw[bI];omega)]at q
   cases q
 ·rw[aR z]at q
  obtain⟨w,e1,e2⟩:=h.at_ j e q;exact⟨w,by rw[aR z];exact e1,e2⟩
end

def Post(K:Fg)(ad:Li Ad)(H:Hp)(d:D)(st':Za)(Q:VK):Prop:=∀ v ad' H',Ext ad H ad' H'->StOk K ad' H' st'->Den K ad' H' v d->Q v H'
noncomputable def tE(K:Fg)(f:Env->Za->Res):TE:=fun σ H Q=>∃ ad ρ st d st',EnvOk K ad H σ ρ/\StOk K ad H st/\f ρ st=some (d,st')/\Post K ad H d st' Q
noncomputable def tT(K:Fg)(f:Env->Za->Res):TT:=fun σ H Q=>∃ ad ρ st k st',EnvOk K ad H σ ρ/\StOk K ad H st/\f ρ st=some (.bl k,st')/\∀ ad' H',Ext ad H ad' H'->StOk K ad' H' st'->Q k H'
noncomputable def tA(K:Fg)(f:Env->Za->Res):TA:=fun σ H Q=>∃ ad ρ st ds st',EnvOk K ad H σ ρ/\StOk K ad H st/\f ρ st=some (.tup ds,st')/\∀ vs ad' H',Ext ad H ad' H'->StOk K ad' H' st'->Dens K ad' H' vs ds->Q vs H'
noncomputable def rD(K:Fg)(f:D->D->Za->Res):R2:=fun x y H Q=>∃ ad st dx dy d st',StOk K ad H st/\Den K ad H x dx/\Den K ad H y dy/\f dx dy st=some (d,st')/\Post K ad H d st' Q
def XPost(E:XK)(K:Fg)(ad:Li Ad)(H:Hp)(d:D)(st':Za):Prop:=match d with
 |.dct [_] [.int c,.int k]=>∀ ad' H' dx,Ext ad H ad' H'->StOk K ad' H' st'->H' dx=some (.xd [("line",.int k)])->E (.ref (ClsTab.ca c.toNat)) (some dx) H'
 |.dct [_] _=>False
 |_=>True
noncomputable def spD(K:Fg)(g:Fn):Sp:=fun vs H Q E=>∃ ad ds st d st',StOk K ad H st/\Dens K ad H vs ds/\g ds st=some (d,st')/\Post K ad H d st' Q/\XPost E K ad H d st'
class XcK where
 E:XK
instance (priority:=low) xc0:XcK:=⟨E0⟩
noncomputable def tS[xk:XcK](K:Fg)(f:Env->Za->Ot (Fl×Za)):TS:=fun D σ H=>∃ ad ρ st r st',EnvOk K ad H σ ρ/\StOk K ad H st/\f ρ st=some (r,st') /\
 match r with
 |.nx ρ'=>∀ σ' ad' H',Ext ad H ad' H'->StOk K ad' H' st'->EnvOk K ad' H' σ' ρ'->D.nx σ' H'
 |.bk ρ'=>∀ σ' ad' H',Ext ad H ad' H'->StOk K ad' H' st'->EnvOk K ad' H' σ' ρ'->D.bk σ' H'
 |.ct ρ'=>∀ σ' ad' H',Ext ad H ad' H'->StOk K ad' H' st'->EnvOk K ad' H' σ' ρ'->D.ct σ' H'
 |.rt d=>Post K ad H d st' D.rt/\XPost XcK.E K ad H d st'
theorem Post.at{Q:VK}(p:Post K ad H d st Q)(S:StOk K ad H st)(h:Den K ad H v d):Q v H:=p v ad H (Ext.refl _ _) S h
theorem XPost.later{E:XK}(p:XPost E K ad H d st)(x:Ext ad H ad' H'):XPost E K ad' H' d st:=by
 unfold XPost at p ⊢
 split at p
 ·exact fun a2 H2 dx y S h=>p a2 H2 dx (x.trans y) S h
 ·exact p.elim
 ·trivial
theorem ZgW{r:Res}(h:Wr r=some (d,st)):r=some (d,st)/\∀ (E:XK) (K:Fg) (ad:Li Ad) (H:Hp),XPost E K ad H d st:=by
 unfold Wr at h;split at h
 ·exact Zb h
 ·rename_i n
  refine⟨h,fun E K ad H=>?_⟩
  unfold XPost;split
  ·exact absurd h (n _ _ _)
  ·exact absurd h (n _ _ _)
  ·trivial
theorem Post.later{Q:VK}(p:Post K ad H d st Q)(x:Ext ad H ad' H'):Post K ad' H' d st Q:=fun v a2 H2 y S h=>p v a2 H2 (x.trans y) S h
variable [ClsTab]
variable{st':Za}
section
variable {X:Cx}{a b c:Expr}{fa fb fc:Ev}{pos:Pos}

theorem Zfm(σ:L2.St)(H:Hp)(Q:VK)(h:tE K (ZV i) σ H Q):tVar i σ H Q:=by
 obtain⟨ad,ρ,st,d,st',E,S,e,p⟩:=h;unfold ZV at e;split at e
 ·rename_i q
  obtain⟨v,e1,e2⟩:=E.at_ i _ q;cases e;exact⟨v,e1,p.at S e2⟩
 ·exact Zb e
theorem Qy(hd:∀ ad H,Den K ad H v d)(σ:L2.St)(H:Hp)(Q:VK)(h:tE K (evC d) σ H Q):tC v σ H Q:=by
 obtain⟨ad,ρ,st,d',st',E,S,e,p⟩:=h;cases e;exact p.at S (hd _ _)
theorem UJ{g:D->D->Za->Res}(σ:L2.St)(H:Hp)(Q:VK)(h:tE K (Zz fa fb g) σ H Q):tOp (rD K g) (tE K fa) (tE K fb) σ H Q:=by
 obtain⟨ad,ρ,st,d,st',E,S,e,p⟩:=h;unfold Zz at e;split at e
 ·rename_i x st1 q1
  split at e
  ·rename_i y st2 q2
   refine⟨ad,ρ,st,x,st1,E,S,q1,fun v1 ad1 H1 x1 S1 d1=>⟨ad1,ρ,st1,y,st2,E.mono x1,S1,q2,fun v2 ad2 H2 x2 S2 d2=>?_⟩⟩
   exact⟨ad2,st2,x,y,d,st',S2,d1.mono x2,d2,e,p.later (x1.trans x2)⟩
  ·exact Zb e
 ·exact Zb e
def rU1(K:Fg)(g:D->Za->Res):V->Hp->VK->Prop:=fun x H Q=>∃ ad st dx d st',StOk K ad H st/\Den K ad H x dx/\g dx st=some (d,st')/\Post K ad H d st' Q
theorem ZhR{g:D->Za->Res}(σ:L2.St)(H:Hp)(Q:VK)(h:tE K (Zo fa g) σ H Q):tUn (rU1 K g) (tE K fa) σ H Q:=by
 obtain⟨ad,ρ,st,d,st',E,S,e,p⟩:=h;unfold Zo at e;split at e
 ·rename_i x st1 q1
  exact⟨ad,ρ,st,x,st1,E,S,q1,fun v1 ad1 H1 x1 S1 d1=>⟨ad1,st1,x,d,st',S1,d1,e,p.later x1⟩⟩
 ·exact Zb e
theorem UL(σ:L2.St)(H:Hp)(Q:Bool->Hp->Prop)(h:tT K fa σ H Q):tE K fa σ H fun x H1=>∃ c,x=.bl c/\Q c H1:=by
 obtain⟨ad,ρ,st,k,st',E,S,e,p⟩:=h;exact⟨ad,ρ,st,.bl k,st',E,S,e,fun v ad' H' x S' d'=>⟨k,d'.ofBl,p ad' H' x S'⟩⟩
theorem Z0{ft ff:Ev}{r:D×Za}(h:Yi fc ft ff ρ st=some r):∃ k st1,fc ρ st=some (.bl k,st1)/\(if k=true then ft ρ st1 else ff ρ st1)=some r:=by
 unfold Yi at h;split at h
 ·rename_i st1 q
  exact⟨true,st1,q,by rw[if_pos rfl];exact h⟩
 ·rename_i st1 q
  exact⟨false,st1,q,by rw[if_neg Bf];exact h⟩
 ·exact Zb h
theorem ZhQ(σ:L2.St)(H:Hp)(Q:VK)(h:tE K (Yi fc fa fb) σ H Q):tIf (tT K fc) (tE K fa) (tE K fb) σ H Q:=by
 obtain⟨ad,ρ,st,d,st',E,S,e,p⟩:=h;obtain⟨k,st1,q,e⟩:=Z0 e;refine⟨ad,ρ,st,k,st1,E,S,q,fun ad1 H1 x1 S1=>?_⟩
 cases k with
 |true=>
  rw[if_pos rfl]at e ⊢;exact⟨ad1,ρ,st1,d,st',E.mono x1,S1,e,p.later x1⟩
 |false=>
  rw[if_neg Bf]at e ⊢;exact⟨ad1,ρ,st1,d,st',E.mono x1,S1,e,p.later x1⟩
theorem ZcO(σ:L2.St)(H:Hp)(Q:VK)(h:tE K (Yi fa fb (evC (.bl false))) σ H Q):tAndV (tE K fa) (tE K fb) σ H Q:=by
 obtain⟨ad,ρ,st,d,st',E,S,e,p⟩:=h;obtain⟨k,st1,q,e⟩:=Z0 e;refine⟨ad,ρ,st,.bl k,st1,E,S,q,fun v1 ad1 H1 x1 S1 d1=>⟨k,d1.ofBl,?_⟩⟩
 cases k with
 |true=>
  rw[if_pos rfl]at e ⊢;exact⟨ad1,ρ,st1,d,st',E.mono x1,S1,e,p.later x1⟩
 |false=>
  rw[if_neg Bf]at e ⊢;cases e;exact(p.later x1).at S1 (.bl false)
theorem Zfh(σ:L2.St)(H:Hp)(Q:VK)(h:tE K (Yi fa (evC (.bl true)) fb) σ H Q):tOrV (tE K fa) (tE K fb) σ H Q:=by
 obtain⟨ad,ρ,st,d,st',E,S,e,p⟩:=h;obtain⟨k,st1,q,e⟩:=Z0 e;refine⟨ad,ρ,st,.bl k,st1,E,S,q,fun v1 ad1 H1 x1 S1 d1=>⟨k,d1.ofBl,?_⟩⟩
 cases k with
 |true=>
  rw[if_pos rfl]at e ⊢;cases e;exact(p.later x1).at S1 (.bl true)
 |false=>
  rw[if_neg Bf]at e ⊢;exact⟨ad1,ρ,st1,d,st',E.mono x1,S1,e,p.later x1⟩
theorem ZcN(σ:L2.St)(H:Hp)(Q:Bool->Hp->Prop)(h:tT K (Yi fa fb (evC (.bl false))) σ H Q):tAnd (tT K fa) (tT K fb) σ H Q:=by
 obtain⟨ad,ρ,st,d,st',E,S,e,p⟩:=h;obtain⟨k,st1,q,e⟩:=Z0 e;refine⟨ad,ρ,st,k,st1,E,S,q,fun ad1 H1 x1 S1=>?_⟩
 cases k with
 |true=>
  rw[if_pos rfl]at e ⊢;exact⟨ad1,ρ,st1,d,st',E.mono x1,S1,e,fun ad2 H2 x2 S2=>p ad2 H2 (x1.trans x2) S2⟩
 |false=>
  rw[if_neg Bf]at e ⊢;cases e;exact p ad1 H1 x1 S1
theorem Zfg(σ:L2.St)(H:Hp)(Q:Bool->Hp->Prop)(h:tT K (Yi fa (evC (.bl true)) fb) σ H Q):tOr (tT K fa) (tT K fb) σ H Q:=by
 obtain⟨ad,ρ,st,d,st',E,S,e,p⟩:=h;obtain⟨k,st1,q,e⟩:=Z0 e;refine⟨ad,ρ,st,k,st1,E,S,q,fun ad1 H1 x1 S1=>?_⟩
 cases k with
 |true=>
  rw[if_pos rfl]at e ⊢;cases e;exact p ad1 H1 x1 S1
 |false=>
  rw[if_neg Bf]at e ⊢;exact⟨ad1,ρ,st1,d,st',E.mono x1,S1,e,fun ad2 H2 x2 S2=>p ad2 H2 (x1.trans x2) S2⟩
theorem Zc0(σ:L2.St)(H:Hp)(Q:Bool->Hp->Prop)(h:tT K (Zo fa JH) σ H Q):tNot (tT K fa) σ H Q:=by
 obtain⟨ad,ρ,st,d,st',E,S,e,p⟩:=h;unfold Zo at e;split at e
 ·rename_i x st1 q1
  cases x with
  |bl k=>
   cases (show some (D.bl (!k),st1)=_ from e)
   exact⟨ad,ρ,st,k,_,E,S,q1,fun ad1 H1 x1 S1=>p ad1 H1 x1 S1⟩
  |_=>simp[JH]at e
 ·exact Zb e
theorem Zc1(σ:L2.St)(H:Hp)(Q:VK)(h:tE K (Zo fa JH) σ H Q):tNotV (tE K fa) σ H Q:=by
 obtain⟨ad,ρ,st,d,st',E,S,e,p⟩:=h;unfold Zo at e;split at e
 ·rename_i x st1 q1
  cases x with
  |bl k=>
   cases (show some (D.bl (!k),st1)=_ from e)
   exact⟨ad,ρ,st,.bl k,_,E,S,q1,fun v1 ad1 H1 x1 S1 d1=>⟨k,d1.ofBl,(p.later x1).at S1 (.bl _)⟩⟩
  |_=>simp[JH]at e
 ·exact Zb e
theorem Vx(σ:L2.St)(H:Hp)(Q:Li V->Hp->Prop)(h:tA K (evC (.tup [])) σ H Q):tNil σ H Q:=by
 obtain⟨ad,ρ,st,d,st',E,S,e,p⟩:=h;cases e;exact p [] ad H (Ext.refl _ _) S .nil
theorem WI(σ:L2.St)(H:Hp)(Q:Li V->Hp->Prop)(h:tA K (Zz fa fb Xr) σ H Q):tCons (tE K fa) (tA K fb) σ H Q:=by
 obtain⟨ad,ρ,st,d,st',E,S,e,p⟩:=h;unfold Zz at e;split at e
 ·rename_i x st1 q1
  split at e
  ·rename_i y st2 q2
   cases y with
   |tup zs=>
    have e:(if zs.length < 1000 then some (D.tup (x :: zs),st2) else none)=some (D.tup d,st'):=e
    split at e
    ·cases e
     refine⟨ad,ρ,st,_,st1,E,S,q1,fun v1 ad1 H1 x1 S1 d1=>⟨ad1,ρ,st1,zs,_,E.mono x1,S1,q2,fun v2 ad2 H2 x2 S2 d2=>?_⟩⟩
     exact p _ ad2 H2 (x1.trans x2) S2 (.cons (d1.mono x2) d2)
    ·cases e
   |_=>simp[Xr]at e
  ·cases e
 ·cases e
theorem Zfl(hb:∀ ρ st ds st',fa ρ st=some (.tup ds,st')->ds.length<=1000)(ht:∀ ρ st d st',fa ρ st=some (d,st')->∃ ds,d=.tup ds)(σ:L2.St)(H:Hp)(Q:VK)(h:tE K fa σ H Q):tTup (tA K fa) σ H Q:=by
 obtain⟨ad,ρ,st,d,st',E,S,e,p⟩:=h;obtain⟨ds,rfl⟩:=ht _ _ _ _ e;refine⟨ad,ρ,st,ds,st',E,S,e,fun vs ad1 H1 x1 S1 d1=>⟨?_,fun q hq=>?_⟩⟩
 ·rw[d1.length]
  exact aG (hb _ _ _ _ e) (by decide)
 ·exact p _ ad1 _ (x1.trans (Ext.laid hq)) (S1.laid hq) (.tup (.inl upd_same) (d1.mono (Ext.laid hq)))
theorem Zfe(hb:∀ ρ st ds st',fa ρ st=some (.tup ds,st')->ds.length<=1000)(σ:L2.St)(H:Hp)(Q:VK)(h:tE K (Zo fa JD) σ H Q):tLst (tA K fa) σ H Q:=by
 obtain⟨ad,ρ,st,d,st',E,S,e,p⟩:=h;unfold Zo at e;split at e
 ·rename_i x st1 q1
  cases x with
  |tup ds=>
   cases (show some (D.lst st1.length,st1++[(true,ds)])=_ from e)
   refine⟨ad,ρ,st,ds,_,E,S,q1,fun vs ad1 H1 x1 S1 d1=>⟨?_,fun q hq=>?_⟩⟩
   ·rw[d1.length]
    exact aG (hb _ _ _ _ q1) (by decide)
   ·refine p _ (ad1++[q]) _ (x1.trans (Ext.push hq)) (S1.push hq d1) (.newL ?_)
    rw[<-S1.len];exact ZI
  |_=>simp[JD]at e
 ·exact Zb e
def rC(K:Fg)(g:Li D->Za->Res):Li V->Hp->VK->Prop:=fun vs H Q=>∃ ad st ds d st',StOk K ad H st/\Dens K ad H vs ds/\g ds st=some (d,st')/\Post K ad H d st' Q
noncomputable def on1(g:D->Za->Res):Li D->Za->Res
 |[x],st=>g x st
 |_,_=>none
noncomputable def on2(g:D->D->Za->Res):Li D->Za->Res
 |[x,y],st=>g x y st
 |_,_=>none
theorem Xx{g:D->Za->Res}(σ:L2.St)(H:Hp)(Q:VK)(h:tE K (Zo fa g) σ H Q):tCB (rC K (on1 g)) (tCons (tE K fa) tNil) σ H Q:=by
 obtain⟨ad,ρ,st,d,st',E,S,e,p⟩:=h;unfold Zo at e;split at e
 ·rename_i x st1 q1
  exact⟨ad,ρ,st,x,st1,E,S,q1,fun v1 ad1 H1 x1 S1 d1=>⟨ad1,st1,[x],d,st',S1,.cons d1 .nil,e,p.later x1⟩⟩
 ·exact Zb e
theorem Qx{g:D->D->Za->Res}(σ:L2.St)(H:Hp)(Q:VK)(h:tE K (Zz fa fb g) σ H Q):tCB (rC K (on2 g)) (tCons (tE K fa) (tCons (tE K fb) tNil)) σ H Q:=by
 obtain⟨ad,ρ,st,d,st',E,S,e,p⟩:=h;unfold Zz at e;split at e
 ·rename_i x st1 q1
  split at e
  ·rename_i y st2 q2
   refine⟨ad,ρ,st,x,st1,E,S,q1,fun v1 ad1 H1 x1 S1 d1=>⟨ad1,ρ,st1,y,st2,E.mono x1,S1,q2,fun v2 ad2 H2 x2 S2 d2=>?_⟩⟩
   exact⟨ad2,st2,[x,y],d,st',S2,.cons (d1.mono x2) (.cons d2 .nil),e,p.later (x1.trans x2)⟩
  ·exact Zb e
 ·exact Zb e
noncomputable def tO(K:Fg)(f:Ev):TO:=fun σ H Q=>∃ ad ρ st d st',EnvOk K ad H σ ρ/\StOk K ad H st/\f ρ st=some (d,st') /\
 ((d=.non/\∀ ad' H',Ext ad H ad' H'->StOk K ad' H' st'->Q none H')\/∃ i,d=.int i/\∀ ad' H',Ext ad H ad' H'->StOk K ad' H' st'->Q (some i) H')
def rSl(K:Fg):V->Ot Int->Ot Int->Hp->VK->Prop:=fun x lo hi H Q=>∃ ad st dx d st',StOk K ad H st/\Den K ad H x dx/\Ye dx lo hi st=some (d,st')/\Post K ad H d st' Q
noncomputable def part:D->Ot (Ot Int)
 |.non=>some none
 |.int i=>some (some i)
 |_=>none
theorem U3{x l h:D}{r:D×Za}(e:Wc x l h st=some r):∃ lo hi,part l=some lo/\part h=some hi/\Ye x lo hi st=some r:=by
 unfold Wc at e;split at e
 ·exact⟨_,_,rfl,rfl,e⟩
 ·exact⟨_,_,rfl,rfl,e⟩
 ·exact⟨_,_,rfl,rfl,e⟩
 ·exact⟨_,_,rfl,rfl,e⟩
 ·exact Zb e
theorem Zg5{f:Ev}{Q:Ot Int->Hp->Prop}{o:Ot Int}(E:EnvOk K ad H σ ρ)(S:StOk K ad H st)(e:f ρ st=some (d,st'))(po:part d=some o)(q:∀ ad' H',Ext ad H ad' H'->StOk K ad' H' st'->Q o H'):tO K f σ H Q:=by
 refine⟨ad,ρ,st,d,st',E,S,e,?_⟩;cases d with
 |non=>cases po;exact .inl ⟨rfl,q⟩
 |int i=>cases po;exact .inr ⟨i,rfl,q⟩
 |_=>exact Zb po
theorem Zbt(σ:L2.St)(H:Hp)(Q:VK)(h:tE K (JS fa fb fc Wc) σ H Q):tSl (rSl K) (tE K fa) (tO K fb) (tO K fc) σ H Q:=by
 obtain⟨ad,ρ,st,d,st',E,S,e,p⟩:=h;unfold JS at e;split at e
 ·rename_i x st1 q1
  split at e
  ·rename_i y st2 q2
   split at e
   ·rename_i z st3 q3
    obtain⟨lo,hi,pl,ph,e⟩:=U3 e;refine⟨ad,ρ,st,x,st1,E,S,q1,fun v1 ad1 H1 x1 S1 d1=>Zg5 (E.mono x1) S1 q2 pl fun ad2 H2 x2 S2=>Zg5 (E.mono (x1.trans x2)) S2 q3 ph fun ad3 H3 x3 S3=>?_⟩
    exact⟨ad3,st3,x,d,st',S3,d1.mono (x2.trans x3),e,p.later (x1.trans (x2.trans x3))⟩
   ·exact Zb e
  ·exact Zb e
 ·exact Zb e
theorem Zff(σ:L2.St)(H:Hp)(Q:Ot Int->Hp->Prop)(h:tO K (evC .non) σ H Q):tNoPart σ H Q:=by
 obtain⟨ad,ρ,st,d,st',E,S,e,p⟩:=h;cases e;rcases p with⟨_,p⟩|⟨i,z,_⟩
 ·exact p ad H (Ext.refl _ _) S
 ·cases z
end
variable [ClsTab] [xk:XcK]
def PostS(K:Fg)(ad:Li Ad)(H:Hp)(r:Fl)(st':Za)(D:Ends):Prop:=match r with
 |.nx ρ'=>∀ σ' ad' H',Ext ad H ad' H'->StOk K ad' H' st'->EnvOk K ad' H' σ' ρ'->D.nx σ' H'
 |.bk ρ'=>∀ σ' ad' H',Ext ad H ad' H'->StOk K ad' H' st'->EnvOk K ad' H' σ' ρ'->D.bk σ' H'
 |.ct ρ'=>∀ σ' ad' H',Ext ad H ad' H'->StOk K ad' H' st'->EnvOk K ad' H' σ' ρ'->D.ct σ' H'
 |.rt d=>Post K ad H d st' D.rt/\XPost XcK.E K ad H d st'
variable{r:Fl}
theorem PostS.later{D:Ends}(x:Ext ad H ad' H')(p:PostS K ad H r st D):PostS K ad' H' r st D:=by
 cases r with
 |nx ρ=>exact fun σ2 a2 H2 y S E=>p σ2 a2 H2 (x.trans y) S E
 |bk ρ=>exact fun σ2 a2 H2 y S E=>p σ2 a2 H2 (x.trans y) S E
 |ct ρ=>exact fun σ2 a2 H2 y S E=>p σ2 a2 H2 (x.trans y) S E
 |rt d=>exact⟨p.1.later x,p.2.later x⟩
theorem Y6{f:Ex}{D:Ends}(E:EnvOk K ad H σ ρ)(S:StOk K ad H st)(e:f ρ st=some (r,st'))(p:PostS K ad H r st' D):tS K f D σ H:=by
 refine⟨ad,ρ,st,r,st',E,S,e,?_⟩;cases r<;>exact p
theorem ZW{f:Ex}{D:Ends}(h:tS K f D σ H):∃ ad ρ st r st',EnvOk K ad H σ ρ/\StOk K ad H st/\f ρ st=some (r,st')/\PostS K ad H r st' D:=by
 obtain⟨ad,ρ,st,r,st',E,S,e,p⟩:=h;refine⟨ad,ρ,st,r,st',E,S,e,?_⟩;cases r<;>exact p
variable{E:Ends}{n:Nat}
section
variable {K:Fg}{f g:Ex}{fe fi fk:Ev}
theorem QA(D:Ends)(σ:L2.St)(H:Hp)(h:tS K (fun ρ st=>some (.nx ρ,st)) D σ H):tNext D σ H:=by
 obtain⟨ad,ρ,st,r,st',E,S,e,p⟩:=ZW h;cases e;exact p σ ad H (Ext.refl _ _) S E
theorem Ze9(D:Ends)(σ:L2.St)(H:Hp)(h:tS K (fun ρ st=>some (.bk ρ,st)) D σ H):tBreak D σ H:=by
 obtain⟨ad,ρ,st,r,st',E,S,e,p⟩:=ZW h;cases e;exact p σ ad H (Ext.refl _ _) S E
theorem ZcQ(D:Ends)(σ:L2.St)(H:Hp)(h:tS K (fun ρ st=>some (.ct ρ,st)) D σ H):tCont D σ H:=by
 obtain⟨ad,ρ,st,r,st',E,S,e,p⟩:=ZW h;cases e;exact p σ ad H (Ext.refl _ _) S E
theorem Zfk(D:Ends)(σ:L2.St)(H:Hp)(h:tS K (Y4 f g) D σ H):tSeq (tS K f) (tS K g) D σ H:=by
 obtain⟨ad,ρ,st,r,st',E,S,e,p⟩:=ZW h;unfold Y4 at e;split at e
 ·rename_i ρ1 st1 q
  exact Y6 E S q fun σ1 ad1 H1 x1 S1 E1=>Y6 E1 S1 e (p.later x1)
 ·rename_i q
  refine Y6 E S e ?_;cases r with
  |nx ρ1=>exact absurd e (q ρ1 st')
  |bk ρ1=>exact p
  |ct ρ1=>exact p
  |rt d=>exact p
theorem Zfj(D:Ends)(σ:L2.St)(H:Hp)(h:tS K (JQ fe) D σ H):tRet (tE K fe) D σ H:=by
 obtain⟨ad,ρ,st,r,st',E,S,e,p⟩:=ZW h;unfold JQ at e;split at e
 ·rename_i d st1 q
  cases e;exact⟨ad,ρ,st,d,_,E,S,q,p.1⟩
 ·exact Zb e
theorem UK(D:Ends)(σ:L2.St)(H:Hp)(h:tS K (VO i fe) D σ H):tAsg (tE K fe) (gName i) D σ H:=by
 obtain⟨ad,ρ,st,r,st',E,S,e,p⟩:=ZW h;unfold VO at e;split at e
 ·rename_i d st1 q
  cases e;exact⟨ad,ρ,st,d,_,E,S,q,fun v ad1 H1 x1 S1 d1=>p _ ad1 H1 x1 S1 ((E.mono x1).set i d1)⟩
 ·exact Zb e
theorem Zc2{l:Nat}(D:Ends)(σ:L2.St)(H:Hp)(h:tS K (QW i j l fe) D σ H):tAsg (tE K fe) (gTup K 3 (gCons (gName i) (gCons (gName j) (gCons (gName l) gNil)))) D σ H:=by
 obtain⟨ad,ρ,st,r,st',E,S,e,p⟩:=ZW h;unfold QW at e;split at e
 ·rename_i x y z st1 q
  cases e;refine⟨ad,ρ,st,_,_,E,S,q,fun v ad1 H1 x1 S1 d1=>?_⟩
  obtain⟨a,vs,rfl,ha,rv⟩:=d1.ofTup;cases rv with
  |cons d1 rv=>
   cases rv with
   |cons d2 rv=>
    cases rv with
    |cons d3 rv=>
     cases rv;exact⟨a,_,rfl,(ha).sq,rfl,_,_,rfl,_,_,rfl,_,_,rfl,rfl,p _ ad1 H1 x1 S1 ((((E.mono x1).set i d1).set j d2).set l d3)⟩
 ·exact Zb e
theorem Zb3{D:Ends}(En:EnvOk K ad H σ ρ)(e:Qc fe ρ st=some (r,st'))(p:PostS K ad H r st' D):∃ d,fe ρ st=some (d,st')/\Post K ad H d st' (fun _ H1=>D.nx σ H1)/\XPost XcK.E K ad H d st':=by
 unfold Qc at e;split at e
 ·rename_i k vs st1 q
  cases e;exact⟨_,q,fun v ad1 H1 _ _ d1=>(by cases d1),p.2⟩
 ·rename_i d st1 n q
  cases e;refine⟨d,q,fun v ad1 H1 x1 S1 _=>p σ ad1 H1 x1 S1 (En.mono x1),?_⟩
  unfold XPost;split
  ·exact(n _ _ rfl).elim
  ·exact(n _ _ rfl).elim
  ·trivial
 ·exact Zb e
theorem Zbs(D:Ends)(σ:L2.St)(H:Hp)(h:tS K (VN i fe) D σ H):tRaise (ClsTab.ca i) "line" XcK.E (tCons (tE K fe) tNil) D σ H:=by
 obtain⟨ad,ρ,st,r,st',E,S,e,p⟩:=ZW h;unfold VN at e;split at e
 ·rename_i k st1 q
  cases e;refine⟨ad,ρ,st,.int k,_,E,S,q,fun v ad1 H1 x1 S1 d1=>⟨v,rfl,fun e dx h1 h2 h3=>?_⟩⟩
  cases d1.ofInt;have h4:upd H1 dx (.xd [("line",.int k)]) e=none:=by rw[upd_ne (Ne.symm h3)];exact h1
  exact p.2 ad1 _ dx (x1.trans ((Ext.laid h2).trans (Ext.laid h4))) ((S1.laid h2).laid h4) (by unfold xSeen;rw[upd_ne h3,upd_same])
 ·exact Zb e
theorem Zfd(D:Ends)(σ:L2.St)(H:Hp)(h:tS K (W7 fe f g) D σ H):tIfS (tT K fe) (tS K f) (tS K g) D σ H:=by
 obtain⟨ad,ρ,st,r,st',E,S,e,p⟩:=ZW h;unfold W7 at e;split at e
 ·rename_i st1 q
  refine⟨ad,ρ,st,true,st1,E,S,q,fun ad1 H1 x1 S1=>?_⟩
  dsimp only;rw[if_pos rfl];exact Y6 (E.mono x1) S1 e (p.later x1)
 ·rename_i st1 q
  refine⟨ad,ρ,st,false,st1,E,S,q,fun ad1 H1 x1 S1=>?_⟩
  dsimp only;rw[if_neg Bf];exact Y6 (E.mono x1) S1 e (p.later x1)
 ·exact Zb e
theorem JW{a:Ad}(S:StOk K ad H st)(h:LA ad H i a):∃ b ds,st[i]?=some (b,ds):=by
 have hi:i < st.length:=by rw[<-S.len];exact(bE.mp h.1).1
 exact⟨st[i].1,st[i].2,by rw[Lg hi]⟩
theorem Zaa{st2:Za}{a:Ad}(S:StOk K ad H st)(h:LA ad H i a)(hd:Den K ad H v d)(e:Jd i d st=some st2) :
  ∃ xs,H a=some (.lst xs)/\xs.length < sizeLine/\Ext ad H ad (upd H a (.lst (xs++[v])))/\StOk K ad (upd H a (.lst (xs++[v]))) st2:=by
 unfold Jd at e;split at e
 ·rename_i ds q
  split at e
  ·rename_i hz
   cases e;obtain⟨xs,r,hx⟩:=S.listM h q;refine⟨xs,hx,?_,Ext.write hx (bG h.1),S.write h q hx (r.append (.cons hd .nil))⟩;rw[r.length];exact aJ hz (by decide)
  ·exact Zb e
 ·exact Zb e
theorem Ze8(D:Ends)(σ:L2.St)(H:Hp)(h:tS K (Zhp i fe) D σ H):tDrop (tBM K "list" rAppend (tVar i) (tCons (tE K fe) tNil)) D σ H:=by
 obtain⟨ad,ρ,st,r,st',E,S,e,p⟩:=ZW h;unfold Zhp at e;split at e
 ·rename_i a q0
  split at e
  ·rename_i d st1 q1
   split at e
   ·rename_i st2 q2
    cases e;obtain⟨v,e1,e2⟩:=E.at_ i _ q0;obtain⟨l,rfl,hl⟩:=e2.ofLst;obtain⟨b,ds,hc⟩:=JW S hl;obtain⟨xs,_,sq⟩:=S.list hl hc;refine⟨_,e1,.inl ⟨rfl,xs,sq⟩,ad,ρ,st,d,st1,E,S,q1,fun w ad1 H1 x1 S1 d1=>?_⟩
    obtain⟨ys,hy,hz,x2,S2⟩:=Zaa S1 (hl.mono x1) d1 q2;exact⟨l,ys,w,rfl,rfl,hy,hz,p _ ad1 _ (x1.trans x2) S2 (E.mono (x1.trans x2))⟩
   ·exact Zb e
  ·exact Zb e
 ·exact Zb e
theorem ZcP{fo:Ev}(D:Ends)(σ:L2.St)(H:Hp)(h:tS K (Qd fo fe) D σ H):tDrop (tBM K "list" rAppend (tE K fo) (tCons (tE K fe) tNil)) D σ H:=by
 obtain⟨ad,ρ,st,r,st',E,S,e,p⟩:=ZW h;unfold Qd at e;split at e
 ·rename_i a st0 q0
  split at e
  ·rename_i d st1 q1
   split at e
   ·rename_i st2 q2
    cases e;refine⟨ad,ρ,st,.lst a,st0,E,S,q0,fun v ad0 H0 x0 S0 d0=>?_⟩
    obtain⟨l,rfl,hl⟩:=d0.ofLst;obtain⟨b,ds,hc⟩:=JW S0 hl;obtain⟨xs,_,sq⟩:=S0.list hl hc;refine⟨.inl ⟨rfl,xs,sq⟩,ad0,ρ,st0,d,st1,E.mono x0,S0,q1,fun w ad1 H1 x1 S1 d1=>?_⟩
    obtain⟨ys,hy,hz,x2,S2⟩:=Zaa S1 (hl.mono x1) d1 q2;exact⟨l,ys,w,rfl,rfl,hy,hz,p _ ad1 _ ((x0.trans x1).trans x2) S2 (E.mono ((x0.trans x1).trans x2))⟩
   ·exact Zb e
  ·exact Zb e
 ·exact Zb e

theorem Zcy(r:Ents K ad H kvs ds):((YJ kvs).any fun kv=>decide (kv.1=Sum.inr x))=ds.any (isK x):=by
 induction r with
 |nil=>rfl
 |@cons k v d kvs ds h _ ih=>
  rw[show YJ ((k,v) :: kvs)=(Sum.inr k,v) :: YJ kvs from rfl,cN,cN,ih]
  congr 1
  show decide ((Sum.inr k:Key)=Sum.inr x)=decide (k=x);rw[cM];simp
theorem Xu(r:Ents K ad H kvs ds):kvs.length=ds.length:=by
 induction r with
 |nil=>rfl
 |cons _ _ ih=>rw[bA,bA,ih]
theorem V7(hd:Den K ad H v d)(r:Ents K ad H kvs ds):Ents K ad H (kvs++[(x,v)]) (ds++[.tup [.str x,d]]):=by
 induction r with
 |nil=>exact .cons hd .nil
 |cons h _ ih=>exact .cons h ih
theorem Zbl(r:Ents K ad H kvs ds)(n:ds.any (isK x)=false):putK (YJ kvs) (Sum.inr x) v=YJ (kvs++[(x,v)]):=by
 unfold putK;rw[Zcy r,if_neg (by rw[n];exact Bf)]
 simp
theorem Zbk(r:Ents K ad H kvs ds)(n:ds.any (isK x)=false):putF x v kvs=kvs++[(x,v)]:=by
 induction r with
 |nil=>rfl
 |@cons k w d kvs ds h _ ih=>
  rw[cN,Bool.or_eq_false_iff]at n;have ne:¬k=x:=of_decide_eq_false n.1;show(if k=x then (k,v) :: kvs else (k,w) :: putF x v kvs)=_
  rw[if_neg ne,ih n.2];rfl
theorem V6(r:Ents K ad H kvs ds):(∃ v d,(valV (YJ kvs) (Sum.inr x)=some v/\kvs.lookup x=some v)/\Yo ds x=some d/\Den K ad H v d)\/((valV (YJ kvs) (Sum.inr x)=none/\kvs.lookup x=none)/\Yo ds x=none):=by
 induction r with
 |nil=>exact .inr ⟨⟨rfl,rfl⟩,rfl⟩
 |@cons k w c kvs ds h _ ih=>
  by_cases q:k=x
  ·subst q
   exact .inl ⟨w,c,⟨valV_pos rfl,by rw[bB,beq_self_eq_true]⟩,by unfold Yo;rw[List.find?_cons_of_pos (show isK k (.tup [.str k,c])=true from aW rfl)];rfl,h⟩
  ·have e1:valV (YJ ((k,w) :: kvs)) (Sum.inr x)=valV (YJ kvs) (Sum.inr x):=valV_neg fun z=>q (Sum.inr.inj z)
   have e2:Yo (.tup [.str k,c] :: ds) x=Yo ds x:=by unfold Yo;rw[eC (show ¬isK x (.tup [.str k,c])=true from fun z=>q (of_decide_eq_true z))]
   have e3:List.lookup x ((k,w) :: kvs)=List.lookup x kvs:=by rw[bB,show(x==k)=false from bH.mpr fun z=>q z.symm]
   rw[e1,e2,e3];exact ih
theorem Zbm(r:Ents K ad H kvs ds):(valV (YJ kvs) (Sum.inr x)).isSome=(Yo ds x).isSome:=by
 rcases V6 (x:=x) r with⟨w,d0,e1,e2,e3⟩|⟨e1,e2⟩
 ·rw[e1.1,e2];rfl
 ·rw[e1.1,e2];rfl
theorem Uh{x k:Str}{v:V}:∀ {kvs:Li (Str×V)},kvs.lookup k=none->k≠x->(kvs++[(x,v)]).lookup k=none
 |[],_,h=>by show List.lookup k [(x,v)]=none;rw[bB,bH.mpr h];rfl
 | (y,w) :: r,e,h=>by
  rw[bB]at e;show List.lookup k ((y,w) :: (r++[(x,v)]))=none;rw[bB];cases q:k==y with
  |true=>rw[q]at e;cases e
  |false=>rw[q]at e;exact Uh e h
theorem Zfi(hx:fldNames.contains x=true)(D:Ends)(σ:L2.St)(H:Hp)(h:tS K (ZdR i (.cst (.str x)) fe) D σ H):sFld K (tVar i) (tE K fe) x D σ H:=by
 obtain⟨ad,ρ,st,r,st',E,S,e,p⟩:=ZW h;unfold ZdR at e;simp only at e;split at e
 ·rename_i d st1 q1
  split at e
  ·rename_i a q0
   split at e
   ·rename_i c es q2
    split at e
    ·rename_i hz
     cases e;obtain⟨v,e1,e2⟩:=E.at_ i _ q0;obtain⟨l,rfl,hl,n⟩:=e2.ofDic;refine⟨ad,ρ,st,d,st1,E,S,q1,fun w ad1 H1 x1 S1 d1=>⟨_,e1,?_⟩⟩
     obtain⟨j,dx,kvs,rfl,r,ho,_,oc,nf⟩:=S1.obj (x1.pre _ _ hl) ((x1.kd _ _ hl).mp n) q2;have xw:∀ fs,Ext ad1 H1 ad1 (upd H1 l (.ins (ClsTab.ca j) dx fs)):=fun fs=>Ext.writeM ho rfl rfl (bG (x1.pre _ _ hl))
     refine⟨l,_,dx,kvs,rfl,ho,oc.cl,oc.na x hx,by rw[Xu r];omega,?_⟩
     rw[Zbk r hz.2];exact p _ ad1 _ (x1.trans (xw _)) (S1.writeO (x1.pre _ _ hl) q2 ho oc (V7 d1 r) fun k hk=>Uh (nf k hk) fun z=>by rw[z,hx]at hk;cases hk) (E.mono (x1.trans (xw _)))
    ·exact Zb e
   ·exact Zb e
  ·exact Zb e
 ·exact Zb e
theorem ZcR(σ:L2.St)(H:Hp)(Q:VK)(h:tE K ZgH σ H Q):tDNewK K σ H Q:=by
 obtain⟨ad,ρ,st,d,st',E,S,e,p⟩:=h;cases e;intro q hq hk;exact p _ (ad++[q]) _ (S.extD hq hk) (S.pushD hq hk) (.dic (by rw[<-S.len];exact ZI) ⟨_,upd_same,rfl⟩)
theorem ZcS{fo:Ev}(D:Ends)(σ:L2.St)(H:Hp)(h:tS K (Qo fo fk fe) D σ H):tAsg (tE K fe) (gSub (tE K fo) (tE K fk) rSetK) D σ H:=by
 obtain⟨ad,ρ,st,r,st',E,S,e,p⟩:=ZW h;unfold Qo at e;split at e
 ·rename_i d st1 q1
  split at e
  ·rename_i a st2 q2
   split at e
   ·rename_i x st3 q3
    split at e
    ·rename_i ds q4
     split at e
     ·rename_i hz
      cases e;refine⟨ad,ρ,st,d,st1,E,S,q1,fun w ad1 H1 x1 S1 d1=>⟨ad1,ρ,st1,.dic a,st2,E.mono x1,S1,q2,fun w2 ad2 H2 x2 S2 d2=>⟨ad2,ρ,st2,.str x,st3,E.mono (x1.trans x2),S2,q3,fun w3 ad3 H3 x3 S3 d3=>?_⟩⟩⟩
      obtain⟨l,rfl,hl,n⟩:=d2.ofDic;cases d3.ofStr;obtain⟨kvs,r,ho,_⟩:=S3.dict (x3.pre _ _ hl) ((x3.kd _ _ hl).mp n) q4 hz.1;have xw:∀ fs,Ext ad3 H3 ad3 (upd H3 l (.dK fs)):=fun fs=>Ext.writeM ho rfl rfl (bG (x3.pre _ _ hl))
      refine⟨l,_,Sum.inr x,rfl,rfl,ho,by rw[aF,Xu r];exact aJ hz.2.1 (by decide),?_⟩
      rw[Zbl r hz.2.2];exact p _ ad3 _ (x1.trans (x2.trans (x3.trans (xw _)))) (S3.writeD (x3.pre _ _ hl) q4 ho (V7 (d1.mono (x2.trans x3)) r)) (E.mono (x1.trans (x2.trans (x3.trans (xw _)))))
     ·exact Zb e
    ·exact Zb e
   ·exact Zb e
  ·exact Zb e
 ·exact Zb e
def Left(K:Fg)(b:D->Env->Za->Ot (Fl×Za))(E:Ends)(xs:Li D)(σ:L2.St)(H:Hp):Prop:=∃ ad ρ st r st',EnvOk K ad H σ ρ/\StOk K ad H st/\Wp b xs ρ st=some (r,st')/\PostS K ad H r st' E
theorem Left.turn{b:Ex}{x:D}{xs:Li D}{H:Hp}(hv:∀ ad H,Den K ad H v x)(h:Left K (fun d ρ s=>b (Zi ρ i d) s) E (x :: xs) σ H) :
  tS K b { E with nx:=Left K (fun d ρ s=>b (Zi ρ i d) s) E xs,ct:=Left K (fun d ρ s=>b (Zi ρ i d) s) E xs,bk:=E.nx } (σ.set i (some v)) H:=by
 obtain⟨ad,ρ,st,r,st',En,S,e,p⟩:=h;unfold Wp at e;have En2:=En.set i (hv ad H);split at e
 ·rename_i ρ1 st1 q
  exact Y6 En2 S q fun σ1 ad1 H1 x1 S1 E1=>⟨ad1,ρ1,st1,r,st',E1,S1,e,p.later x1⟩
 ·rename_i ρ1 st1 q
  exact Y6 En2 S q fun σ1 ad1 H1 x1 S1 E1=>⟨ad1,ρ1,st1,r,st',E1,S1,e,p.later x1⟩
 ·rename_i ρ1 st1 q
  cases e;exact Y6 En2 S q fun σ1 ad1 H1 x1 S1 E1=>p σ1 ad1 H1 x1 S1 E1
 ·rename_i d st1 q
  cases e;exact Y6 En2 S q p
 ·exact Zb e
theorem Left.done{b:D->Env->Za->Ot (Fl×Za)}(h:Left K b E [] σ H):E.nx σ H:=by
 obtain⟨ad,ρ,st,r,st',En,S,e,p⟩:=h;cases e;exact p σ ad H (Ext.refl _ _) S En
noncomputable def Its(lo c:Int)(n:Nat):It:=⟨fun i _=>i < n,fun i H x H'=>H'=H/\x=.int (lo+(i:Int) * c),fun i _=>n<=i⟩
noncomputable def ZgK(ta:TA):TI:=fun σ H R=>ta σ H fun vs H1=>∃ (i j c:Int),(vs=[.int i,.int j]/\c=1\/vs=[.int i,.int j,.int c])/\ZP i j c=true/\R (Its i c (ZJ i j c)) H1
theorem ZcI{lo c:Int}{g:TG}{tb:TS}{D:Ends}{σ:L2.St}{H:Hp}(Pv:Nat->L2.St->Hp->Prop)(h0:Pv 0 σ H)(hs:∀ i σ H,i < n->Pv i σ H->g (.int (lo+(i:Int) * c)) σ H fun σ2 H2=>tb { D with nx:=Pv (i+1),ct:=Pv (i+1),bk:=D.nx } σ2 H2)(hd:∀ σ H,Pv n σ H->D.nx σ H) :
  ∃ W:Nat->Nat->L2.St->Hp->Prop,(∃ m,W 0 m σ H)/\∀ i m σ H,W i m σ H->
   ((Its lo c n).stop i H/\D.nx σ H)\/((Its lo c n).go i H/\∃ N:L2.St->Hp->Prop,(∀ σ' H',N σ' H'->∃ m',m' < m/\W (i+1) m' σ' H')/\∀ x H',(Its lo c n).yld i H x H'->g x σ H' fun σ2 H2=>tb { D with nx:=N,ct:=N,bk:=D.nx } σ2 H2):=by
 refine⟨fun i m σ H=>m=n - i/\i<=n/\Pv i σ H,⟨n,by simp,bT _,h0⟩,?_⟩
 rintro i m σ H ⟨rfl,hi,p⟩
 by_cases hlt:i < n
 ·refine .inr ⟨hlt,Pv (i+1),fun σ' H' p'=>⟨n - (i+1),by omega,rfl,hlt,p'⟩,fun x H' y=>?_⟩
  obtain⟨e,y⟩:=y;subst e y;exact hs i σ _ hlt p
 ·have e:i=n:=by omega
  subst e;exact .inl ⟨aD _,hd σ H p⟩
theorem QR(a b c:Int)(k:Nat)(h:k < ZJ a b c):((ZG a b c).map D.int).drop k=D.int (a+(k:Int) * c) :: ((ZG a b c).map D.int).drop (k+1):=by
 rw[dS (by simpa[ZG] using h)]
 simp[ZG]
theorem Zfp{i:Int}(h:ZjD d=some i):d=.int i:=by cases d<;>first | (cases h;done) | (cases h;rfl)
theorem QB:∀ {xs:Li D}{l:Li Int},Zc9 xs=some l->xs=l.map .int
 |[],_,h=>by cases h;rfl
 |x :: xs,l,h=>ZQ (P:=fun l=>x :: xs=l.map D.int) h fun i r hi hr=>by rw[Zfp hi,QB hr];rfl
theorem UN{x:D}{xs:Li Int}(h:UM x=some xs):∃ a b c,(x=.tup [.int a,.int b]/\c=1\/x=.tup [.int a,.int b,.int c])/\ZP a b c=true/\xs=ZG a b c:=by
 cases x<;>first | (cases h;done)|skip
 obtain⟨l,h1,h2⟩:=aO.mp h;rw[QB h1];cases l with
 |nil=>exact Zb h2
 |cons a l=>cases l with
  |nil=>exact Zb h2
  |cons b l=>cases l with
   |nil=>exact ZY h2 fun q h2=>by cases h2;exact⟨a,b,1,.inl ⟨rfl,rfl⟩,q,rfl⟩
   |cons c l=>cases l with
    |nil=>exact ZY h2 fun q h2=>by cases h2;exact⟨a,b,c,.inr rfl,q,rfl⟩
    |cons _ _=>exact Zb h2
theorem ZcU(E:Ends)(σ:L2.St)(H:Hp)(h:tS K (Qu i fi f) E σ H):tFor (ZgK (tA K fi)) (gName i) (tS K f) E σ H:=by
 obtain⟨ad,ρ,st,r,st',En,S,e,p⟩:=ZW h;unfold Qu at e;split at e
 ·rename_i x st1 q1
  split at e
  ·rename_i xs q2
   obtain⟨a,b,c,hx,ok,rfl⟩:=UN q2;have fin:∀ {ad1:Li Ad}{H1:Hp},Ext ad H ad1 H1->StOk K ad1 H1 st1->∃ W:Nat->Nat->L2.St->Hp->Prop,(∃ m,W 0 m σ H1)/\∀ k m σ H,W k m σ H->
     ((Its a c (ZJ a b c)).stop k H/\E.nx σ H)\/((Its a c (ZJ a b c)).go k H/\∃ N:L2.St->Hp->Prop,(∀ σ' H',N σ' H'->∃ m',m' < m/\W (k+1) m' σ' H')/\∀ x H',(Its a c (ZJ a b c)).yld k H x H'->gName i x σ H' fun σ2 H2=>tS K f { E with nx:=N,ct:=N,bk:=E.nx } σ2 H2):=fun {ad1 H1} x1 S1=>
    ZcI (fun k σ' H'=>Left K (fun d ρ s=>f (Zi ρ i d) s) E (((ZG a b c).map D.int).drop k) σ' H') ⟨ad1,ρ,st1,r,st',En.mono x1,S1,e,p.later x1⟩ (fun k σ' H' hk L=>by
     rw[QR _ _ _ _ hk]at L;exact L.turn fun _ _=>.int _) fun σ' H' L=>by
     rw[eD (by simp[ZG])]at L
     exact L.done
   rcases hx with⟨rfl,rfl⟩|rfl
   ·refine⟨ad,ρ,st,_,st1,En,S,q1,fun vs ad1 H1 x1 S1 d1=>⟨a,b,1,.inl ⟨?_,rfl⟩,ok,fin x1 S1⟩⟩
    cases d1 with
    |cons h1 d1=>
     cases d1 with
     |cons h2 d1=>cases d1;rw[h1.ofInt,h2.ofInt]
   ·refine⟨ad,ρ,st,_,st1,En,S,q1,fun vs ad1 H1 x1 S1 d1=>⟨a,b,c,.inr ?_,ok,fin x1 S1⟩⟩
    cases d1 with
    |cons h1 d1=>
     cases d1 with
     |cons h2 d1=>
      cases d1 with
      |cons h3 d1=>cases d1;rw[h1.ofInt,h2.ofInt,h3.ofInt]
  ·exact Zb e
 ·exact Zb e
theorem Qz{G:TG}{B:D->Env->Za->Ot (Fl×Za)}(E:Ends)(σ:L2.St)(H:Hp){ad:Li Ad}{ρ:Env}{st st1:Za}{l:Nat}{bb:Bool}{xs:Li D}(En:EnvOk K ad H σ ρ)(S:StOk K ad H st)(q1:fi ρ st=some (.lst l,st1))(q2:st1[l]?=some (bb,xs))(e:Z4 B l xs.length 0 ρ st1=some (r,st'))(p:PostS K ad H r st' E)(hG:∀ (x:D) (v:V) (σ:L2.St) (H:Hp) (ad:Li Ad) (ρ:Env) (st st1:Za) (r1:Fl) (E':Ends),EnvOk K ad H σ ρ->StOk K ad H st->Den K ad H v x->B x ρ st=some (r1,st1)->PostS K ad H r1 st1 E'->G v σ H fun σ2 H2=>tS K f E' σ2 H2) :
  tFor (iList K (tE K fi)) G (tS K f) E σ H:=by
 refine⟨ad,ρ,st,.lst l,st1,En,S,q1,fun v ad1 H1 x1 S1 d1=>?_⟩
 obtain⟨a,rfl,ha⟩:=d1.ofLst;obtain⟨vs,rv,sq⟩:=S1.list ha q2;refine⟨a,rfl,⟨vs,sq⟩,?_⟩;refine⟨fun k m σ' H'=>∃ ad2 ρ2 st2,(EnvOk K ad2 H' σ' ρ2/\StOk K ad2 H' st2/\LA ad2 H' l a)/\Z4 B l m k ρ2 st2=some (r,st')/\PostS K ad2 H' r st' E,⟨xs.length,ad1,ρ,st1,⟨En.mono x1,S1,ha⟩,e,p.later x1⟩,?_⟩
 rintro k m σ' H' ⟨ad2,ρ2,st2,⟨En2,S2,ha2⟩,e2,p2⟩
 obtain⟨b2,ys,hc⟩:=JW S2 ha2;obtain⟨ws,rw',sq2⟩:=S2.list ha2 hc;have stop:ys.length<=k->Z4 B l m k ρ2 st2=some (.nx ρ2,st2):=fun hk=>by
  cases m with
  |zero=>unfold Z4;simp only[hc];rw[if_pos hk]
  |succ m=>unfold Z4;simp only[hc,eB hk]
 by_cases hk:ys.length<=k
 ·refine .inl ⟨⟨ws,sq2,by rw[rw'.length];exact hk⟩,?_⟩
  rw[stop hk]at e2;cases e2;exact p2 σ' ad2 H' (Ext.refl _ _) S2 En2
 ·have hk':k < ys.length:=by omega
  have hy:ys[k]?=some ys[k]:=Lg hk';obtain⟨w,ew,dw⟩:=rw'.get hy;cases m with
  |zero=>
   unfold Z4 at e2;simp only[hc]at e2;rw[if_neg hk]at e2;cases e2
  |succ m=>
   unfold Z4 at e2;simp only[hc,hy]at e2;refine .inr ⟨⟨ws,w,sq2,ew⟩,fun σ3 H3=>∃ ad3 ρ3 st3,(EnvOk K ad3 H3 σ3 ρ3/\StOk K ad3 H3 st3/\LA ad3 H3 l a)/\Z4 B l m (k+1) ρ3 st3=some (r,st')/\PostS K ad3 H3 r st' E,fun σ3 H3 h3=>⟨m,Nat.lt_succ_self m,h3⟩,fun x H3 hx=>?_⟩
   obtain⟨rfl,hx⟩:=hx;have ex:=hx ws sq2;rw[ew]at ex;cases ex
   split at e2
   ·rename_i ρ3 st3 q
    exact hG _ _ _ _ ad2 ρ2 st2 _ _ _ En2 S2 dw q fun σ4 ad4 H4 x4 S4 E4=>⟨ad4,ρ3,st3,⟨E4,S4,ha2.mono x4⟩,e2,p2.later x4⟩
   ·rename_i ρ3 st3 q
    exact hG _ _ _ _ ad2 ρ2 st2 _ _ _ En2 S2 dw q fun σ4 ad4 H4 x4 S4 E4=>⟨ad4,ρ3,st3,⟨E4,S4,ha2.mono x4⟩,e2,p2.later x4⟩
   ·rename_i ρ3 st3 q
    cases e2;exact hG _ _ _ _ ad2 ρ2 st2 _ _ _ En2 S2 dw q fun σ4 ad4 H4 x4 S4 E4=>p2 σ4 ad4 H4 x4 S4 E4
   ·rename_i d st3 q
    cases e2;exact hG _ _ _ _ ad2 ρ2 st2 _ _ _ En2 S2 dw q p2
   ·exact Zb e2
theorem ZcW(E:Ends)(σ:L2.St)(H:Hp)(h:tS K (Jp i false fi f) E σ H):tFor (iList K (tE K fi)) (gName i) (tS K f) E σ H:=by
 obtain⟨ad,ρ,st,r,st',En,S,e,p⟩:=ZW h;unfold Jp at e;cases q1:fi ρ st with
 |none=>rw[q1]at e;cases e
 |some y=>
  obtain⟨x,st1⟩:=y;rw[q1]at e;cases x with
  |lst l=>
   have e:(match st1[l]? with
    |some (_,xs)=>Z4 (fun d ρ s=>f (Zi ρ i d) s) l xs.length 0 ρ st1
    |none=>none)=some (r,st'):=e
   cases q2:st1[l]? with
   |none=>rw[q2]at e;cases e
   |some c=>
    obtain⟨bb,xs⟩:=c;rw[q2]at e;refine Qz E σ H En S q1 q2 e p fun x v σ H ad ρ st st1 r1 E' En S dv e1 p1=>?_
    exact Y6 (En.set i dv) S e1 p1
  |_=>exact Zb e
theorem ZcT{G:TG}(E:Ends)(σ:L2.St)(H:Hp)(h:tS K (Qt fi) E σ H):tFor (iList K (tE K fi)) G (tS K f) E σ H:=by
 obtain⟨ad,ρ,st,r,st',En,S,e,p⟩:=ZW h;unfold Qt at e;split at e
 ·rename_i l st1 q1
  split at e
  ·rename_i q2
   cases e;exact Qz (B:=fun _ _ _=>none) E σ H En S q1 q2 (by show Z4 _ l 0 0 ρ _=_;unfold Z4;rw[q2];rfl) p fun x v σ H ad ρ st st1 r1 E' En S dv e1 p1=>nomatch e1
  ·exact Zb e
 ·exact Zb e
noncomputable def Itz(K:Fg)(a b:Ad):It:=
 ⟨fun i H=>∃ xs ys x y,SqL K H a xs/\SqT K H b ys/\xs[i]?=some x/\ys[i]?=some y,
  fun i H v H'=>∃ p x y,v=.ref p/\H p=none/\H'=upd H p (.tup [x,y])/\(∀ xs,SqL K H a xs->xs[i]?=some x)/\∀ ys,SqT K H b ys->ys[i]?=some y,
  fun i H=>∃ xs ys,SqL K H a xs/\SqT K H b ys/\min xs.length ys.length<=i⟩
noncomputable def ZhP(K:Fg)(ta:TA):TI:=fun σ H R=>ta σ H fun vs H1=>∃ a b,vs=[.ref a,.ref b]/\(∃ xs,SqL K H1 a xs)/\(∃ ys,SqT K H1 b ys)/\R (Itz K a b) H1
theorem Zdl{ok:Za->Prop}{B:D->D->Env->Za->Ot (Fl×Za)}{l:Li (D×D)}{z:Fl×Za}(e:ZN ok B l ρ st=some z):ok st:=by
 cases l with
 |nil=>
  unfold ZN at e;by_cases h:ok st
  ·exact h
  ·rw[if_neg h]at e;cases e
 |cons _ _=>
  unfold ZN at e;by_cases h:ok st
  ·exact h
  ·rw[if_neg h]at e;cases e
inductive LK(K:Fg)(ok:Za->Prop)(B:D->D->Env->Za->Option (Fl×Za))(qs:List (D×D))(Good:List Addr->Hp->Prop)(r:Fl)(st':Za)(E:Ends)(k m:Nat)(σ:L2.St)(H:Hp):Prop
 |mk {ad:List Addr}{ρ:Env}{st:Za} (hk:k+m=qs.length) (En:EnvOk K ad H σ ρ) (S:StOk K ad H st) (g:Good ad H) (e:ZN ok B (qs.drop k) ρ st=some (r,st')) (p:PostS K ad H r st' E):LK K ok B qs Good r st' E k m σ H
theorem VC{ok:Za->Prop}{qs:Li (D×D)}{Good:Li Ad->Hp->Prop}{J:It}(gm:∀ ad H ad' H',Ext ad H ad' H'->Good ad H->Good ad' H')(stop:∀ ad H st,Good ad H->StOk K ad H st->ok st->J.stop qs.length H)(go:∀ k ad H st q,Good ad H->StOk K ad H st->ok st->qs[k]?=some q->∃ w1 w2,J.go k H/\Den K ad H w1 q.1/\Den K ad H w2 q.2/\∀ x H',J.yld k H x H'->∃ pt,x=.ref pt/\H pt=none/\H'=upd H pt (.tup [w1,w2]))(k m:Nat)(σ:L2.St)(H:Hp)(h:LK K ok (fun x y ρ s=>f (Zi (Zi ρ i x) j y) s) qs Good r st' E k m σ H) :
  (J.stop k H/\E.nx σ H)\/(J.go k H/\∃ N:L2.St->Hp->Prop,(∀ σ' H',N σ' H'->∃ m',m' < m/\LK K ok (fun x y ρ s=>f (Zi (Zi ρ i x) j y) s) qs Good r st' E (k+1) m' σ' H')/\∀ x H',J.yld k H x H'->gTup K 2 (gCons (gName i) (gCons (gName j) gNil)) x σ H' fun σ2 H2=>tS K f { E with nx:=N,ct:=N,bk:=E.nx } σ2 H2):=by
 cases h with
 |@mk ad ρ st hkm En S g e p=>
  have ok2:=Zdl e;by_cases hk:qs.length<=k
  ·have hk':k=qs.length:=by omega
   subst hk';rw[List.drop_length]at e;unfold ZN at e;rw[if_pos ok2]at e;cases e;exact .inl ⟨stop _ _ _ g S ok2,p σ _ H (Ext.refl _ _) S En⟩
  ·have hk':k < qs.length:=Nat.lt_of_not_le hk
   obtain⟨w1,w2,hgo,dw1,dw2,hy⟩:=go k _ _ _ qs[k] g S ok2 (Lg hk');rw[dS hk']at e;unfold ZN at e;rw[if_pos ok2]at e;generalize qs[k]=q at e dw1 dw2;refine .inr ⟨hgo,LK K ok (fun x y ρ s=>f (Zi (Zi ρ i x) j y) s) qs Good r st' E (k+1) (m - 1),fun σ3 H3 h3=>⟨m - 1,by omega,h3⟩,fun x H3 hx=>?_⟩
   obtain⟨pt,rfl,hpt,rfl⟩:=hy x H3 hx;have xt:Ext ad H ad (upd H pt (.tup [w1,w2])):=Ext.laid hpt;have fin:∀ {rr:Fl}{s3:Za}{E':Ends},f (Zi (Zi ρ i q.1) j q.2) st=some (rr,s3)->PostS K ad (upd H pt (.tup [w1,w2])) rr s3 E'->gTup K 2 (gCons (gName i) (gCons (gName j) gNil)) (.ref pt) σ (upd H pt (.tup [w1,w2])) fun σ2 H2=>tS K f E' σ2 H2:=fun q pp=>
    ⟨pt,_,rfl,SqT.of upd_same,rfl,_,_,rfl,_,_,rfl,rfl,Y6 (((En.mono xt).set i (dw1.mono xt)).set j (dw2.mono xt)) (S.laid hpt) q pp⟩
   have nxt:∀ {ρ3:Env}{st3:Za},ZN ok (fun x y ρ s=>f (Zi (Zi ρ i x) j y) s) (qs.drop (k+1)) ρ3 st3=some (r,st')->∀ (σ4:L2.St) (ad4:Li Ad) (H4:Hp),Ext ad (upd H pt (.tup [w1,w2])) ad4 H4->StOk K ad4 H4 st3->EnvOk K ad4 H4 σ4 ρ3->LK K ok (fun x y ρ s=>f (Zi (Zi ρ i x) j y) s) qs Good r st' E (k+1) (m - 1) σ4 H4:=fun e3 σ4 ad4 H4 x4 S4 E4=>
    .mk (by omega) E4 S4 (gm _ _ _ _ (xt.trans x4) g) e3 (p.later (xt.trans x4))
   clear hy go stop hkm hk hk' hgo;split at e
   ·rename_i q0
    exact fin q0 (nxt e)
   ·rename_i q0
    exact fin q0 (nxt e)
   ·rename_i q0
    cases e;exact fin q0 fun σ4 ad4 H4 x4 S4 E4=>p σ4 ad4 H4 (xt.trans x4) S4 E4
   ·rename_i q0
    cases e;exact fin q0 (p.later xt)
   ·exact Zb e
theorem ZcX(E:Ends)(σ:L2.St)(H:Hp)(h:tS K (Vu i j fi f) E σ H):tFor (ZhP K (tA K fi)) (gTup K 2 (gCons (gName i) (gCons (gName j) gNil))) (tS K f) E σ H:=by
 obtain⟨ad,ρ,st,r,st',En,S,e,p⟩:=ZW h;unfold Vu at e;split at e
 ·rename_i la ys st1 q1
  split at e
  ·rename_i ca hca
   refine⟨ad,ρ,st,_,st1,En,S,q1,fun vs ad1 H1 x1 S1 d1=>?_⟩
   obtain⟨v1,v2,rfl,dv1,dv2⟩:∃ v1 v2,vs=[v1,v2]/\Den K ad1 H1 v1 (.lst la)/\Den K ad1 H1 v2 (.tup ys):=by
    cases d1 with
    |cons h1 d1=>
     cases d1 with
     |cons h2 d1=>cases d1;exact⟨_,_,rfl,h1,h2⟩
   obtain⟨a,rfl,ha⟩:=dv1.ofLst;obtain⟨b,ws,rfl,hb,rw0⟩:=dv2.ofTup;obtain⟨us,ru,squ⟩:=S1.list ha (show st1[la]?=some (ca.1,ca.2) from hca);refine⟨a,b,rfl,⟨us,squ⟩,⟨ws,hb.sq⟩,_,⟨_,.mk (Good:=fun ad H=>LA ad H la a/\TupAt K H b ws/\Dens K ad H ws ys) (bX _) (En.mono x1) S1 ⟨ha,hb,rw0⟩ e (p.later x1)⟩,VC (fun _ _ _ _ x g=>⟨g.1.mono x,g.2.1.mono x,g.2.2.mono x⟩) (fun ad H st g S o=>?_) fun k ad H st q g S o hq=>?_⟩
   ·obtain⟨us,ru,squ⟩:=S.list g.1 (show st[la]?=some (ca.1,ca.2) from o)
    exact⟨us,ws,squ,g.2.1.sq,by rw[ru.length,g.2.2.length];exact dF (dA ..).symm⟩
   ·obtain⟨us,ru,squ⟩:=S.list g.1 (show st[la]?=some (ca.1,ca.2) from o)
    obtain⟨h1,h2⟩:=List.getElem?_zip_eq_some.mp hq;obtain⟨w1,e1,d1⟩:=ru.get h1;obtain⟨w2,e2,d2⟩:=g.2.2.get h2;exact⟨w1,w2,⟨us,ws,w1,w2,squ,g.2.1.sq,e1,e2⟩,d1,d2,fun x H' ⟨pt,y1,y2,z1,z2,z3,hy1,hy2⟩=>⟨pt,z1,z2,by have z:=hy1 us squ;rw[e1]at z;cases z;have z:=hy2 ws g.2.1.sq;rw[e2]at z;cases z;exact z3⟩⟩
  ·exact Zb e
 ·exact Zb e
end
variable [ClsTab]
theorem XC:∀ {n:Nat}{xs:Li D}{i:Nat}{d:D},XB n xs=true->xs[i]?=some d->okD n d=true
 |_,[],_,_,_,e=>by simp at e
 |n,x :: xs,i,d,h,e=>by
  have h:(okD n x&&XB n xs)=true:=h;rw[Ba]at h;cases i with
  |zero=>simp at e;subst e;exact h.1
  |succ i=>exact XC (i:=i) h.2 (by simpa using e)
theorem WE:∀ {xs ys:Li D},YW xs ys=((List.range (min xs.length ys.length)).all (fun i=>Vm ((xs[i]?).getD .non) ((ys[i]?).getD .non))&&xs.length==ys.length)
 |[],[]=>rfl
 |[],_ :: _=>rfl
 |_ :: _,[]=>rfl
 |x :: xs,y :: ys=>by
  have ih:=@WE xs ys;show(Vm x y&&YW xs ys)=_;rw[ih];have e:min (x :: xs).length (y :: ys).length=min xs.length ys.length+1:=Nat.succ_min_succ _ _;rw[e,dU,aT,List.all_map];simp only[bA];have z:(xs.length+1==ys.length+1)=(xs.length==ys.length):=by
   rw[cM];simp
  rw[z,Bool.and_assoc];rfl
variable{pQ:Li (Ad×Obj)}{s:Sd}{A:Around}
section
variable {X:Cx}{ad:Li Ad}{H:Hp}
def Zi3(X:Cx)(ad:Li Ad)(H:Hp)(v:V)(x:D):Prop:=∀ n m y,okD n x=true->okD m y=true->Den X.K ad H v y->x=y
theorem WZ{n:Nat}{x:D}{P:Prop}(h:okD n x=true)(h0:∀ n,okD n x=false):P:=by rw[h0]at h;cases h
theorem ZdB(i n:Nat):okD n (.lst i)=false:=by cases n<;>rfl
theorem ZdA(i n:Nat):okD n (.dic i)=false:=by cases n<;>rfl
theorem ZdC(i n:Nat):okD n (.obj i)=false:=by cases n<;>rfl
theorem ZgX(ks:Li Str)(n:Nat):okD n (.kt ks)=false:=by cases n<;>rfl
theorem ZdD{xs:Li D}(h:okD n (.tup xs)=true):∃ m,XB m xs=true:=by
 cases n with
 |zero=>cases h
 |succ n=>exact⟨n,h⟩
theorem Den.injP(J:∀ (a:Ad) (xs ys:Li V),TupAt X.K H a xs->TupAt X.K H a ys->xs=ys){x:D}(h:Den X.K ad H v x):Zi3 X ad H v x:=
 Den.rec (motive_1:=fun v x _=>Zi3 X ad H v x) (motive_2:=fun vs xs _=>∀ n m ys,XB n xs=true->XB m ys=true->Dens X.K ad H vs ys->xs=ys)
  (fun _ _ _ _ _ h=>by cases h;rfl) (fun _ _ _ _ _ _ h=>by cases h;rfl) (fun _ _ _ _ _ _ h=>by cases h;rfl) (fun _ _ _ _ _ _ h=>by cases h;rfl)
  (fun e _ ih n m y hx hy h=>by
   obtain⟨n',hx⟩:=ZdD hx;cases h with
   |tup e' r'=>
    cases J _ _ _ e e'
    obtain⟨m',hy⟩:=ZdD hy;rw[ih n' m' _ hx hy r']
   |lst _=>exact WZ hy (ZdB _)
   |dic _ _=>exact WZ hy (ZdA _)
   |obj _ _ _=>exact WZ hy (ZdC _)
   |kt _ _ _ _ _ _=>exact WZ hy (ZgX _))
  (fun _ _ _ _ hx _ _=>WZ hx (ZdB _)) (fun _ _ _ _ _ hx _ _=>WZ hx (ZdA _)) (fun _ _ _ _ _ _ hx _ _=>WZ hx (ZdC _)) (fun _ _ _ _ _ _ _ _ _ hx _ _=>WZ hx (ZgX _))
  (fun _ _ _ _ _ h=>by cases h;rfl)
  (fun _ _ i1 i2 n m ys hx hy h=>by
   cases h with
   |cons a' r'=>
    have hx:=bJ.mp hx;have hy:=bJ.mp hy;rw[i1 n m _ hx.1 hy.1 a',i2 n m _ hx.2 hy.2 r']) h
theorem Den.inj(J:∀ (a:Ad) (xs ys:Li V),TupAt X.K H a xs->TupAt X.K H a ys->xs=ys){m:Nat}{x y:D}(hx:okD n x=true)(hy:okD m y=true)(h:Den X.K ad H v x)(h':Den X.K ad H v y):x=y:=h.injP J n m y hx hy h'
omit [ClsTab] in
theorem nof{C:Prop}(h:false=true):C:=nomatch h
open PySem.SeqAt in
theorem ZhI(I:Inv X pQ σ H s):∀ (n:Nat) (x y:D) (A:Around) (vx vy:V) (ux uy:vL),okD n x=true->okD n y=true->A.units+n < cLine->Den X.K ad H vx x->Den X.K ad H vy y->RelV vx ux->RelV vy uy->EqAt A s ux uy (Vm x y):=by
 intro n
 induction n with
 |zero=>
  intro x y A vx vy ux uy hx hy hu dx dy rx ry;cases dx with
  |non=>
   cases rx;cases dy with
   |non=>cases ry;exact EqAt.same _
   |int j=>obtain⟨t',rfl⟩:=ry;exact EqAt.none_int j t'
   |str j=>obtain⟨t',rfl⟩:=ry;exact EqAt.none_str j t'
   |_=>exact nof hy
  |int i=>
   obtain⟨t,rfl⟩:=rx;cases dy with
   |non=>cases ry;exact EqAt.int_none i t
   |int j=>obtain⟨t',rfl⟩:=ry;exact EqAt.int_int i t j t'
   |str j=>obtain⟨t',rfl⟩:=ry;exact EqAt.int_str i t j t'
   |_=>exact nof hy
  |str i=>
   obtain⟨t,rfl⟩:=rx;cases dy with
   |non=>cases ry;exact EqAt.str_none i t
   |int j=>obtain⟨t',rfl⟩:=ry;exact EqAt.str_int i t j t'
   |str j=>obtain⟨t',rfl⟩:=ry;exact EqAt.str_str i t j t'
   |_=>exact nof hy
  |_=>exact nof hx
 |succ n ih=>
  intro x y A vx vy ux uy hx hy hu dx dy rx ry;cases dx with
  |non=>
   cases rx;cases dy with
   |non=>cases ry;exact EqAt.same _
   |int j=>obtain⟨t',rfl⟩:=ry;exact EqAt.none_int j t'
   |str j=>obtain⟨t',rfl⟩:=ry;exact EqAt.none_str j t'
   |tup e r=>
    cases ry;obtain⟨its,_,p,_⟩:=I.tuple ((e).sq);exact EqAt.none_tuple p (by omega)
   |_=>exact nof hy
  |int i=>
   obtain⟨t,rfl⟩:=rx;cases dy with
   |non=>cases ry;exact EqAt.int_none i t
   |int j=>obtain⟨t',rfl⟩:=ry;exact EqAt.int_int i t j t'
   |str j=>obtain⟨t',rfl⟩:=ry;exact EqAt.int_str i t j t'
   |tup e r=>
    cases ry;obtain⟨its,_,p,_⟩:=I.tuple ((e).sq);exact EqAt.int_tuple i t p (by omega)
   |_=>exact nof hy
  |str i=>
   obtain⟨t,rfl⟩:=rx;cases dy with
   |non=>cases ry;exact EqAt.str_none i t
   |int j=>obtain⟨t',rfl⟩:=ry;exact EqAt.str_int i t j t'
   |str j=>obtain⟨t',rfl⟩:=ry;exact EqAt.str_str i t j t'
   |tup e r=>
    cases ry;obtain⟨its,_,p,_⟩:=I.tuple ((e).sq);exact EqAt.str_tuple i t p (by omega)
   |_=>exact nof hy
  |@tup a xs ds e r=>
   cases rx;obtain⟨its,rv,p,_⟩:=I.tuple ((e).sq);cases dy with
   |non=>cases ry;exact EqAt.tuple_none p (by omega)
   |int j=>obtain⟨t',rfl⟩:=ry;exact EqAt.tuple_int j t' p (by omega)
   |str j=>obtain⟨t',rfl⟩:=ry;exact EqAt.tuple_str j t' p (by omega)
   |@tup b ys es e' r'=>
    cases ry;by_cases hab:a=b
    ·subst hab
     have z:=Den.inj (fun _ _ _ e e2=>I.tuple_inj e.sq e2.sq) (n:=n+1) (m:=n+1) hx hy (Den.tup e r) (Den.tup e' r')
     cases z;rw[WD hx];exact EqAt.same _
    ·obtain⟨its',rv',p',_⟩:=I.tuple ((e').sq)
     refine EqAt.of_refs hab ?_;have q:=RcAt.tuples (A:=A) (s:=s) (e:=fun i=>Vm ((ds[i]?).getD .non) ((es[i]?).getD .non)) p p' (by omega) fun j h1 h2=>?_
     ·have e1:its.toArray.size=ds.length:=by rw[aL,<-rv.length,r.length]
      have e2:its'.toArray.size=es.length:=by rw[aL,<-rv'.length,r'.length]
      rw[e1,e2]at q;show RcAt A s (.ref a) (.ref b) (YW ds es);rw[WE];exact q
     ·have l1:j < ds.length:=by rw[<-r.length,rv.length];simpa using h1
      have l2:j < es.length:=by rw[<-r'.length,rv'.length];simpa using h2
      have g1:ds[j]?=some ds[j]:=Lg l1;have g2:es[j]?=some es[j]:=Lg l2;obtain⟨v1,q1,d1⟩:=r.get g1;obtain⟨v2,q2,d2⟩:=r'.get g2;obtain⟨u1,w1,r1⟩:=rv.get q1;obtain⟨u2,w2,r2⟩:=rv'.get q2;have f1:its.toArray[j]=u1:=by
       have:its[j]?=some (its[j]'(by simpa using h1)):=Lg _
       rw[w1]at this;simpa using(Option.some.inj this).symm
      have f2:its'.toArray[j]=u2:=by
       have:its'[j]?=some (its'[j]'(by simpa using h2)):=Lg _
       rw[w2]at this;simpa using(Option.some.inj this).symm
      rw[f1,f2,g1,g2];exact ih ds[j] es[j] A.in1 v1 v2 u1 u2 (XC hx g1) (XC hy g2) (by show A.units+1+n < cLine;omega) d1 d2 r1 r2
   |_=>exact nof hy
  |_=>exact nof hx
open PySem.SeqAt in
theorem Zdf(I:Inv X pQ σ H s){a b:Ad}{its its':Li vL}(hx:XB n ds=true)(hy:XB n es=true)(hu:A.units+n+1 < cLine)(r:Dens X.K ad H xs ds)(r':Dens X.K ad H ys es)(rv:Vals xs its)(rv':Vals ys its')(j:Nat)(h1:j < its.toArray.size)(h2:j < its'.toArray.size):EqAt A.in1 s its.toArray[j] its'.toArray[j] (Vm ((ds[j]?).getD .non) ((es[j]?).getD .non)):=by
 have l1:j < ds.length:=by rw[<-r.length,rv.length];simpa using h1
 have l2:j < es.length:=by rw[<-r'.length,rv'.length];simpa using h2
 have g1:ds[j]?=some ds[j]:=Lg l1;have g2:es[j]?=some es[j]:=Lg l2;obtain⟨v1,q1,d1⟩:=r.get g1;obtain⟨v2,q2,d2⟩:=r'.get g2;obtain⟨u1,w1,r1⟩:=rv.get q1;obtain⟨u2,w2,r2⟩:=rv'.get q2;have f1:its.toArray[j]=u1:=by
  have:its[j]?=some (its[j]'(by simpa using h1)):=Lg _
  rw[w1]at this;simpa using(Option.some.inj this).symm
 have f2:its'.toArray[j]=u2:=by
  have:its'[j]?=some (its'[j]'(by simpa using h2)):=Lg _
  rw[w2]at this;simpa using(Option.some.inj this).symm
 rw[f1,f2,g1,g2];exact ZhI I n ds[j] es[j] A.in1 v1 v2 u1 u2 (XC hx g1) (XC hy g2) (by show A.units+1+n < cLine;omega) d1 d2 r1 r2
open PySem.SeqAt in
theorem ZfU(I:Inv X pQ σ H s){a b:Ad}(hx:XB n ds=true)(hy:XB n es=true)(hu:A.units+n+1 < cLine)(e:TupAt X.K H a xs)(r:Dens X.K ad H xs ds)(e':TupAt X.K H b ys)(r':Dens X.K ad H ys es):RcAt A s (.ref a) (.ref b) (YW ds es)/\RcNeAt A s (.ref a) (.ref b) (!YW ds es):=by
 obtain⟨its,rv,p,_⟩:=I.tuple (e.sq);obtain⟨its',rv',p',_⟩:=I.tuple (e'.sq);have e1:its.toArray.size=ds.length:=by rw[aL,<-rv.length,r.length]
 have e2:its'.toArray.size=es.length:=by rw[aL,<-rv'.length,r'.length]
 have q:=RcAt.tuples (A:=A) (s:=s) (e:=fun i=>Vm ((ds[i]?).getD .non) ((es[i]?).getD .non)) p p' (by omega) fun j h1 h2=>Zdf (a:=a) (b:=b) I hx hy hu r r' rv rv' j h1 h2
 have q':=RcNeAt.tuples (A:=A) (s:=s) (e:=fun i=>Vm ((ds[i]?).getD .non) ((es[i]?).getD .non)) p p' (by omega) fun j h1 h2=>Zdf (a:=a) (b:=b) I hx hy hu r r' rv rv' j h1 h2
 rw[e1,e2]at q q';rw[WE];exact⟨q,q'⟩
end
end Dp



namespace Dp
open PySem PySem.Spec PyProof.Rows L2 Builtin Builtin.Str
variable [ClsTab]
variable{w:World}{x s y:Str}
section
variable {X:Cx}{tg:Expr}
noncomputable def Itx(x:Str):It:=⟨fun i _=>i < x.cps.size,fun i H v H'=>H'=H/\∃ c,x.cps[i]?=some c/\v=.str ⟨#[c]⟩,fun i _=>x.cps.size<=i⟩
theorem Zeh{P:Program}{K:Fg}(x:Str)(t:Tok)(it:Ad):Turn P w K tg (Itx x) [it] it (fun i h=>h.IsStrIter it "str_ascii_iterator" x t i) where
 mem:=by simp
 obj:=fun i h st b hb=>by
  have e:b=it:=by simpa using hb
  subst e;obtain⟨o,e,c,d⟩:=st;exact⟨o,e,fun v z=>by rw[d]at z;cases z⟩
 keep:=fun i h h' st k=>by
  obtain⟨o,e,c⟩:=st;exact⟨o,k it (by simp) o e,c⟩
 item:=by
  intro X hP hw hK hc i pQ s σ H E I hf st hg;subst hP hw hK;have hg:i < x.cps.size:=hg;have hx:x.cps[i]?=some x.cps[i]:=Array.getElem?_eq_getElem hg;obtain⟨f0,f1,f2,f3,f4,f5⟩:=hf it (by simp)
  refine wpAny_pyNext_ascii_item st hx fun h' st' sb=>?_
  have I1:Inv X pQ σ H { s with heap:=h',toks:=s.toks+1 }:=I.turned (t':=s.toks+1) (fun b o hb e=>(sb.2 b hb).trans e) f0 f1 f3 f4 f5
  obtain⟨o,e,c,d⟩:=id st';exact⟨_,rfl,go_of (s:={ s with heap:=h',toks:=s.toks+1 }) e c d (by decide) ⟨.str ⟨#[x.cps[i]]⟩,H,I1,⟨_,rfl⟩,⟨rfl,_,hx,rfl⟩,st',fun b hb=>(hf b hb).1⟩⟩
 done:=by
  intro X hP hw hK hc i pQ s σ H E I hf st hg;subst hP hw hK;have hg:x.cps.size<=i:=hg;obtain⟨f0,f1,f2,f3,f4,f5⟩:=hf it (by simp)
  exact wpAny_pyNext_ascii_end (I.ok.hd hc) st (Array.getElem?_eq_none hg) fun h' eb=>⟨rfl,I.turned (t':=s.toks) (fun b o hb e=>eb b o hb e) f0 f1 f3 f4 f5⟩
 self:=fun _ _ _ _ _ st h=>wpAny_pyIter_striter_ascii st h
noncomputable def ZjB(tl:TE):TI:=fun σ H R=>tl σ H fun x H1=>∃ z,x=.str z/\z.cps.all (fun c=>decide (c < 128))=true/\R (Itx z) H1
theorem Zik{l:Expr}{tl:TE}(hl:PE X l tl):PI X tg l (ZjB tl):=by
 intro pQ s σ H R I h;refine thn (hl pQ s σ H _ I h) fun v s1 ⟨x,H1,I1,r1,q1⟩=>?_
 obtain⟨z,e,hz,q⟩:=q1;subst e;obtain⟨t,rfl⟩:=r1;refine wpAny_pyIter_ascii hz ?_;refine⟨s1.heap.objs.size,[s1.heap.objs.size],_,_,H1,rfl,I1.kept (t':=s1.toks) fun b o e=>aH _ e,Zeh z t _,⟨_,aS _ rfl,rfl,rfl⟩,fun b hb=>?_,q⟩
 have e:b=s1.heap.objs.size:=by simpa using hb
 subst e;exact I1.fpOk (aD _) (I1.hok.fresh (aD _))
theorem ZbJ{xs:Li Nat}{a m:Nat}(h:a+m<=xs.length):((List.range m).map fun k=>a+k).filterMap (xs[·]?)=(xs.drop a).take m:=by
 apply List.ext_getElem?
 intro i
 induction m generalizing a i with
 |zero=>simp
 |succ m ih=>
  have ha:a < xs.length:=by omega
  rw[dU,aP,aV,List.filterMap_cons_some (b:=xs[a]) (by simp[ha]),dS ha,List.take_succ_cons]
  cases i with
  |zero=>rfl
  |succ i=>
   rw[List.getElem?_cons_succ,List.getElem?_cons_succ,<-ih (a:=a+1) (by omega) i]
   congr 2
   apply dB
   intro k _;show a+(k+1)=a+1+k;omega
theorem clip_eq(n d:Nat)(o:Ot Int)(hd:d<=n):(match o with
  |none=>(d:Int)
  |some i=>max 0 (min (if i < 0 then i+(n:Int) else i) (n:Int)))=((Dp.sIx n d o:Nat):Int)/\Dp.sIx n d o<=n:=by
 cases o with
 |none=>exact⟨rfl,hd⟩
 |some i=>
  show max 0 (min (if i < 0 then i+(n:Int) else i) (n:Int))=((if i < 0 then (i+n).toNat else Nat.min i.toNat n:Nat):Int)/\(if i < 0 then (i+n).toNat else Nat.min i.toNat n)<=n
  by_cases h:i < 0
  ·rw[if_pos h,if_pos h];omega
  ·rw[if_neg h,if_neg h]
   show max 0 (min i (n:Int))=((min i.toNat n:Nat):Int)/\min i.toNat n<=n;omega
theorem ZiN(x:Str)(lo hi:Ot Int):((strSliceIndices lo hi 1 x.length).filterMap (x.cps[·]?))=(x.cps.toList.drop (Dp.sIx x.length 0 lo)).take (Dp.sIx x.length x.length hi - Dp.sIx x.length 0 lo):=by
 obtain⟨e1,l1⟩:=clip_eq x.length 0 lo (bT _);obtain⟨e2,l2⟩:=clip_eq x.length x.length hi (aD _);have hl:x.cps.toList.length=x.length:=aZ;generalize Dp.sIx x.length 0 lo=a at *
 generalize Dp.sIx x.length x.length hi=b at *
 have e:strSliceIndices lo hi 1 x.length=sliceRange (a:Int) (b:Int) 1:=by
  rw[<-e1,<-e2];rfl
 rw[e];have er:sliceRange (a:Int) (b:Int) 1=(List.range (b - a)).map fun k=>a+k:=by
  have ec:(if (a:Int) < (b:Int) then ((b:Int) - (a:Int)+1 - 1) / 1 else 0).toNat=b - a:=by
   split
   ·rw[cX];omega
   ·show 0=b - a;omega
  show(List.range (if (a:Int) < (b:Int) then ((b:Int) - (a:Int)+1 - 1) / 1 else 0).toNat).map (fun(k:Nat)=>((a:Int)+1 * (k:Int)).toNat)=_
  rw[ec];apply dB
  intro k _;omega
 have ea:(fun i:Nat=>x.cps[i]?)=fun i=>x.cps.toList[i]?:=by funext i;simp
 rw[er,ea];by_cases hab:a<=b
 ·exact ZbJ (by omega)
 ·rw[show b - a=0 by omega];simp
theorem Zcp{lo hi:Ot Int}(h:(strSliceIndices lo hi 1 x.length).length=x.length):WF x lo hi=x:=by
 obtain⟨e1,l1⟩:=clip_eq x.length 0 lo (bT _);obtain⟨e2,l2⟩:=clip_eq x.length x.length hi (aD _);have hl:x.cps.toList.length=x.length:=aZ;unfold WF;generalize Dp.sIx x.length 0 lo=a at *
 generalize Dp.sIx x.length x.length hi=b at *
 have e:strSliceIndices lo hi 1 x.length=sliceRange (a:Int) (b:Int) 1:=by
  rw[<-e1,<-e2];rfl
 rw[e]at h;have h:((List.range (if (a:Int) < (b:Int) then ((b:Int) - (a:Int)+1 - 1) / 1 else 0).toNat).map (fun(k:Nat)=>((a:Int)+1 * (k:Int)).toNat)).length=x.length:=h
 rw[aF,bK]at h;have hk:(x.cps.toList.drop a).take (b - a)=x.cps.toList:=by
  split at h
  ·rw[cX]at h
   have:a=0:=by omega
   subst this;rw[List.drop_zero,eE (by omega)]
  ·have:x.cps.toList=[]:=List.eq_nil_of_length_eq_zero (by have:(0:Int).toNat=0:=rfl;omega)
   rw[this];simp
 rw[hk]
theorem ZiP:SlR X (fun x lo hi H Q=>∃ z,x=.str z/\z.length<=sizeLine/\Q (.str (WF z lo hi)) H):=by
 intro pQ s σ H x v vl vu lo hi sl Q I rx hs pl pu h;obtain⟨z,rfl,hz,q⟩:=h;obtain⟨t,rfl⟩:=rx;have pv:∀ {v:vL}{o:Ot Int},IsPart v o->∃ l:Ot (Int×Tok),v=partValue l/\l.map (·.1)=o:=fun {v o} p=>by
  cases p with
  |none=>exact⟨none,rfl,rfl⟩
  |int i t=>exact⟨some (i,t),rfl,rfl⟩
 obtain⟨l,rfl,el⟩:=pv pl;obtain⟨u,rfl,eu⟩:=pv pu;refine⟨"str",_,slot_str_getitem.lookup,typeIs_str s z t,wpAny_getItem_str_slice (l:=l) (u:=u) (st:=none) hs rfl ?_⟩;unfold sliceMade slicePicked;rw[el,eu];show(if ((1:Int)==1&&(strSliceIndices lo hi 1 z.length).length==z.length)=true then Made.val (.str z t) else Made.str ⟨((strSliceIndices lo hi 1 z.length).filterMap (z.cps[·]?)).toArray⟩).post _ s
 by_cases hw:((1:Int)==1&&(strSliceIndices lo hi 1 z.length).length==z.length)=true
 ·rw[if_pos hw]
  have hw':(strSliceIndices lo hi 1 z.length).length=z.length:=by simpa using hw
  rw[Zcp hw']at q;exact⟨.str z,H,I,⟨t,rfl⟩,q⟩
 ·rw[if_neg hw,ZiN]
  refine⟨?_,.str (WF z lo hi),H,I.tok _,⟨_,rfl⟩,q⟩;have:((z.cps.toList.drop (Dp.sIx z.length 0 lo)).take (Dp.sIx z.length z.length hi - Dp.sIx z.length 0 lo)).length<=z.cps.toList.length:=by
   rw[cG,cP];omega
  have hl:z.cps.toList.length=z.length:=aZ;show(List.toArray _).size<=_;rw[aL];omega
theorem ZcE{l:Li Nat}(h:Vz l=true):PySem.NumText.AllDigits l/\l≠[]/\l.length<=600:=by
 unfold Vz at h;simp only[Ba,bR,cR,List.isEmpty_eq_false_iff,bY]at h;refine⟨fun c hc=>?_,h.1.1,h.2⟩
 have:=h.1.2 c hc;unfold Zfq at this;simpa using this
theorem Zc8{i:Int}(h:Wn x=some i):PySem.intText? x=some i/\x.length<=640:=by
 have hl:x.cps.toList.length=x.length:=aZ;unfold Wn at h;split at h
 ·rename_i r e
  split at h
  ·rename_i hf
   cases h;obtain⟨h1,h2,h3⟩:=ZcE hf;have hx:x.length<=601:=by rw[<-hl,e,bA];omega
   exact⟨PySem.intText_neg e h1 h2 (by omega),by omega⟩
  ·exact Zb h
 ·rename_i l _
  split at h
  ·rename_i hf
   cases h;obtain⟨h1,h2,h3⟩:=ZcE hf;have hx:x.length<=601:=by rw[<-hl];omega
   exact⟨PySem.intText_digits h1 h2 (by omega),by omega⟩
  ·exact Zb h
theorem Za5:CallR X (.type "int") (fun xs H Q=>∃ x i,xs=[.str x]/\Wn x=some i/\Q (.int i) H):=by
 intro pQ s σ H xs us Q I r h;obtain⟨x,i,rfl,hi,q⟩:=h;obtain⟨u,rfl,t,rfl⟩:=vals1 r;obtain⟨h1,h2⟩:=Zc8 hi;exact PySem.W.KIN.call_text h1 h2 ⟨.int i,H,I.tok _,⟨_,rfl⟩,q⟩
theorem Zba:CallR X (.type "str") (fun xs H Q=>∃ i,xs=[.int i]/\ZM i=true/\Q (.str (Str.ofString (toString i))) H):=by
 intro pQ s σ H xs us Q I r h;obtain⟨i,rfl,hi,q⟩:=h;obtain⟨u,rfl,t,rfl⟩:=vals1 r;refine PySem.P.str_of_int ?_ ⟨.str (Str.ofString (toString i)),H,I.tok _,⟨_,rfl⟩,q⟩;unfold ZM at hi;simp only[Ba,bR]at hi;by_cases h0:i.natAbs=0
 ·rw[h0];decide
 ·have:i.natAbs < 2 ^ 64:=by omega
  have:=(Nat.log2_lt h0).mpr this;omega
theorem ZbE:MtR X "str.startswith" (fun x xs H Q=>∃ z y,x=.str z/\xs=[.str y]/\Q (.bl (stW z y)) H):=by
 intro pQ s σ H x xs v us Q I rx r h;obtain⟨z,y,rfl,rfl,q⟩:=h;obtain⟨t,rfl⟩:=rx;obtain⟨u,rfl,t',rfl⟩:=vals1 r;refine PySem.SC.startswith ⟨.bl (stW z y),H,I,?_,q⟩;show Value.bool _=Value.bool _
 congr 1
 show(decide (0+y.length<=z.length)&&z.cps.extract 0 (0+y.length)==y.cps)=(z.cps.toList.take y.cps.toList.length==y.cps.toList);have hl:z.cps.toList.length=z.length:=aZ;have hy:y.cps.toList.length=y.length:=aZ;have ee:(z.cps.extract 0 (0+y.length)).toList=z.cps.toList.take y.length:=by simp
 rw[hy,cM,Ba,bR,beq_iff_eq,beq_iff_eq,<-ee];constructor
 ·rintro⟨_,h⟩;rw[h]
 ·intro h
  have h':=Array.ext' h;refine⟨?_,h'⟩;have:=congrArg List.length h;rw[ee,cG,hy]at this;omega
theorem VA{s:Str}:∀ (xs:Li Str) (n:Nat),xs.foldl (fun a p=>a+p.length+s.length) n=n+(Z6 s xs).length
 |[],n=>rfl
 |x :: xs,n=>by
  rw[List.foldl_cons,VA xs];show _=n+((s.cps.toList++x.cps.toList)++Z6 s xs).length;have hx:x.cps.toList.length=x.length:=aZ;have hs:s.cps.toList.length=s.length:=aZ;rw[aI,aI,hx,hs];omega
theorem Vw{s:Str}:∀ (xs:Li Str) (acc:Array Nat),xs.foldl (fun acc p=>acc++s.cps++p.cps) acc=(acc.toList++Z6 s xs).toArray
 |[],acc=>by simp[Z6]
 |x :: xs,acc=>by
  rw[List.foldl_cons,Vw xs];simp[Z6]
theorem V9(xs:Li Str):glued s xs=⟨(Xv s xs).toArray⟩:=by
 cases xs with
 |nil=>rfl
 |cons x xs=>
  unfold glued;rw[List.drop_one,List.tail_cons,List.headD_cons,Vw];rfl
theorem Vv{s:Str}(h:s.length=0):∀ (xs:Li Str),Z6 s xs=W5 xs
 |[]=>rfl
 |x :: xs=>by
  have hs:s.cps.toList=[]:=List.eq_nil_of_length_eq_zero (aZ.trans h);show(s.cps.toList++x.cps.toList)++Z6 s xs=x.cps.toList++W5 xs;rw[hs,Vv h xs];rfl
theorem ZcL(h:s.length=0)(xs:Li Str):Xv s xs=W5 xs:=by
 cases xs with
 |nil=>rfl
 |cons x xs=>show x.cps.toList++Z6 s xs=x.cps.toList++W5 xs;rw[Vv h]
theorem Uw:∀ {ys:Li Str}{its:Li vL},Vals (ys.map V.str) its->∃ l:Li (Str×Tok),its=strValues l/\l.map (·.1)=ys
 |[],_,.nil=>⟨[],rfl,rfl⟩
 |y :: ys,_,.cons ⟨t,e⟩ r=>by
  obtain⟨l,rfl,h⟩:=Uw r;exact⟨(y,t) :: l,by rw[e];rfl,by rw[aP,h]⟩
theorem Zfz:MtR X "str.join" (fun x xs H Q=>∃ z a ys,x=.str z/\xs=[.ref a]/\SqL X.K H a (ys.map V.str)/\(Z6 z ys).length<=Ze/\Q (.str ⟨(Xv z ys).toArray⟩) H):=by
 intro pQ s σ H x xs v us Q I rx r h;obtain⟨z,a,ys,rfl,rfl,sq,hl,q⟩:=h;obtain⟨t,rfl⟩:=rx;obtain⟨u,rfl,r1⟩:=vals1 r;cases r1;obtain⟨its,rv,p,hn⟩:=I.list sq;obtain⟨l,rfl,el⟩:=Uw rv;refine PySem.SC.join p.isList el ?_ fun t' k=>⟨.str ⟨(Xv z ys).toArray⟩,H,I.tok _,⟨t',?_⟩,q⟩
 ·unfold JoinOk tooLong
  rw[List.foldl_toArray,VA];have:Ze<=sizeLine:=by decide
  simp;omega
 ·show Value.str (glued z ys) t'=_
  rw[V9]
theorem Qw{s:Str}(h:s.length=1):∀ xs:Li Str,xs.length<=(Z6 s xs).length
 |[]=>bT _
 |x :: r=>by
  have:=Qw h r;have e:s.cps.toList.length=1:=by rw[aZ];exact h
  show r.length+1<=((s.cps.toList++x.cps.toList)++Z6 s r).length;rw[aI,aI];omega
theorem QE(xs:Li Str):Str.join s xs=⟨(Xv s xs).toArray⟩:=by rw[<-StrLaws.glued_eq_join];exact V9 xs
theorem Uu(h:y.length=1):(Txt.split x y).length<=x.length+1:=by
 have e:=congrArg (fun z:Str=>z.cps.toList.length) (StrLaws.join_split x y)
 simp only[QE]at e;cases q:Txt.split x y with
 |nil=>exact bT _
 |cons a r=>
  rw[q]at e;have g:=Qw h r;have e:(a.cps.toList++Z6 y r).length=x.cps.toList.length:=e;rw[aI,aZ]at e;show r.length+1<=x.cps.size+1;rw[<-aZ];omega
theorem Zd8(h:y.length=1):Txt.split x y=XJ x y:=by
 obtain⟨⟨l⟩⟩:=y;obtain⟨c,rfl⟩:∃ c,l=[c]:=by
  match l,(show l.length=1 from h) with
  |[c],_=>exact⟨c,rfl⟩
 have e:=StrLaws.join_split x ⟨#[c]⟩;have f:=StrLaws.split_free x c;have n:Txt.split x ⟨#[c]⟩≠[]:=by
  unfold Txt.split;split
  ·exact dI _ _
  ·split
   ·exact dI _ _
   ·unfold partsBetween
    cases occurrences x ⟨#[c]⟩ 0 x.length (x.length+1)<;>exact dI _ _
 generalize Txt.split x ⟨#[c]⟩=L at e f n;have h0:x.cps.toList=Xv ⟨#[c]⟩ L:=by rw[QE]at e;rw[<-e]
 have g:=VT n f;show L=(XW c x.cps.toList).map fun l=>⟨l.toArray⟩
 rw[h0,g,aV];exact(List.map_id L).symm
theorem Q2:∀ l:Li (Str×Tok),Vals ((l.map (·.1)).map V.str) (strValues l)
 |[]=>.nil
 | (y,t) :: l=>.cons ⟨t,rfl⟩ (Q2 l)
theorem ZbM{prog:Program}{A:Around}{E:vL->Sd->Prop}{s:Sd}{t u:Tok}{Q:vL->Sd->Prop}(hy:y.length=1)(hz:x.length<=Ze)(hq:∀ (l:Li (Str×Tok)) (k:Nat),l.map (·.1)=Txt.split x y->Q (.ref s.heap.objs.size) { s with heap:=s.heap.push { cls:=.type "list",data:=.seq (strValues l).toArray },toks:=k }):wpAny (model prog w) A (call (.builtin "str.split") [.str x t,.str y u]) Q E s:=by
 have hy0:(y.length==0)=false:=by rw[hy];rfl
 have hs:x.length<=sizeLine:=aG hz (by decide)
 have hl:=Uu (x:=x) hy;cases h1:(decide (x.length < y.length)||decide (strKind x < strKind y)) with
 |true=>exact call_meets F.slot_str_split (typeIs_str _ _ _) F.entry_str_split (F.args_str_split_2 _ _) (meets_str_split_cannot_occur x y t u h1) (hq [(x,t)] s.toks (if_pos h1).symm)
 |false=>
  cases hf:(occurrences x y 0 x.length (x.length+1)).isEmpty with
  |true=>exact call_meets F.slot_str_split (typeIs_str _ _ _) F.entry_str_split (F.args_str_split_2 _ _) (meets_str_split_not_found x y t u h1 hy0 hf) (hq [(x,t)] s.toks ((if_neg (ne_true_of_eq_false h1)).trans (if_pos hf)).symm)
  |false=>
   have e:Txt.split x y=partsBetween x (occurrences x y 0 x.length (x.length+1)) y.length:=(if_neg (ne_true_of_eq_false h1)).trans (if_neg (ne_true_of_eq_false hf));refine call_meets F.slot_str_split (typeIs_str _ _ _) F.entry_str_split (F.args_str_split_2 _ _) (meets_str_split_sep x y t u h1 hy0 hf hs (by rw[<-e];exact aG hl (aG (Nat.succ_le_succ hz) (by decide)))) ?_
   have g:=hq (numbered s.toks (Txt.split x y)) (s.toks+(Txt.split x y).length) (numbered_texts _ _);rw[e,<-strsFrom_eq]at g;exact g
theorem Zdo:MtR X "str.split" (fun x xs H Q=>∃ z y,x=.str z/\xs=[.str y]/\(y.length=1/\z.length<=Ze)/\∀ p,H p=none->Q (.ref p) (upd H p (.lst ((XJ z y).map V.str)))):=by
 intro pQ s σ H x xs v us Q I rx r h;obtain⟨z,y,rfl,rfl,c,q⟩:=h;obtain⟨t,rfl⟩:=rx;obtain⟨u,rfl,t',rfl⟩:=vals1 r;refine ZbM c.1 c.2 fun l k e=>?_
 have fr:H s.heap.objs.size=none:=I.hok.fresh (aD _);rw[<-Zd8 c.1]at q;have hl:=Uu (x:=z) c.1;refine⟨.ref s.heap.objs.size,_,I.laid (t':=k) (o:=.lst ((Txt.split z y).map V.str)) (fun b o q=>aH _ q) (aD _) ⟨by rw[aF];exact aG hl (aG (Nat.succ_le_succ c.2) (by decide)),strValues l,_,by rw[<-e];exact Q2 l,aS _ rfl⟩,rfl,q _ fr⟩
end
end Dp



namespace Dp
open PySem PySem.Spec PyProof.Rows L2
variable [ClsTab]
variable{X:Cx}{pQ:Li (Ad×Obj)}{s:Sd}{σ:L2.St}{H:Hp}{Q:VK}
section
open Builtin
open AutoSeq1 (wpAny_loadPart')
theorem WL:fillsNumberSlot (.type "tuple") "mul"=pure false:=
 PySem.fillsNumberSlot_seq (id := "tuple.__mul__") (r:=some (.builtin "tuple.__rmul__")) F.slot_tuple_mul.lookup (by decide +kernel) F.slot_tuple_rmul.lookup (by decide +kernel)
theorem U1:seqRepeat? (.type "tuple")=pure (some (.builtin "tuple.__mul__")):=by
 unfold seqRepeat?
 rw[PySem.seqSlot_of (T := "tuple") (name := "__mul__") (id := "tuple.__mul__") F.slot_tuple_mul.lookup (by decide +kernel),PySem.seqSlot_of (T := "tuple") (name := "__rmul__") (id := "tuple.__rmul__") F.slot_tuple_rmul.lookup (by decide +kernel)]
 rfl
theorem JR(a:Int)(t:Tok)(l:Ad)(items:Array vL)(n:Nat)(dd:Ot Ad)(sl:Array (Ot vL)):Meets (Builtin.«int.__rmul__» ⟨[.int a t,.ref l],[]⟩) (fun _ R s=>s.heap.get? l=some { cls:=.type "tuple",dict:=dd,data:=.seq items n,slots:=sl }/\R (.ok (.ret Value.notImplemented)) s):=
 .of_wp fun prog w A R s h=>by obtain⟨hp,g,d,tk,os⟩:=s;obtain⟨hl,h⟩:=h;wp_walk;exact⟨_,rfl,h⟩
theorem Zef(l:Ad)(items:Array vL)(n:Nat)(dd:Ot Ad)(sl:Array (Ot vL))(u:Tok) :
  Meets (Builtin.«tuple.__mul__» ⟨[.ref l,.int 1 u],[]⟩) (fun _ R s=>s.heap.get? l=some { cls:=.type "tuple",dict:=dd,data:=.seq items n,slots:=sl }/\R (.ok (.ret (Value.ref l))) s):=
 .of_wp fun prog w A R s h=>by
  obtain⟨hp,g,d,tk,os⟩:=s;obtain⟨hl,h⟩:=h;have f1:=AutoSeq1.idx_int;wp_walk using wpAny_loadPart' hl;exact⟨_,rfl,h⟩
theorem Zee(l:Ad)(items:Array vL)(n:Nat)(dd:Ot Ad)(sl:Array (Ot vL))(k:Int)(u:Tok)(h0:¬items.isEmpty=true)(h1:k<=0)(h2:-1000<=k) :
  Meets (Builtin.«tuple.__mul__» ⟨[.ref l,.int k u],[]⟩) (fun _ R s=>s.heap.get? l=some { cls:=.type "tuple",dict:=dd,data:=.seq items n,slots:=sl }/\R (.ok (.ret (Value.ref s.heap.objs.size))) { s with heap:=s.heap.push { cls:=.type "tuple",data:=.seq #[] } }):=
 .of_wp fun prog w A R s h=>by
  obtain⟨hp,g,d,tk,os⟩:=s;obtain⟨hl,h⟩:=h;have f1:=AutoSeq1.idx_int;have a1:(decide (k < -(2 ^ 63))||decide (k>=2 ^ 63))=false:=by rw[aK (by omega),aK (by omega)];rfl
  have a2:(items.isEmpty||k==1)=false:=by
   have:(k==1)=false:=by rw[bH];omega
   rw[this,cQ];simpa using h0
  have a3:(decide (k<=0)||items.isEmpty)=true:=by rw[aW h1];rfl
  wp_walk using wpAny_loadPart' hl
  refine wpAny_ite_false (by rw[a1];rfl) ?_
  wp_walk using wpAny_loadPart' hl
  refine wpAny_ite_false (by rw[a2];rfl) ?_
  wp_walk using wpAny_loadPart' hl
  exact⟨_,rfl,h⟩
theorem Zeg(l:Ad)(items:Array vL)(n:Nat)(dd:Ot Ad)(sl:Array (Ot vL))(k:Int)(u:Tok)(h0:items.size=1)(h1:2<=k)(h2:k<=1000) :
  Meets (Builtin.«tuple.__mul__» ⟨[.ref l,.int k u],[]⟩) (fun _ R s=>s.heap.get? l=some { cls:=.type "tuple",dict:=dd,data:=.seq items n,slots:=sl }/\R (.ok (.ret (Value.ref s.heap.objs.size))) { s with heap:=s.heap.push { cls:=.type "tuple",data:=.seq ((List.replicate k.toNat items).foldl (fun x1 x2=>x1++x2) #[]) } }):=
 .of_wp fun prog w A R s h=>by
  obtain⟨hp,g,d,tk,os⟩:=s;obtain⟨hl,h⟩:=h;have f1:=AutoSeq1.idx_int;have a1:(decide (k < -(2 ^ 63))||decide (k>=2 ^ 63))=false:=by rw[aK (by omega),aK (by omega)];rfl
  have ae:items.isEmpty=false:=by
   rw[Array.isEmpty_eq_false_iff];intro z;rw[z]at h0;simp at h0
  have a2:(items.isEmpty||k==1)=false:=by
   have:(k==1)=false:=by rw[bH];omega
   rw[this,cQ];exact ae
  have a3:(decide (k<=0)||items.isEmpty)=false:=by rw[aK (by omega),ae];rfl
  have a4:decide ((items.size:Int) * k > (2 ^ 63 - 1) / 8)=false:=by rw[h0];exact aK (by omega)
  have a5:Tuple.tupleTooMany ((items.size:Int) * k)=false:=by
   unfold Tuple.tupleTooMany;rw[h0];exact aK (by have:(sizeLine:Int)>=1000:=(by decide);omega)
  have a6:decide (((List.replicate k.toNat items).foldl (fun x1 x2=>x1++x2) #[]).size > sizeLine)=false:=by
   rw[AutoListH.size_joined];refine aK ?_;have:sizeLine>=1000:=by decide
   simp only[h0,Array.size_empty];omega
  wp_walk using wpAny_loadPart' hl
  refine wpAny_ite_false (by rw[a1];rfl) ?_
  wp_walk using wpAny_loadPart' hl
  refine wpAny_ite_false (by rw[a2];rfl) ?_
  wp_walk using wpAny_loadPart' hl
  refine wpAny_ite_false (by rw[a3];rfl) ?_
  wp_walk using wpAny_loadPart' hl
  refine wpAny_ite_false a4 ?_
  wp_walk using wpAny_loadPart' hl
  refine wpAny_ite_false (by rw[a5];rfl) ?_
  wp_walk using wpAny_loadPart' hl
  exact⟨_,rfl,h⟩
theorem ZfW{a:Ad}{v:V}{k:Int}{t:Tok}(I:L2.Inv X pQ σ H s)(ha:TupAt X.K H a [v])(h1:k<=1000)(h2:-1000<=k)(q1:k=1->Q (.ref a) H)(q2:∀ p,H p=none->Q (.ref p) (upd H p (.tup (List.replicate k.toNat v)))):wpAny (model X.prog X.w) X.A (binaryOp .Mult (.ref a) (.int k t)) (EP X pQ σ Q) X.xe s:=by
 obtain⟨its,r,p1,_⟩:=I.tuple (ha.sq);obtain⟨u,rfl,ru⟩:=r.one;obtain⟨⟨c1,dd,dt,sl⟩,ho,hc,n,hd⟩:=id p1;simp only at hc hd;subst hc hd;have fin:∀ its':Li vL,Vals (List.replicate k.toNat v) its'->EP X pQ σ Q (.ref s.heap.objs.size) { s with heap:=s.heap.push { cls:=.type "tuple",data:=.seq its'.toArray } }:=fun its' r'=>
  ⟨.ref s.heap.objs.size,_,I.laid (t':=s.toks) (o:=.tup (List.replicate k.toNat v)) (fun b ob q=>aH _ q) (aD _) ⟨by rw[bQ];exact aG (show k.toNat<=1000 by omega) (by decide),its',r',IsTup.new _ _⟩,rfl,q2 _ (I.hok.fresh (aD _))⟩
 refine wpAny_binaryOp_repeat_ref (T := "tuple") (U := "int") (by decide) ⟨_,ho,rfl⟩ (fun s'=>typeIs_int s' k t) WL F.fills_int_mul F.slot_int_rmul U1 F.slot_int_index.lookup
  (call_meets F.slot_int_rmul (typeIs_int s k t) F.entry_int_rmul (F.args_int_rmul_2 _ _) (JR k t a _ n dd sl) ⟨ho,rfl,⟨_,ho,rfl⟩,?_⟩)
 by_cases e1:k=1
 ·subst e1
  exact call_meets F.slot_tuple_mul ⟨_,ho,rfl⟩ F.entry_tuple_mul (F.args_tuple_mul_2 _ _) (Zef a _ n dd sl t) ⟨ho,⟨.ref a,H,I,rfl,q1 rfl⟩⟩
 ·by_cases e0:k<=0
  ·refine call_meets F.slot_tuple_mul ⟨_,ho,rfl⟩ F.entry_tuple_mul (F.args_tuple_mul_2 _ _) (Zee a _ n dd sl k t (by simp) e0 h2) ⟨ho,?_⟩
   have z:k.toNat=0:=by omega
   exact fin [] (by rw[z];exact .nil)
  ·refine call_meets F.slot_tuple_mul ⟨_,ho,rfl⟩ F.entry_tuple_mul (F.args_tuple_mul_2 _ _) (Zeg a _ n dd sl k t (by simp) (by omega) h1) ⟨ho,?_⟩
   have e:List.foldl (fun x1 x2=>x1++x2) #[] (List.replicate k.toNat [u].toArray)=(List.replicate k.toNat u).toArray:=by
    have e2:=foldl_rep [u] k.toNat [];rw[List.nil_append]at e2;rw[show([]:Li vL).toArray=#[] from rfl]at e2;rw[e2]
    congr 1
    generalize k.toNat=j
    induction j with
    |zero=>rfl
    |succ j ih=>rw[cH,cY,ih,cH];rfl
   rw[e];refine fin _ ?_;generalize k.toNat=j
   induction j with
   |zero=>exact .nil
   |succ j ih=>exact .cons ru ih
end
theorem YC:Ze<=sizeLine:=by decide
variable{v u:vL}{ys vs:Li V}{ds:Li D}{ad:Li Ad}{d:D}{st:Za}{lo hi:Ot Int}{prog:Program}{w:World}{A:Around}{E:vL->Sd->Prop}{r:D×Za}{h':Heap}{i:Nat}{k:Bool}
section
variable {X:Cx}
theorem Jz{i:Int}(h:ZM i=true):-(2 ^ 64) < i/\i < 2 ^ 64:=by
 unfold ZM at h;rw[Ba]at h;exact⟨of_decide_eq_true h.1,of_decide_eq_true h.2⟩
theorem ZfM{op:Operator}{i j k:Int}(I:L2.Inv X pQ σ H s)(rx:RelV (.int i) v)(ry:RelV (.int j) u)(e:Jh op i j=some k)(p:Q (.int k) H) :
  wpAny (model X.prog X.w) X.A (binaryOp op v u) (EP X pQ σ Q) X.xe s:=by
 unfold Jh at e;split at e
 ·cases e
  exact op_add pQ s σ H _ _ v u Q I rx ry ⟨_,_,rfl,rfl,p⟩
 ·cases e
  exact op_sub pQ s σ H _ _ v u Q I rx ry ⟨_,_,rfl,rfl,p⟩
 ·split at e
  ·rename_i hl
   cases e;refine op_mul pQ s σ H _ _ v u Q I rx ry ⟨_,_,rfl,rfl,?_,p⟩;rw[cT]at hl;exact hl.elim (fun z=>.inl (Jz z)) fun z=>.inr (Jz z)
  ·cases e
 ·split at e
  ·rename_i hl
   cases e;exact op_fdiv pQ s σ H _ _ v u Q I rx ry ⟨_,_,rfl,rfl,hl,p⟩
  ·split at e
   ·rename_i hl
    cases e;exact op_fdivN pQ s σ H _ _ v u Q I rx ry ⟨_,_,rfl,rfl,⟨by omega,by omega⟩,p⟩
   ·cases e
 ·split at e
  ·rename_i hl
   cases e;exact op_mod pQ s σ H _ _ v u Q I rx ry ⟨_,_,rfl,rfl,hl,p⟩
  ·split at e
   ·rename_i hl
    cases e;exact op_modN pQ s σ H _ _ v u Q I rx ry ⟨_,_,rfl,rfl,(by omega),p⟩
   ·cases e
 ·split at e
  ·rename_i hl
   cases e;have:=Jz hl.2.2;exact op_pow pQ s σ H _ _ v u Q I rx ry ⟨_,_,rfl,rfl,⟨hl.1,by omega,by omega⟩,p⟩
  ·cases e
 ·cases e
theorem Zbe{a b:Ad}{xs:Li V}(I:L2.Inv X pQ σ H s)(ha:SqL X.K H a xs)(hb:SqL X.K H b ys)(hz:xs.length+ys.length<=sizeLine)(q:∀ p,H p=none->Q (.ref p) (upd H p (.lst (xs++ys)))):wpAny (model X.prog X.w) X.A (binaryOp .Add (.ref a) (.ref b)) (EP X pQ σ Q) X.xe s:=by
 obtain⟨its,r,p1,_⟩:=I.list ha;obtain⟨its2,r2,p2,_⟩:=I.list hb;obtain⟨⟨cls,dd,data,sl⟩,ho,hc,n,hd⟩:=id p1.isList;obtain⟨⟨cls2,dd2,data2,sl2⟩,ho2,hc2,n2,hd2⟩:=id p2.isList;simp only at hc hd hc2 hd2;subst hc hd hc2 hd2;have e:its.toArray++its2.toArray=(its++its2).toArray:=by simp
 have l1:=r.length;have l2:=r2.length;refine concat_meets ⟨_,ho,rfl⟩ ⟨_,ho2,rfl⟩ noFill_list_add seq_list_add PySem.F.slot_list_add PySem.F.entry_list_add (PySem.F.args_list_add_2 _ _) (list_addW a b its.toArray its2.toArray n n2 dd dd2 sl sl2 (by simp;omega)) ⟨ho,ho2,?_⟩
 rw[e];exact⟨.ref _,_,I.lnew (t':=s.toks) (r.append r2) (by rw[aI];omega),rfl,q _ I.fresh⟩
theorem Zb4{op:Operator}(h:XZ op=true):op=.Add:=by cases op<;>first|rfl|cases h
theorem Zdp{op:Operator}(h:WW op=true):op=.Mult:=by cases op<;>first|rfl|cases h
theorem ZfL{op:Operator}:OpR X (binaryOp op) (rD X.K (UC op)):=by
 intro pQ s σ H x y v u Q I rx ry h;obtain⟨ad,st,dx,dy,d,st',S,hx,hy,e,p⟩:=h;unfold UC at e;split at e
 ·split at e
  ·rename_i k q
   cases e;cases hx;cases hy
   exact ZfM I rx ry q (p.at S (.int _))
  ·exact Zb e
 ·split at e
  ·rename_i hz0
   cases Zdp hz0
   obtain⟨a,xs,rfl,ha,r1⟩:=hx.ofTup;cases hy;cases rx;obtain⟨t,rfl⟩:=ry;cases r1 with
   |nil=>exact Zb e
   |cons d1 r1=>cases r1 with
    |cons _ _=>exact Zb e
    |nil=>
     have e:(if _/\_ then some (D.tup (List.replicate _ _),st) else none)=some (d,st'):=e
     split at e
     ·rename_i hz
      cases e;refine ZfW I ha hz.1 hz.2 (fun z=>?_) fun q hq=>p _ ad _ (Ext.laid hq) (S.laid hq) (.tup (.inl upd_same) ((Dens.rep d1 _).mono (Ext.laid hq)))
      subst z;exact p.at S (.tup ha (.cons d1 .nil))
     ·exact Zb e
  ·exact Zb e
 ·split at e
  ·rename_i hop
   cases Zb4 hop
   unfold Zbd at e;split at e
   ·rename_i xs ys q1 q2
    split at e
    ·rename_i hz
     cases e;obtain⟨a,rfl,ha⟩:=hx.ofLst;obtain⟨b,rfl,hb⟩:=hy.ofLst;obtain⟨vs,r1,h1⟩:=S.list ha q1;obtain⟨ws,r2,h2⟩:=S.list hb q2;cases rx;cases ry
     refine Zbe I h1 h2 (by rw[r1.length,r2.length];exact aG hz YC) fun q hq=>?_
     refine p _ (ad++[q]) _ (Ext.push hq) (S.push hq (r1.append r2)) (.newL ?_);rw[<-S.len];exact ZI
    ·exact Zb e
   ·exact Zb e
  ·exact Zb e
 ·split at e
  ·rename_i hop
   cases Zdp hop
   unfold ZfV at e;split at e
   ·rename_i z q1
    split at e
    ·rename_i hz
     cases e;obtain⟨a,rfl,ha⟩:=hx.ofLst;obtain⟨vs,r1,h1⟩:=S.listM ha q1;cases hy;cases r1 with
     |cons d1 r1=>
      cases r1;rename_i w;refine op_rep pQ s σ H _ _ v u Q I rx ry ⟨a,_,[w],rfl,rfl,h1,by omega,by omega,?_,fun q hq=>?_⟩
      ·rw[eA,Nat.one_mul]
       exact aG (show _<=1000 by omega) (by decide)
      ·have e1:∀ k:Nat,(List.replicate k [w]).flatten=List.replicate k w:=fun k=>by
        induction k with
        |zero=>rfl
        |succ k ih=>rw[cH,cY,ih,cH];rfl
       rw[e1];refine p _ (ad++[q]) _ (Ext.push hq) (S.push hq (Dens.rep d1 _)) (.newL ?_);rw[<-S.len];exact ZI
    ·exact Zb e
   ·exact Zb e
  ·exact Zb e
 ·split at e
  ·rename_i hz
   cases Zb4 hz.1
   cases e;cases hx;cases hy
   exact op_add_str pQ s σ H _ _ v u Q I rx ry ⟨_,_,rfl,rfl,aG hz.2 YC,p.at S (.str _)⟩
  ·exact Zb e
 ·exact Zb e
theorem Zgx:UnR X (unaryOp .USub) (rU1 X.K ZfC):=by
 intro pQ s σ H x v Q I rx h;obtain⟨ad,st,dx,d,st',S,hx,e,p⟩:=h;unfold ZfC at e;split at e
 ·cases e;cases hx
  exact un_neg pQ s σ H _ v Q I rx ⟨_,rfl,p.at S (.int _)⟩
 ·exact Zb e
theorem Zb6{xs:Li V}{i:Int}(r:Dens X.K ad H xs ds)(e:atD ds i=some d):∃ v,atI xs i=some v/\Den X.K ad H v d:=by
 unfold atD at e;have hl:L2.ixN xs.length i=Dp.ixN ds.length i:=by rw[r.length];rfl
 cases q:Dp.ixN ds.length i with
 |none=>rw[q]at e;cases e
 |some j=>
  rw[q]at e;obtain⟨v,e1,e2⟩:=r.get (i:=j) e;refine⟨v,?_,e2⟩;unfold atI;rw[hl,q];exact e1
theorem ZhF{k:Str}{a:Nat}{o:Ot D}(h:dAt k a st=some o):∃ b xs,st[a]?=some (b,xs)/\XU xs=false/\o=Yo xs k:=by
 unfold dAt at h;split at h
 ·rename_i b xs q
  split at h
  ·exact Zb h
  ·rename_i c
   cases h;exact⟨b,xs,q,Bool.eq_false_iff.mpr c,rfl⟩
 ·exact Zb h
theorem Zjh{x:Str}{i:Int}(q:atD ((chS x).map D.str) i=some d):∃ c,atI x.cps.toList i=some c/\d=.str ⟨#[c]⟩:=by
 unfold atD at q;unfold atI;have hl:((chS x).map D.str).length=x.cps.toList.length:=by simp[chS]
 rw[hl]at q;show ∃ c,(Dp.ixN x.cps.toList.length i).bind (fun j=>x.cps.toList[j]?)=some c/\_
 cases e:Dp.ixN x.cps.toList.length i with
 |none=>rw[e]at q;cases q
 |some j=>
  rw[e]at q;have q:((chS x).map D.str)[j]?=some d:=q;unfold chS at q;rw[aX,aX]at q;show ∃ c,x.cps.toList[j]?=some c/\_;cases e2:x.cps.toList[j]? with
  |none=>rw[e2]at q;cases q
  |some c=>rw[e2]at q;cases q;exact⟨c,rfl,rfl⟩
theorem ZkS(hu:X.A.units+64 < cLine):IxR X (rD X.K ixR):=by
 intro value slice pQ s σ H x y v u Q I rx ry h hs;obtain⟨ad,st,dx,dy,d,st',S,hx,hy,e,p⟩:=h;unfold ixR at e;split at e
 ·rename_i d' q
  cases e;unfold ixD at q;split at q
  ·obtain⟨a,xs,rfl,ha,r⟩:=hx.ofTup
   cases hy;obtain⟨w,e1,e2⟩:=Zb6 r q;exact ix_tup value slice pQ s σ H _ _ v u Q I rx ry ⟨a,xs,_,w,rfl,rfl,(ha).sq,e1,p.at S e2⟩ hs
  ·split at q
   ·rename_i q0
    obtain⟨a,rfl,ha⟩:=hx.ofLst;cases hy;obtain⟨xs,r,sq⟩:=S.list ha q0;obtain⟨w,e1,e2⟩:=Zb6 r q;exact ix_list value slice pQ s σ H _ _ v u Q I rx ry ⟨a,xs,_,w,rfl,rfl,sq,e1,p.at S e2⟩ hs
   ·exact Zb q
  ·split at q
   ·rename_i hz
    cases hx;cases hy
    obtain⟨c,e1,rfl⟩:=Zjh q;exact ix_str value slice pQ s σ H _ _ v u Q I rx ry ⟨_,_,c,rfl,rfl,aG hz YC,e1,p.at S (.str _)⟩ hs
   ·exact Zb q
  ·exact Zb q
 ·exact Zb e
theorem Y3(n d:Nat)(o:Ot Int):Dp.sIx n d o=HT.sIx n d o:=by cases o<;>rfl
theorem Zcr{xs:Li V}(r:Dens X.K ad H xs ds):Dens X.K ad H (cutV xs lo hi) (Zbi ds lo hi):=by
 unfold cutV Zbi;rw[<-r.length,Y3,Y3];exact(r.drop _).take _
theorem VY{t sl:Ad}{items:Array vL}{vl vu:vL}{Q:vL->Sd->Prop}(ht:IsTup s.heap t items)(hs:s.heap.IsSliceOf sl vl vu .none)(pl:IsPart vl lo)(pu:IsPart vu hi)(hw:HT.sIx items.size 0 lo=0/\HT.sIx items.size items.size hi=items.size)(h:Q (.ref t) s):wpAny (model prog w) A (getItem (.ref t) (.ref sl)) Q E s:=by
 obtain⟨os,hos,hcs,hds⟩:=id hs;have hTs:s.TypeIs (.ref sl) "slice":=⟨os,hos,hcs⟩;unfold getItem
 try with_reducible refine wpAny_holding ?_
 first|refine aA (aB ?_)|skip
 refine aA (wpAny_sequenceKey ht.typeIs (by decide) ?_)
 refine aA (wpAny_callSpecial?_slot (name:=Str.ofString "__getitem__") ht.typeIs PyProof.Rows.slot_tuple_getitem
  (wpAny_call_entry PyProof.Rows.slot_tuple_getitem ht.typeIs PyProof.Rows.entry_tuple_getitem ?_ (PyProof.Rows.args_tuple_getitem _ _)))
 show wpAny _ _ (Builtin.Tuple.tupleItemsOf (.ref t) >>= _) _ _ s;refine aA (tupleItemsOf_ ht ?_);refine aA (wpAny_typeOf hTs ?_);rw[if_pos (by decide)]
 refine aA (HT.sliceApplied_gen hs pl pu ?_);rw[hw.1,hw.2];have hyes:(((0:Nat):Int)==0&&(1:Int)==1&&(items.size - 0)==items.size)=true:=by simp
 show wpAny _ _ (if (((0:Nat):Int)==0&&(1:Int)==1&&(items.size - 0)==items.size)=true then _ else _) _ _ s
 rw[if_pos hyes];unfold Builtin.Tuple.tupleIsExact
 wp_walk using wpAny_typeOf ht.typeIs

 exact⟨_,rfl,aB h⟩
theorem Zd6:SlR X (fun x lo hi H Q=>∃ a xs,x=.ref a/\SqT X.K H a xs/\(HT.sIx xs.length 0 lo=0/\HT.sIx xs.length xs.length hi=xs.length)/\Q (.ref a) H):=by
 intro pQ s σ H x v vl vu lo hi sl Q I rx hs pl pu h;obtain⟨a,xs,rfl,hx,hw,q⟩:=h;cases rx;obtain⟨its,r,ht,hz⟩:=I.tuple hx;have hlen:its.toArray.size=xs.length:=by rw[aL];exact r.length.symm
 refine⟨"tuple",_,PyProof.Rows.slot_tuple_getitem.lookup,ht.typeIs,?_⟩;exact VY ht hs pl pu (by rw[hlen];exact hw) ⟨.ref a,H,I,rfl,q⟩
theorem Zlw:SlR X (rSl X.K):=by
 intro pQ s σ H x v vl vu lo hi sl Q I rx hs pl pu h;obtain⟨ad,st,dx,d,st',S,hx,e,p⟩:=h;unfold Ye at e;split at e
 ·rename_i ds
  split at e
  ·rename_i hw
   cases e;obtain⟨a,xs,rfl,ha,r⟩:=hx.ofTup;refine Zd6 pQ s σ H _ v vl vu lo hi sl Q I rx hs pl pu ⟨a,xs,rfl,ha.sq,?_,p.at S hx⟩;rw[r.length,<-Y3,<-Y3];exact hw
  ·rename_i hw
   cases e;obtain⟨a,xs,rfl,ha,r⟩:=hx.ofTup;refine sl_tup pQ s σ H _ v vl vu lo hi sl Q I rx hs pl pu ⟨a,xs,rfl,(ha).sq,?_,fun q hq=>p _ ad _ (Ext.laid hq) (S.laid hq) (.tup (.inl upd_same) ((Zcr r).mono (Ext.laid hq)))⟩
   rw[r.length,<-Y3,<-Y3];exact hw
 ·split at e
  ·rename_i q0
   cases e;obtain⟨a,rfl,ha⟩:=hx.ofLst;obtain⟨xs,r,sq⟩:=S.list ha q0;refine sl_list pQ s σ H _ v vl vu lo hi sl Q I rx hs pl pu ⟨a,xs,rfl,sq,fun q hq=>p _ (ad++[q]) _ (Ext.push hq) (S.push hq (Zcr r)) (.newL ?_)⟩
   rw[<-S.len];exact ZI
  ·exact Zb e
 ·split at e
  ·rename_i hz
   cases e;cases hx
   exact ZiP pQ s σ H _ v vl vu lo hi sl Q I rx hs pl pu ⟨_,rfl,aG hz YC,p.at S (.str _)⟩
  ·exact Zb e
 ·exact Zb e
theorem Wh(h:Dens X.K ad H vs [d]):∃ v,vs=[v]/\Den X.K ad H v d:=by
 cases h with
 |cons h r=>cases r;exact⟨_,rfl,h⟩
theorem ZgG{e:D}(h:Dens X.K ad H vs [d,e]):∃ v w,vs=[v,w]/\Den X.K ad H v d/\Den X.K ad H w e:=by
 cases h with
 |cons h r=>
  cases r with
  |cons h' r=>cases r;exact⟨_,_,rfl,h,h'⟩
theorem Yd{g:D->Za->Res}(h:on1 g ds st=some r):∃ d,ds=[d]/\g d st=some r:=by
 unfold on1 at h;split at h
 ·exact⟨_,rfl,h⟩
 ·exact Zb h
theorem Uj{g:D->D->Za->Res}(h:on2 g ds st=some r):∃ d e,ds=[d,e]/\g d e st=some r:=by
 unfold on2 at h;split at h
 ·exact⟨_,_,rfl,h⟩
 ·exact Zb h
theorem Za6:CallR X (.builtin "len") (rC X.K (on1 XV)):=by
 intro pQ s σ H xs us Q I r h;obtain⟨ad,st,ds,d,st',S,hd,e,p⟩:=h;obtain⟨x,rfl,e1⟩:=Yd e;have e:=e1;obtain⟨v,rfl,hv⟩:=Wh hd;unfold XV at e;split at e
 ·rename_i n q
  cases e;unfold Zbz at q;split at q
  ·cases q
   obtain⟨a,ys,rfl,ha,rr⟩:=hv.ofTup;refine call_len_seq pQ s σ H _ us Q I r ⟨a,ys,rfl,.inr ((ha).sq),?_⟩;rw[rr.length];exact p.at S (.int _)
  ·split at q
   ·rename_i q0
    cases q;obtain⟨a,rfl,ha⟩:=hv.ofLst;obtain⟨ys,rr,sq⟩:=S.list ha q0;refine call_len_seq pQ s σ H _ us Q I r ⟨a,ys,rfl,.inl sq,?_⟩;rw[rr.length];exact p.at S (.int _)
   ·cases q
  ·split at q
   ·rename_i hz
    cases q;cases hv
    exact call_len pQ s σ H _ us Q I r ⟨_,_,rfl,⟨aG hz YC,rfl⟩,p.at S (.int _)⟩
   ·cases q
  ·split at q
   ·rename_i q0
    split at q
    ·cases q
    ·rename_i ob
     cases q;obtain⟨a,rfl,ha,hn⟩:=hv.ofDic;obtain⟨kvs,rr,hk,_⟩:=S.dict ha hn q0 (Bool.eq_false_iff.mpr ob);obtain⟨u,rfl,ru⟩:=vals1 r;cases ru;refine len_dK I hk ?_;rw[aF,Xu rr];exact p.at S (.int _)
   ·cases q
  ·cases q
 ·exact Zb e
theorem Qk:CallR X (.type "tuple") (rC X.K (on1 XL)):=by
 intro pQ s σ H xs us Q I r h;obtain⟨ad,st,ds,d,st',S,hd,e,p⟩:=h;obtain⟨x,rfl,e1⟩:=Yd e;have e:=e1;obtain⟨v,rfl,hv⟩:=Wh hd;unfold XL at e;split at e
 ·cases e
  obtain⟨a,ys,rfl,ha,rr⟩:=hv.ofTup;exact call_tuple_of pQ s σ H _ us Q I r ⟨a,ys,rfl,.inr ⟨(ha).sq,p.at S hv⟩⟩
 ·split at e
  ·rename_i q0
   cases e;obtain⟨a,rfl,ha⟩:=hv.ofLst;obtain⟨ys,rr,sq⟩:=S.list ha q0;exact call_tuple_of pQ s σ H _ us Q I r ⟨a,ys,rfl,.inl ⟨sq,fun l hl=>p _ ad _ (Ext.laid hl) (S.laid hl) (.tup (.inl upd_same) (rr.mono (Ext.laid hl)))⟩⟩
  ·cases e
 ·cases e
theorem Qi{ad:Li Ad}{H:Hp}:∀ {vs:Li V}{ds:Li D}{bs:Li Bool},Dens X.K ad H vs ds->Xl ds=some bs->vs=bs.map V.bl
 |_,_,_,.nil,e=>by cases e;rfl
 |_,_,bs,.cons (d:=d) h r,e=>by
  cases d with
  |bl b=>
   cases h;unfold Xl at e;cases q:Xl _ with
   |none=>rw[q]at e;cases e
   |some l=>rw[q]at e;cases e;rw[Qi r q];rfl
  |_=>simp[Xl]at e
theorem VW:∀ {bs:Li Bool}{its:Li vL},Vals (bs.map V.bl) its->its=bs.map Value.bool
 |[],_,.nil=>rfl
 |b :: bs,_,.cons r t=>by cases r;rw[VW t];rfl
theorem ZdU{nm:String}{f:Li Bool->Bool}(hw:∀ {prog:Program}{w:World}{A:Around}{E:vL->Sd->Prop}{s:Sd}{l:Ad}{bs:Li Bool}{Q:vL->Sd->Prop},A.handled=none->s.heap.IsList l (bs.map Value.bool).toArray->
   (∀ h' tk,(∀ b o,s.heap.get? b=some o->h'.get? b=some o)->Q (.bool (f bs)) { s with heap:=h',toks:=tk })->wpAny (model prog w) A (call (.builtin nm) [.ref l]) Q E s)(hc:X.calm=true):CallR X (.builtin nm) (rC X.K (on1 (WN f))):=by
 intro pQ s σ H xs us Q I r h;obtain⟨ad,st,ds,d,st',S,hd,e,p⟩:=h;obtain⟨x,rfl,e1⟩:=Yd e;have e:=e1;obtain⟨v,rfl,hv⟩:=Wh hd;unfold WN at e;split at e
 ·split at e
  ·rename_i q0
   split at e
   ·rename_i bs q1
    cases e;obtain⟨a,rfl,ha⟩:=hv.ofLst;obtain⟨ys,rr,sq⟩:=S.list ha q0;cases r with
    |cons r r'=>
     cases r';cases r
     obtain⟨its,rv,pl,_⟩:=I.list sq;have eb:=Qi rr q1;subst eb;have ei:=VW rv;subst ei;exact hw (I.ok.hd hc) pl.isList fun h' tk k=>⟨.bl _,H,I.kept (t':=tk) k,rfl,p.at S (.bl _)⟩
   ·exact Zb e
  ·exact Zb e
 ·exact Zb e
theorem Zfu{o:Obj}(hk:∀ b x,b∉[s.heap.objs.size]->(s.heap.push o).get? b=some x->h'.get? b=some x):∀ b x,s.heap.get? b=some x->h'.get? b=some x:=
 fun b x e=>hk b x (fun hm=>by rw[bW.mp hm]at e;exact bD _ (aE e)) (aH _ e)
theorem ZeP{bs:Li Bool}(h:(bs.map Value.bool).toArray[i]?=some v):∃ b,bs[i]?=some b/\v=.bool b:=by
 rw[dC,aX]at h;cases q:bs[i]? with
 |none=>rw[q]at h;cases h
 |some b=>rw[q]at h;cases h;exact⟨b,rfl,rfl⟩
theorem Zjb{l:Ad}{bs:Li Bool}{Q:vL->Sd->Prop}(hh:A.handled=none)(hl:s.heap.IsList l (bs.map Value.bool).toArray)(h:∀ h' tk,(∀ b o,s.heap.get? b=some o->h'.get? b=some o)->Q (.bool (bs.all id)) { s with heap:=h',toks:=tk }):wpAny (model prog w) A (call (.builtin "all") [.ref l]) Q E s:=by
 have hlt:l < s.heap.objs.size:=by obtain⟨_,e,_⟩:=hl;exact aE e
 refine call_all_walk (wpAny_pyIter_list hl ?_);refine⟨s.heap.objs.size,[s.heap.objs.size,l],[s.heap.objs.size],(bs.map Value.bool).toArray.size,_,_,fun i=>(bs[i]?).getD true,rfl,Walks.list (A:=A.in1) hh _ l (aQ hlt) _,
  ⟨⟨_,aS _ rfl,rfl,rfl⟩,hl.push _⟩,fun i v s' Q' E' hP hQ=>?_,fun h' tk hk=>?_⟩
 ·obtain⟨b,e,rfl⟩:=ZeP hP
  simp only[e,Option.getD_some]at hQ;exact wpAny_truthy_bool hQ
 ·have e:((List.range (bs.map Value.bool).toArray.size).all fun i=>(bs[i]?).getD true)=bs.all id:=by
   rw[aL,aF,cM,bY,bY];constructor
   ·intro z b hb
    obtain⟨i,hi,rfl⟩:=List.getElem_of_mem hb;have:=z i (bS.mpr hi);simp only[Lg hi,Option.getD_some]at this;exact this
   ·intro z i hi
    have hi':=bS.mp hi;simp only[Lg hi',Option.getD_some];exact z _ (List.getElem_mem hi')
  rw[e];exact h h' tk (Zfu hk)
theorem Za4:CallR X (.type "int") (rC X.K (on1 Zc6)):=by
 intro pQ s σ H xs us Q I r h;obtain⟨ad,st,ds,d,st',S,hd,e,p⟩:=h;obtain⟨x,rfl,e1⟩:=Yd e;have e:=e1;obtain⟨v,rfl,hv⟩:=Wh hd;unfold Zc6 at e;split at e
 ·cases e;cases hv
  exact call_int1 pQ s σ H _ us Q I r (.inl ⟨_,rfl,p.at S (.int _)⟩)
 ·cases e;cases hv
  exact call_int1 pQ s σ H _ us Q I r (.inr ⟨true,rfl,p.at S (.int _)⟩)
 ·cases e;cases hv
  exact call_int1 pQ s σ H _ us Q I r (.inr ⟨false,rfl,p.at S (.int _)⟩)
 ·split at e
  ·rename_i i hi
   cases e;cases hv
   exact Za5 pQ s σ H _ us Q I r ⟨_,i,rfl,hi,p.at S (.int _)⟩
  ·exact Zb e
 ·exact Zb e
theorem Za9:CallR X (.type "str") (rC X.K (on1 Q1)):=by
 intro pQ s σ H xs us Q I r h;obtain⟨ad,st,ds,d,st',S,hd,e,p⟩:=h;obtain⟨x,rfl,e1⟩:=Yd e;have e:=e1;obtain⟨v,rfl,hv⟩:=Wh hd;unfold Q1 at e;split at e
 ·split at e
  ·rename_i hi
   cases e;cases hv
   exact Zba pQ s σ H _ us Q I r ⟨_,rfl,hi,p.at S (.str _)⟩
  ·exact Zb e
 ·exact Zb e
theorem Za8(hc:X.calm=true):CallR X (.builtin "min") (rC X.K (on2 Zfy)):=by
 intro pQ s σ H xs us Q I r h;obtain⟨ad,st,ds,d,st',S,hd,e,p⟩:=h;obtain⟨x,y,rfl,e1⟩:=Uj e;have e:=e1;obtain⟨v,w,rfl,hv,hw⟩:=ZgG hd;unfold Zfy at e;split at e
 ·cases e;cases hv;cases hw
  exact call_min2 hc pQ s σ H _ us Q I r ⟨_,_,rfl,p.at S (.int _)⟩
 ·exact Zb e
theorem Za7(hc:X.calm=true):CallR X (.builtin "max") (rC X.K (on2 Zfw)):=by
 intro pQ s σ H xs us Q I r h;obtain⟨ad,st,ds,d,st',S,hd,e,p⟩:=h;obtain⟨x,y,rfl,e1⟩:=Uj e;have e:=e1;obtain⟨v,w,rfl,hv,hw⟩:=ZgG hd;unfold Zfw at e;split at e
 ·cases e;cases hv;cases hw
  exact call_max2 hc pQ s σ H _ us Q I r ⟨_,_,rfl,p.at S (.int _)⟩
 ·exact Zb e
noncomputable def tyN:Ty->String
 |.int => "int"
 |.bool => "bool"
 |.str => "str"
 |.tuple => "tuple"
noncomputable def Zdi:D->String
 |.int _ => "int"
 |.bl _ => "bool"
 |.str _ => "str"
 |.tup _ => "tuple"
 |.non => "NoneType"
 |_ => "list"
theorem Zdj(K:Fg){T:Ty}(h:Zfs T d=some k):PySem.W.kitOne K (.type (Zdi d)) (.type (tyN T))=some k:=by
 cases d<;>first | (cases h;done) | (cases T<;>(cases h;rfl))
theorem Zkr{K:Fg}{v:V}{T:Ty}(h:Zfs T d=some k)(hv:Den K ad H v d):TyOf K H v (.type (Zdi d))\/∃ a xs,v=.ref a/\SqT K H a xs/\Zdi d = "tuple":=by
 cases hv with
 |non=>exact .inl .non
 |bl b=>exact .inl (.bl b)
 |int i=>exact .inl (.int i)
 |str x=>exact .inl (.str x)
 |tup e r=>exact .inr ⟨_,_,rfl,e.sq,rfl⟩
 |lst e=>exact Zb h
 |dic _ _=>exact Zb h
 |obj _ _ _=>exact Zb h
 |kt _ _ _ _ _ _=>exact Zb h
theorem Zci{T:Ty}:CallR X (.builtin "isinstance") (fun vs H Q=>∃ v,vs=[v,.ty (tyN T)]/\rC X.K (on1 (Ju T)) [v] H Q):=by
 intro pQ s σ H xs us Q I r h;obtain⟨v,rfl,ad,st,ds,d,st',S,hd,e,p⟩:=h;obtain⟨x,rfl,e1⟩:=Yd e;have e:=e1;obtain⟨w,hw,hv⟩:=Wh hd;cases hw;unfold Ju at e;split at e
 ·rename_i k q
  cases e;cases r with
  |cons r1 r2=>
   cases r2 with
   |cons r3 r4=>
    cases r4;cases r3;rcases Zkr q hv with ty|⟨a,zs,rfl,sq,kd⟩
    ·exact isinst_ok I r1 ty (Zdj X.K q) fun tk=>⟨.bl k,H,I.tok _,rfl,p.at S (.bl k)⟩
    ·have kt:=Zdj X.K q
     rw[kd]at kt;cases r1;obtain⟨its,_,pp,_⟩:=I.tuple sq;obtain⟨o,h1,h2,_⟩:=pp;exact PySem.W.kia_one PySem.W.kitx_tuple I.kIn ⟨o,h1,h2⟩ kt (fun z=>nomatch z) fun tk=>⟨.bl k,H,I.tok _,rfl,p.at S (.bl k)⟩
 ·exact Zb e
end
section
variable {X:Cx}
end
variable [ClsTab]
section
open PySem.SeqAt PySem.MeetsSeq PySem.MeetsSeq2 PySem.MeetsSeq3 PySem.SeqRoads2
open AutoSeq1 (wpAny_loadPart')
def ZlC(A:Around)(s:Sd)(y x:vL)(b:Bool):Prop:=
 ∀ (prog:Program) (w:World) (E:vL->Sd->Prop) (Q:vL->Sd->Prop),Q (.bool b) s->wpAny (model prog w) A (richCompare .Lt y x) Q E s
noncomputable def ltR(e lt:Nat->Bool)(f:Bool):Li Nat->Bool
 |[]=>f
 |j :: r=>if e j=true then ltR e lt f r else lt j
end
variable{dx dy:D}{n la lb:Nat}{op:CmpOp}
section
variable {X:Cx}
theorem ZgM{ad:Li Ad}{H:Hp}{k:Int}:∀ {xs:Li V}{ds:Li D}{b:Bool},Dens X.K ad H xs ds->Xy k ds=some b->xs.all flatV=true/\inV (.int k) xs=b
 |_,_,_,.nil,e=>by cases e;exact⟨rfl,rfl⟩
 |_,_,b,.cons (d:=d) h r,e=>by
  cases d with
  |int i=>
   cases h;unfold Xy at e;cases q:Xy k _ with
   |none=>rw[q]at e;cases e
   |some b'=>
    rw[q]at e;cases e;obtain⟨h1,h2⟩:=ZgM r q;refine⟨by rw[aT,h1];rfl,?_⟩
    show((i==k)||inV (.int k) _)=(decide (i=k)||b');rw[h2];rfl
  |_=>simp[Xy]at e
theorem Zc4{ad:Li Ad}{H:Hp}{k:Str}:∀ {xs:Li V}{ds:Li D}{b:Bool},Dens X.K ad H xs ds->YS k ds=some b->xs.all flatV=true/\inV (.str k) xs=b
 |_,_,_,.nil,e=>by cases e;exact⟨rfl,rfl⟩
 |_,_,b,.cons (d:=d) h r,e=>by
  cases d with
  |str i=>
   cases h;unfold YS at e;cases q:YS k _ with
   |none=>rw[q]at e;cases e
   |some b'=>
    rw[q]at e;cases e;obtain⟨h1,h2⟩:=Zc4 r q;refine⟨by rw[aT,h1];rfl,?_⟩
    show((i==k)||inV (.str k) _)=(decide (i=k)||b');rw[h2]
    congr 1
  |_=>simp[YS]at e
def CW(X:Cx)(pQ:Li (Ad×Obj))(σ:L2.St)(Q:VK)(s:Sd)(op:CmpOp)(v u:vL):Prop:=wpAny (model X.prog X.w) X.A (compareOp op v u) (EP X pQ σ Q) X.xe s
def CW2(X:Cx)(pQ:Li (Ad×Obj))(σ:L2.St)(Q:VK)(s:Sd)(H:Hp)(op op':CmpOp)(v u:vL)(k:Bool):Prop:=(Q (.bl k) H->CW X pQ σ Q s op v u)/\(Q (.bl (!k)) H->CW X pQ σ Q s op' v u)
noncomputable def vSc:Sc->V
 |.non=>.non
 |.bl b=>.bl b
 |.int i=>.int i
 |.str x=>.str x
theorem Den.vSc{K:Fg}{ad:Li Ad}{H:Hp}{x:V}{d:D}{a:Sc}(h:Den K ad H x d)(e:scD d=some a):x=vSc a:=by
 cases h<;>cases e<;>rfl
theorem Ze1{a b:Sc}(h:ZcA a b=some k):scal (vSc a) (vSc b)=true/\decide (vSc a=vSc b)=k:=by
 cases a<;>cases b<;>first
  | (cases h;done)
  | (cases h;exact⟨rfl,rfl⟩)
  | (cases h;exact⟨rfl,dec_bl⟩)
  | (cases h;exact⟨rfl,by simp[vSc]⟩)
inductive EqD(x y:V):D->D->Bool->Prop
 |sc {dx dy:D}{k:Bool} (h3:scal x y=true) (h4:decide (x=y)=k):EqD x y dx dy k
 |tup {xs ys:List D} (h:(okD 8 (.tup xs)&&okD 8 (.tup ys))=true):EqD x y (.tup xs) (.tup ys) (YW xs ys)
theorem ZeZ{K:Fg}{x y:V}(hx:Den K ad H x dx)(hy:Den K ad H y dy)(e:eqD dx dy=some k):EqD x y dx dy k:=by
 unfold eqD at e;split at e
 ·unfold eqT at e
  split at e
  ·split at e
   ·rename_i hok
    cases e;exact .tup hok
   ·exact Zb e
  ·exact Zb e
 ·refine j_e e fun e=>ZQ (P:=fun o=>o=some k->EqD x y dx dy k) e (fun a b h1 h2 h=>?_) rfl
  obtain⟨h3,h4⟩:=Ze1 h;rw[<-hx.vSc h1,<-hy.vSc h2]at h3 h4;exact .sc h3 h4
theorem Zjs(hu:X.A.units+64 < cLine){x y:V}(I:Inv X pQ σ H s)(rx:RelV x v)(ry:RelV y u)(S:StOk X.K ad H st)(hx:Den X.K ad H x dx)(hy:Den X.K ad H y dy)(e:eqD dx dy=some k):CW2 X pQ σ Q s H .Eq .NotEq v u k:=by
 cases ZeZ hx hy e with
 |sc h3 h4=>
  subst h4;exact⟨fun q=>op_eq pQ s σ H x y v u Q I rx ry ⟨h3,q⟩,fun q=>op_ne pQ s σ H x y v u Q I rx ry ⟨h3,q⟩⟩
 |tup hok=>
  rw[Ba]at hok;obtain⟨a,xs,rfl,ha,r1⟩:=hx.ofTup;obtain⟨b,ys,rfl,hb,r2⟩:=hy.ofTup;cases rx;cases ry
  obtain⟨g1,g2⟩:=ZfU (ad:=ad) (A:=X.A) I (n:=7) hok.1 hok.2 (by omega) ha r1 hb r2
  exact⟨fun q=>g1 X.prog X.w X.xe _ ⟨.bl _,H,I,rfl,q⟩,fun q=>g2 X.prog X.w X.xe _ ⟨.bl _,H,I,rfl,q⟩⟩
open PySem.SeqAt in
theorem Zal{f:D->D->Bool}:∀ {xs ys:Li D}{j:Nat}{d e:D},Jk f xs ys=true->xs[j]?=some d->ys[j]?=some e->f d e=true
 |x :: xs,y :: ys,0,d,e,h,h1,h2=>by cases h1;cases h2;exact(bJ.mp h).1
 |x :: xs,y :: ys,j+1,d,e,h,h1,h2=>Zal (bJ.mp h).2 (show xs[j]?=some d from h1) (show ys[j]?=some e from h2)
 |[],_,_,_,_,_,h1,_=>nomatch h1
 |_ :: _,[],_,_,_,h,_,_=>nomatch h
theorem Qn{f:D->D->Bool}:∀ {xs ys:Li D},Jk f xs ys=true->xs.length=ys.length
 |[],[],_=>rfl
 |x :: xs,y :: ys,h=>congrArg (·+1) (Qn (bJ.mp h).2)
 |[],_ :: _,h=>nomatch h
 |_ :: _,[],h=>nomatch h
open PySem.SeqAt in
theorem Qs(I:Inv X pQ σ H s)(S:StOk X.K ad H st)(ih:∀ (d e:D) (A:Around) (vx vy:V) (ux uy:vL),dEq st n d e=true->A.units+n < cLine->Den X.K ad H vx d->Den X.K ad H vy e->RelV vx ux->RelV vy uy->EqAt A s ux uy true){a b:Ad}{A:Around}(h:dEq st (n+1) (.lst la) (.lst lb)=true)(hu:A.units+n+1 < cLine)(ha:LA ad H la a)(hb:LA ad H lb b):RcAt A s (.ref a) (.ref b) true/\RcNeAt A s (.ref a) (.ref b) false:=by
 have h:(match st[la]? with
  |some c=>(match st[lb]? with
   |some d=>Jk (dEq st n) c.2 d.2
   |none=>false)
  |none=>false)=true:=h
 split at h
 ·rename_i c q1
  split at h
  ·rename_i d q2
   obtain⟨vs,r1,s1⟩:=S.list ha (show st[la]?=some (c.1,c.2) from q1);obtain⟨ws,r2,s2⟩:=S.list hb (show st[lb]?=some (d.1,d.2) from q2);obtain⟨its,rv,p1,_⟩:=I.list s1;obtain⟨its',rv',p2,_⟩:=I.list s2;have l1:its.length=c.2.length:=by rw[<-rv.length,r1.length]
   have l2:its'.length=d.2.length:=by rw[<-rv'.length,r2.length]
   have lz:=Qn h;have hz:its.toArray.size=its'.toArray.size:=by rw[aL,aL];omega
   have it:∀ j (h1:j < its.toArray.size) (h2:j < its'.toArray.size),EqAt A.in1 s its.toArray[j] its'.toArray[j] true:=fun j h1 h2=>by
    rw[aL]at h1 h2;obtain⟨v1,e1,d1⟩:=r1.get (Lg (show j < c.2.length by omega))
    obtain⟨v2,e2,d2⟩:=r2.get (Lg (show j < d.2.length by omega))
    obtain⟨u1,f1,g1⟩:=rv.get e1;obtain⟨u2,f2,g2⟩:=rv'.get e2;rw[Lg h1]at f1;rw[Lg h2]at f2;cases f1;cases f2
    exact ih _ _ A.in1 v1 v2 _ _ (Zal h (Lg _) (Lg _)) (by show A.units+1+n < cLine;omega) d1 d2 g1 g2
   have al:((List.range its.toArray.size).all fun _=>true)=true:=by simp
   have g1:=RcAt.lists (A:=A) (s:=s) (e:=fun _=>true) p1.isList p2.isList hz (by omega) it
   have g2:=RcNeAt.lists (A:=A) (s:=s) (e:=fun _=>true) p1.isList p2.isList hz (by omega) it
   rw[al]at g1 g2;exact⟨g1,g2⟩
  ·cases h
 ·cases h
open PySem.SeqAt in
theorem ZhG(I:Inv X pQ σ H s)(S:StOk X.K ad H st):∀ (n:Nat) (d e:D) (A:Around) (vx vy:V) (ux uy:vL),dEq st n d e=true->A.units+n < cLine->Den X.K ad H vx d->Den X.K ad H vy e->RelV vx ux->RelV vy uy->EqAt A s ux uy true:=by
 have str:∀ {x y:Str}{A:Around}{vx vy:V}{ux uy:vL},decide (x=y)=true->Den X.K ad H vx (.str x)->Den X.K ad H vy (.str y)->RelV vx ux->RelV vy uy->EqAt A s ux uy true:=fun {x y A vx vy ux uy} h hx hy rx ry=>by
  have e:=of_decide_eq_true h;subst e;cases hx;cases hy
  obtain⟨t,rfl⟩:=rx;obtain⟨t',rfl⟩:=ry;have g:=EqAt.str_str (A:=A) (s:=s) x t x t';rw[beq_self_eq_true]at g;exact g
 have bl:∀ {x y:Bool}{A:Around}{vx vy:V}{ux uy:vL},decide (x=y)=true->Den X.K ad H vx (.bl x)->Den X.K ad H vy (.bl y)->RelV vx ux->RelV vy uy->EqAt A s ux uy true:=fun {x y A vx vy ux uy} h hx hy rx ry=>by
  have e:=of_decide_eq_true h;subst e;cases hx;cases hy;cases rx;cases ry
  exact EqAt.same _
 intro n
 induction n with
 |zero=>
  intro d e A vx vy ux uy h hu hx hy rx ry;unfold dEq at h;split at h
  ·exact str h hx hy rx ry
  ·exact bl h hx hy rx ry
  ·rename_i z;cases z
  ·cases h
 |succ n ih=>
  intro d e A vx vy ux uy h hu hx hy rx ry;have h0:=h;unfold dEq at h;split at h
  ·exact str h hx hy rx ry
  ·exact bl h hx hy rx ry
  ·rename_i m la lb z
   cases z;obtain⟨a,rfl,ha⟩:=hx.ofLst;obtain⟨b,rfl,hb⟩:=hy.ofLst;cases rx;cases ry
   by_cases hab:a=b
   ·subst hab;exact EqAt.same _
   ·exact EqAt.of_refs hab (Qs I S ih h0 (by omega) ha hb).1
  ·cases h
open PySem.SeqAt in
theorem Ze2{a b:Ad}(I:Inv X pQ σ H s)(S:StOk X.K ad H st)(h:dEq st 8 (.lst la) (.lst lb)=true)(hu:A.units+8 < cLine)(ha:LA ad H la a)(hb:LA ad H lb b):RcAt A s (.ref a) (.ref b) true/\RcNeAt A s (.ref a) (.ref b) false:=
 Qs (n:=7) I S (ZhG I S 7) h (by omega) ha hb
open PySem.SeqAt in
theorem ZkL(hu:X.A.units+64 < cLine){x y:V}{es:Li D}(I:Inv X pQ σ H s)(rx:RelV x v)(ry:RelV y u)(S:StOk X.K ad H st)(hx:Den X.K ad H x (.tup ds))(hy:Den X.K ad H y (.tup es))(e:ZaK st ds es=some k):CW2 X pQ σ Q s H .Eq .NotEq v u k:=by
 unfold ZaK at e;split at e
 ·rename_i la i lb j
  split at e
  ·rename_i hok
   cases e;obtain⟨hok,hij⟩:=hok;subst hij;obtain⟨a,vs,rfl,ha,r1⟩:=hx.ofTup;obtain⟨b,ws,rfl,hb,r2⟩:=hy.ofTup;cases rx;cases ry
   cases r1 with
   |cons d2 r1=>
   cases r1 with
   |cons d1 r1=>
   cases d1;cases r1;cases r2 with
   |cons d4 r2=>
   cases r2 with
   |cons d3 r2=>
   cases d3;cases r2;obtain⟨l,rfl,hl⟩:=d2.ofLst;obtain⟨l',rfl,hl'⟩:=d4.ofLst;obtain⟨its,rv,p,_⟩:=I.tuple ha.sq;obtain⟨its',rv',p',_⟩:=I.tuple hb.sq;have le:EqAt X.A.in1 s (.ref l) (.ref l') true:=by
    by_cases hab:l=l'
    ·subst hab;exact EqAt.same _
    ·exact EqAt.of_refs hab (Ze2 (A:=X.A.in1) I S hok (by show X.A.units+1+8 < cLine;omega) hl hl').1
   cases rv with
   |cons g2 rv=>
   cases g2;cases rv with
   |cons g1 rv=>
   cases g1;cases rv;cases rv' with
   |cons g4 rv'=>
   cases g4;cases rv' with
   |cons g3 rv'=>
   cases g3;cases rv';have it:∀ (q:Nat) (h1:q < ([Value.ref l,.bool i]:Li vL).toArray.size) (h2:q < ([Value.ref l',.bool i]:Li vL).toArray.size),EqAt X.A.in1 s ([Value.ref l,.bool i]:Li vL).toArray[q] ([Value.ref l',.bool i]:Li vL).toArray[q] ((fun _=>true) q):=fun q h1 h2=>by
    match q,h1,h2 with
    |0,_,_=>exact le
    |1,_,_=>exact EqAt.same _
    |q+2,h1,_=>exact absurd h1 (by simp)
   have g:=RcAt.tuples (A:=X.A) (s:=s) (e:=fun _=>true) p p' (by omega) it
   have g':=RcNeAt.tuples (A:=X.A) (s:=s) (e:=fun _=>true) p p' (by omega) it
   exact⟨fun q=>g X.prog X.w X.xe _ ⟨.bl true,H,I,rfl,q⟩,fun q=>g' X.prog X.w X.xe _ ⟨.bl false,H,I,rfl,q⟩⟩
  ·exact Zb e
 ·exact Zb e
theorem Zjt(hu:X.A.units+64 < cLine){x y:V}(I:Inv X pQ σ H s)(rx:RelV x v)(ry:RelV y u)(S:StOk X.K ad H st)(hx:Den X.K ad H x dx)(hy:Den X.K ad H y dy)(e:eqS st dx dy=some k):CW2 X pQ σ Q s H .Eq .NotEq v u k:=by
 have sc:scal x y=true->(decide (x=y))=k->CW2 X pQ σ Q s H .Eq .NotEq v u k:=fun h1 h2=>by
  subst h2;exact⟨fun q=>op_eq pQ s σ H x y v u Q I rx ry ⟨h1,q⟩,fun q=>op_ne pQ s σ H x y v u Q I rx ry ⟨h1,q⟩⟩
 unfold eqS at e;split at e
 ·unfold Zjq at e
  split at e
  case h_2=>exact Zb e
  obtain⟨a,rfl,ha⟩:=hx.ofLst;obtain⟨b,rfl,hb⟩:=hy.ofLst;cases rx;cases ry
  have two:∀ {ba bb:Bool}{xs ys:Li D},st[_]?=some (ba,xs)->st[_]?=some (bb,ys)->(xs=[]\/ys=[])->(xs.isEmpty&&ys.isEmpty)=k->CW2 X pQ σ Q s H .Eq .NotEq (.ref a) (.ref b) k:=fun {ba bb xs ys} q1 q2 hz hk=>by
   obtain⟨vs,r1,s1⟩:=S.list ha q1;obtain⟨ws,r2,s2⟩:=S.list hb q2;obtain⟨its,rv,p1,_⟩:=I.list s1;obtain⟨its',rv',p2,_⟩:=I.list s2;have l1:its.toArray.size=xs.length:=by rw[aL,<-rv.length,r1.length]
   have l2:its'.toArray.size=ys.length:=by rw[aL,<-rv'.length,r2.length]
   by_cases hl:xs.length=ys.length
   ·have z1:xs=[]:=by
     rcases hz with z|z
     ·exact z
     ·rw[z]at hl;exact dW.mp hl
    have z2:ys=[]:=by rw[z1]at hl;exact dW.mp hl.symm
    subst z1 z2;cases hk;have f:its=[]:=dW.mp (by simpa using l1)
    have f':its'=[]:=dW.mp (by simpa using l2)
    subst f f';refine⟨fun q=>SeqAt.RcAt.lists (e:=fun _=>true) p1.isList p2.isList rfl (by omega) (fun j h1 _=>absurd h1 (by simp)) X.prog X.w X.xe _ ⟨.bl true,H,I,rfl,q⟩,fun q=>SeqAt.RcNeAt.lists (e:=fun _=>true) p1.isList p2.isList rfl (by omega) (fun j h1 _=>absurd h1 (by simp)) X.prog X.w X.xe _ ⟨.bl false,H,I,rfl,q⟩⟩
   ·have hk':k=false:=by
     rw[<-hk];rcases hz with z|z
     ·subst z
      cases ys with
      |nil=>exact absurd rfl hl
      |cons _ _=>rfl
     ·subst z
      cases xs with
      |nil=>exact absurd rfl hl
      |cons _ _=>rfl
    subst hk';have hne:(its.toArray.size != its'.toArray.size)=true:=by rw[l1,l2];simpa using hl
    exact⟨fun q=>SeqAt.RcAt.lists_lengths p1.isList p2.isList hne (by omega) X.prog X.w X.xe _ ⟨.bl false,H,I,rfl,q⟩,fun q=>SeqAt.RcNeAt.lists_lengths p1.isList p2.isList hne (by omega) X.prog X.w X.xe _ ⟨.bl true,H,I,rfl,q⟩⟩
  refine j_e e fun e=>ZQ (P:=fun o=>o=some k->CW2 X pQ σ Q s H .Eq .NotEq (.ref a) (.ref b) k) e (fun c d q1 q2 e=>?_) rfl
  obtain⟨c1,c2⟩:=c;obtain⟨d1,d2⟩:=d;unfold Zbo at e;split at e
  ·rename_i hz
   cases e;rw[cT]at hz;exact two q1 q2 (hz.imp List.isEmpty_iff.mp List.isEmpty_iff.mp) rfl
  ·exact Zb e
 ·unfold Zjr at e
  split at e
  ·split at e
   ·rename_i k' q
    cases e;exact Zjs hu I rx ry S hx hy (show eqD (.tup _) (.tup _)=some _ from q)
   ·exact ZkL hu I rx ry S hx hy e
  ·exact Zb e
 ·exact Zjs hu I rx ry S hx hy e
open Classical in
noncomputable def ZlB(K:Fg)(ad:Li Ad)(H:Hp)(d:D)(u:vL):Bool:=decide (∃ y e,RelV y u/\Den K ad H y e/\okD 8 e=true/\Vm e d=true)
section
variable {pQ:Li (Ad×Obj)}{s:Sd}{σ:L2.St}{H:Hp}{x y:V}{v u:vL}{Q:VK}{ad:Li Ad}{st:Za}{dx dy:D}{k:Bool}
theorem Jr{a:Ad}{xs:Li V}(I:Inv X pQ σ H s)(rx:RelV x v)(ry:RelV y u)(ey:y=.ref a)(sq:SqL X.K H a xs\/SqT X.K H a xs)(fx:flatV x=true)(h:xs.all flatV=true/\inV x xs=k):CW2 X pQ σ Q s H .In .NotIn v u k:=by
 obtain⟨h1,h2⟩:=h;subst h2;exact⟨fun pk=>op_in_seq pQ s σ H _ _ v u Q I rx ry ⟨a,xs,ey,sq,fx,h1,pk⟩,fun pk=>op_notIn_seq pQ s σ H _ _ v u Q I rx ry ⟨a,xs,ey,sq,fx,h1,pk⟩⟩
omit [ClsTab] in
theorem ZgL(k:Str):∀ ks:Li Str,(ks.map V.str).all flatV=true/\inV (.str k) (ks.map V.str)=ks.contains k
 |[]=>⟨rfl,rfl⟩
 |a :: ks=>by
  obtain⟨h1,h2⟩:=ZgL k ks;refine⟨by rw[aP,aT,h1];rfl,?_⟩
  unfold inV at h2 ⊢
  rw[aP,cN,h2,bV]
  congr 1
  show decide (a=k)=(k==a);by_cases e:a=k
  ·subst e;rw[aW rfl,beq_self_eq_true]
  ·rw[aK e,bH.mpr fun z=>e z.symm]
def InW(X:Cx)(pQ:Li (Ad×Obj))(σ:L2.St)(Q:VK)(s:Sd)(H:Hp)(v u:vL)(dy:D)(k:Bool):Prop:=(Q (.bl k) H->CW X pQ σ Q s .In v u)/\((∀ ks vs,dy≠.dct ks vs)->Q (.bl (!k)) H->CW X pQ σ Q s .NotIn v u)
theorem CW2.inW(h:CW2 X pQ σ Q s H .In .NotIn v u k):InW X pQ σ Q s H v u dy k:=⟨h.1,fun _=>h.2⟩
theorem ZjC(hu:X.A.units+64 < cLine)(I:Inv X pQ σ H s)(rx:RelV x v)(ry:RelV y u)(S:StOk X.K ad H st)(hx:Den X.K ad H x dx)(hy:Den X.K ad H y dy)(q:inS st dx dy=some k):InW X pQ σ Q s H v u dy k:=by
 unfold inS at q;split at q
 ·obtain⟨a,xs,e,ha,r⟩:=hy.ofTup
  cases hx;exact(Jr I rx ry e (.inr ha.sq) rfl (ZgM r q)).inW
 ·obtain⟨a,xs,e,ha,r⟩:=hy.ofTup
  cases hx;exact(Jr I rx ry e (.inr ha.sq) rfl (Zc4 r q)).inW
 ·obtain⟨o,q2,rfl⟩:=cZ.mp q
  obtain⟨bb,es,q0,ob,rfl⟩:=ZhF q2;obtain⟨a,rfl,ha,hn⟩:=hy.ofDic;obtain⟨kvs,r,hk,_⟩:=S.dict ha hn q0 ob;cases hx.ofStr;cases ry
  have z:=ni_dct (X:=X) (Q:=Q) (k:=Sum.inr _) I hk rx;rw[Zbm r]at z;exact⟨z.1,fun _=>z.2⟩
 ·cases q
  obtain⟨a,o,its,n,rfl,h1,h2,h3,h4,h5⟩:=hy.ofKt;cases hx;exact(Jr I rx ry rfl (.inr (.inr ⟨o,its,n,h1,h2.1,h3,h4,h5⟩)) rfl (ZgL _ _)).inW
 ·cases hx;cases hy;cases q
  exact⟨fun pk=>op_in_str pQ s σ H _ _ v u Q I rx ry ⟨_,_,rfl,rfl,pk⟩,fun _ pk=>op_notIn_str pQ s σ H _ _ v u Q I rx ry ⟨_,_,rfl,rfl,pk⟩⟩
 ·cases q
theorem Zfr(hx:Den X.K ad H x dx)(q:isN dx=some k):decide (x=V.non)=k:=by
 cases hx<;>cases q<;>rfl
theorem ZjF(I:Inv X pQ σ H s)(rx:RelV x v)(ry:RelV y u)(hx:Den X.K ad H x dx)(hy:Den X.K ad H y dy)(q:isD dx dy=some k):CW2 X pQ σ Q s H .Is .IsNot v u k:=by
 unfold isD at q;split at q
 ·cases hy
  have z:=Zfr hx q;subst z;exact⟨fun pk=>op_isN pQ s σ H _ _ v u Q I rx ry ⟨rfl,pk⟩,fun pk=>op_notN pQ s σ H _ _ v u Q I rx ry ⟨rfl,pk⟩⟩
 ·unfold isB at q
  split at q
  ·cases q
   cases hx;cases hy
   cases rx;cases ry
   have e:∀ a b:Bool,(Value.bool a==Value.bool b)=(a==b):=fun a b=>by cases a<;>cases b<;>rfl
   exact⟨fun pk=>wpAny_is_plain rfl (by rw[e];exact⟨.bl _,H,I,rfl,pk⟩),fun pk=>wpAny_isNot_plain rfl (by rw[e];exact⟨.bl _,H,I,rfl,pk⟩)⟩
  ·cases q
 ·cases q
theorem Vf{f:Int->Int->Bool}(hx:Den X.K ad H x dx)(hy:Den X.K ad H y dy)(q:JI f dx dy=some k):∃ i j,x=.int i/\y=.int j/\f i j=k:=by
 unfold JI at q;split at q
 ·cases q;cases hx;cases hy;exact⟨_,_,rfl,rfl,rfl⟩
 ·exact Zb q
theorem Zk3(hu:X.A.units+64 < cLine)(I:Inv X pQ σ H s)(rx:RelV x v)(ry:RelV y u)(S:StOk X.K ad H st)(hx:Den X.K ad H x dx)(hy:Den X.K ad H y dy)(q:ltS st dx dy=some k)(pk:Q (.bl k) H):CW X pQ σ Q s .Lt v u:=by
   have q:ltD dx dy=some k:=q;obtain⟨i,j,rfl,rfl,z⟩:=Vf hx hy q;exact op_lt pQ s σ H _ _ v u Q I rx ry ⟨_,_,rfl,rfl,by cases z;exact pk⟩
theorem US{o:Ot Bool}(q:o.map not=some k):o=some (!k):=by
 cases o with
 |none=>exact Zb q
 |some k'=>cases q;rw[Bool.not_not]
theorem Zdx{op':CmpOp}(h:CW2 X pQ σ Q s H op op' v u (!k))(pk:Q (.bl k) H):CW X pQ σ Q s op' v u:=h.2 (by rw[Bool.not_not];exact pk)
end
theorem XO(hu:X.A.units+64 < cLine):OpR X (compareOp op) (rD X.K (Xp op)):=by
 intro pQ s σ H x y v u Q I rx ry h;obtain⟨ad,st,dx,dy,d,st',S,hx,hy,e,p⟩:=h
 change CW X pQ σ Q s op v u;unfold Xp at e;cases q:X6 op dx dy st with
 |none=>rw[q]at e;cases e
 |some k=>
  rw[q]at e;cases e;have pk:=p.at S (.bl k);clear p;cases op with
  |Lt=>exact Zk3 hu I rx ry S hx hy q pk
  |LtE=>
   obtain⟨i,j,rfl,rfl,z⟩:=Vf hx hy q;exact op_le pQ s σ H _ _ v u Q I rx ry ⟨_,_,rfl,rfl,by cases z;exact pk⟩
  |Gt=>
   obtain⟨i,j,rfl,rfl,z⟩:=Vf hx hy q;exact op_gt pQ s σ H _ _ v u Q I rx ry ⟨_,_,rfl,rfl,by cases z;exact pk⟩
  |GtE=>
   obtain⟨i,j,rfl,rfl,z⟩:=Vf hx hy q;exact op_ge pQ s σ H _ _ v u Q I rx ry ⟨_,_,rfl,rfl,by cases z;exact pk⟩
  |Eq=>exact(Zjt hu I rx ry S hx hy q).1 pk
  |NotEq=>exact Zdx (Zjt hu I rx ry S hx hy (US q)) pk
  |In=>exact(ZjC hu I rx ry S hx hy q).1 pk
  |NotIn=>
   have q:niS st dx dy=some k:=q;unfold niS at q;split at q
   ·exact Zb q
   ·rename_i hn
    exact(ZjC hu I rx ry S hx hy (US q)).2 hn (by rw[Bool.not_not];exact pk)
  |Is=>exact(ZjF I rx ry hx hy q).1 pk
  |IsNot=>exact Zdx (ZjF I rx ry hx hy (US q)) pk
end
variable [ClsTab]
noncomputable def Zj:Expr->Bool
 |.Starred ..=>false
 |.Set ..=>false
 |.Slice ..=>false
 |_=>true
variable{sc:Scope}{N:Li Str}{e:Expr}{c:CE}
theorem Zh{G:Gs}(h:cE G n sc N e=some c):Zj e=true:=by
 cases n with
 |zero=>exact nomatch (show(none:Ot CE)=some c from h)
 |succ n=>cases e<;>first|rfl|exact nomatch (show(none:Ot CE)=some c from h)
variable{env:PySem.Env}
theorem Zc{es:Li Expr}(h:Zj e=true):starEach (e :: es) env=(false,eval e env) :: starEach es env:=by
 cases e<;>first|rfl|cases h
theorem Yl{b:Expr}(h:Zj b=true):behindInMarks op b=false:=by
 cases b<;>first|rfl|cases h
theorem QD{b:Expr}(h:Zj b=true):PlainIx b:=by
 cases b<;>first | (intro o i;rfl)|cases h
theorem Yr{pos:Pos}{env:PySem.Env}:∀ {es:Li Expr},es.all Zj=true->(backTo pos (starEach es env)).any (·.1)=false
 |[],_=>rfl
 |e :: es,h=>by
  rw[aT,Ba]at h;rw[Zc h.1];show(false||(backTo pos (starEach es env)).any (·.1))=false;rw[Yr h.2];rfl
inductive EsOk(Pm:Params)(K:Fg):List DictEntry->List Str->List D->Prop where
 |nil:EsOk Pm K [] [] []
 |cons {e:DictEntry}{es:List DictEntry}{k:Str}{ks:List Str}{d:D}{ds:List D}{v:V}{t:Tok} (h1:e.hash=PyData.keyHash Pm k) (h2:e.key=.str k t) (h3:RelV v e.val) (h4:∀ ad H,Den K ad H v d) (r:EsOk Pm K es ks ds):EsOk Pm K (e :: es) (k :: ks) (d :: ds)
def J6(Pm:Params)(K:Fg)(mg:Str->Ot vL)(x:Str)(ks:Li Str)(ds:Li D):Prop:=
 ∃ A o es ep,mg x=some (.ref A)/\K.lookup A=some o/\o.ExactDict/\o.data=.dict es ep/\(A==sysModules)=false/\ks.Nodup/\EsOk Pm K es.toList ks ds
theorem EsOk.open{P:Program}{K:Fg}:∀ {es:Li DictEntry}{ks:Li Str}{ds:Li D},EsOk w.params K es ks ds->∃ kvs:Li (Key×vL),Pairs (mixKind P w) es kvs/\kvs.map (·.1)=ks.map Sum.inr/\(∀ e∈es,∃ k,(mixKind P w).is k e.key=true/\e.hash=(mixKind P w).hash k) /\
  ∀ k d,YZ ks ds k=some d->∃ u v,valueAt kvs (Sum.inr k)=some u/\RelV v u/\∀ ad H,Den K ad H v d
 |_,_,_,.nil=>⟨[],.nil,rfl,(fun _ h=>nomatch h),fun k d h=>by simp[YZ]at h⟩
 |e :: es,k0 :: ks,d0 :: ds,.cons (v:=v) (t:=t) h1 h2 h3 h4 r=>by
  obtain⟨kvs,a1,a2,a3,a4⟩:=EsOk.open (P:=P) r;have hk:(mixKind P w).is (Sum.inr k0) e.key=true:=by rw[h2];exact mixKind_str P w k0 t
  refine⟨(Sum.inr k0,e.val) :: kvs,.cons hk rfl a1,by rw[aP,aP,a2],fun x hx=>?_,fun k d h=>?_⟩
  ·rcases aM.mp hx with rfl|hx
   ·exact⟨Sum.inr k0,hk,h1⟩
   ·exact a3 x hx
  ·unfold valueAt
   by_cases c:k0=k
   ·subst c
    have h:YZ (k0 :: ks) (d0 :: ds) k0=some d:=h;simp only[YZ,if_pos]at h;cases h;exact⟨e.val,v,by simp,h3,h4⟩
   ·have h:YZ ks ds k=some d:=by
     simp only[YZ,if_neg c]at h;exact h
    obtain⟨u,v',b1,b2,b3⟩:=a4 k d h;refine⟨u,v',?_,b2,b3⟩;have nk:¬(Sum.inr k0:Key)=Sum.inr k:=fun z=>c (Sum.inr.inj z)
    rw[eC (by simpa using nk)]
    exact b1
structure NewOk(K:Fg)(C:Addr):Prop where
 makes:PySem.W.makesIn K C=true
 kp:PySem.W.keepIn K (.ref C)=true
 oc:ObC K C
def GOk(P:Program)(w:World)(K:Fg)(mg:Str->Ot vL)(base:Heap)(A:Around)(F:Nat->Fn)(x:Str):GV->Prop
 |.cst d=>∃ v u,mg x=some u/\RelV v u/\∀ ad H,Den K ad H v d
 |.blt=>mg x=none
 |.dct ks ds=>J6 w.params K mg x ks ds
 |.cls i ms subs=>mg x=some (.ref (ClsTab.ca i))/\NewOk K (ClsTab.ca i) /\
   ∀ m j ps,ms.lookup m=some (j,ps)->∃ (k:Nat) (f:Ad) (fd:FuncData) (pn:Li Str),FnOk P w K mg base (CX1 P w) k f fd pn (spD K (F j))/\Room (k+1) A/\Meth K (ClsTab.ca i) m f/\Binds K fd pn []
 |.fn i ps ds=>∃ (k:Nat) (f:Ad) (fd:FuncData) (pn:Li Str),FnOk P w K mg base (CX1 P w) k f fd pn (spD K (F i))/\Room k A/\mg x=some (.ref f)/\PySem.W.keepIn K (.ref f)=true /\
   ∀ m,m<=ds.length->∃ dvs us,(∀ ad H,Dens K ad H dvs (ds.drop m))/\Vals dvs us/\Binds K fd pn us
 |.exc i l=>mg x=some (.ref (ClsTab.ca i))/\(∀ c∈exNums,PySem.W.kitOne K (.ref (ClsTab.ca c)) (.ref (ClsTab.ca i))=some (l.contains c))/\(∀ c∈l,PySem.W.exmOne K (.ref (ClsTab.ca c)) (.ref (ClsTab.ca i))=some true/\XG K (ClsTab.ca c)) /\
   (i∈exNums->∃ (fI:Ad) (fd:FuncData) (pn:Li Str),XCls K (ClsTab.ca i) fI "line"/\FnOk P w K mg base CX0 1 fI fd pn (spI (ClsTab.ca i) "line")/\Binds K fd pn [])
 |.fnq i=>∃ (f:Ad) (fd:FuncData) (pn:Li Str),FnOk P w K mg base (CX1 P w) 1 f fd pn (spD K (F i))/\Room 1 A/\mg x=some (.ref f)/\PySem.W.keepIn K (.ref f)=true/\Binds K fd pn []
theorem ZaL:Passes (CX1 X.prog X.w) X E0:=pass_x fun _ _ _ _ ⟨_,_,_,_,_,_,_,_,z⟩=>z.elim
structure Cxt(X:Cx)(G:Gs)(F:Nat->Fn)(sc:Scope)(N:List Str):Prop where
 hN:X.N=N
 vis:∀ x,Xz sc x=true->Vis X.env.scope x
 glb:∀ x,Zq sc x=true->Gl X x
 calm:ZX G=true->X.calm=true
 hu:X.A.units+64 < cLine
 gl:∀ x g,G.lookup x=some g->GOk X.prog X.w X.K X.mg X.base X.A F x g
 cel:∀ x,Vy sc x=true->X.env.scope.names.lookup x=some .cell\/X.env.scope.names.lookup x=some .free
theorem Yx{x:Str}(h:N.idxOf? x=some i):N[i]?=some x:=by
 unfold List.idxOf? at h
 rw[List.findIdx?_eq_some_iff_getElem]at h;obtain⟨hi,h1,_⟩:=h;rw[Lg hi];rw[beq_iff_eq.mp h1]
theorem Wo{x:Str}(h:Xz sc x=true):(x==("__debug__":Str))=false/\(x==("__classdict__":Str))=false:=by
 unfold Xz at h;rw[Ba,Ba,cR,cR]at h;exact h.1
theorem ZS{x:Str}(h:Zq sc x=true):(x==("__debug__":Str))=false:=by
 unfold Zq at h;rw[Ba,cR]at h;exact h.1
variable{fc fa fb:Ev}{pos:Pos}{ρ:Env}{st':Za}
section
variable {X:Cx}{F:Nat->Fn}
theorem Zj7{f:Ev}(h:PE X e (tE X.K f))(he:∀ whole,isTrue e X.env whole=(do let v <-whole;standAt e.pos;holding [v] (truthy v)):=by intro _;rfl):PT X e (tT X.K f):=Wa (pt_val h he) UL
theorem Zio{c a b:Expr}(hc:PT X c (tT X.K fc))(ha:PT X a (tT X.K fa))(hb:PT X b (tT X.K fb)):PT X (.IfExp c a b pos) (tT X.K (Yi fc fa fb)):=by
 intro pQ s σ H Q I h;obtain⟨ad,ρ,st,d,st',E,S,e,p⟩:=h;obtain⟨k,st1,q,e⟩:=Z0 e;show wpAny _ _ (isTrue c X.env (eval c X.env) >>= fun t=>if t then isTrue a X.env (eval a X.env) else isTrue b X.env (eval b X.env)) _ _ s
 refine aA (thn (hc pQ s σ H (fun k' H1=>k'=k/\∃ ad1,Ext ad H ad1 H1/\StOk X.K ad1 H1 st1) I ⟨ad,ρ,st,k,st1,E,S,q,fun ad1 H1 x1 S1=>⟨rfl,ad1,x1,S1⟩⟩) fun t s1 ⟨H1,I1,et,ad1,x1,S1⟩=>?_)
 subst et;cases t with
 |true=>
  rw[if_pos rfl]at e ⊢;exact ha pQ s1 σ H1 Q I1 ⟨ad1,ρ,st1,d,st',E.mono x1,S1,e,fun ad2 H2 x2 S2=>p ad2 H2 (x1.trans x2) S2⟩
 |false=>
  rw[if_neg Bf]at e ⊢;exact hb pQ s1 σ H1 Q I1 ⟨ad1,ρ,st1,d,st',E.mono x1,S1,e,fun ad2 H2 x2 S2=>p ad2 H2 (x1.trans x2) S2⟩
def Ux:CE->Prop
 |.aN=>True
 |.aC _ _=>True
 |_=>False
theorem UB(h:Ux c)(e:ev F c ρ st=some (d,st')):∃ ds,d=.tup ds/\ds.length<=1000:=by
 cases c with
 |aN=>cases e;exact⟨[],rfl,by decide⟩
 |aC a r=>
  have e:Zz (ev F a) (ev F r) Xr ρ st=some (d,st'):=e;unfold Zz at e;split at e
  ·split at e
   ·rename_i y st2 _
    cases y with
    |tup zs=>
     have e:(if zs.length < 1000 then some (D.tup (_ :: zs),st2) else none)=some (d,st'):=e
     split at e
     ·rename_i hz
      cases e;exact⟨_,rfl,hz⟩
     ·exact Zb e
    |_=>simp[Xr]at e
   ·exact Zb e
  ·exact Zb e
 |_=>exact False.elim h
structure SE(X:Cx)(F:Nat->Fn)(e:Expr)(c:CE):Prop where
 pe:PE X e (tE X.K (ev F c))
 pt:PT X e (tT X.K (ev F c))
theorem SE.of(h:PE X e (tE X.K (ev F c)))(he:∀ whole,isTrue e X.env whole=(do let v <-whole;standAt e.pos;holding [v] (truthy v)):=by intro _;rfl):SE X F e c:=⟨h,Zj7 h he⟩
theorem QP{op:BoolOp}{es:Li Expr}{t:TT}(h:PT X (.BoolOp op es pos) t):PW X (.BoolOp op es pos) t:=fun _ pQ s σ H Q I q=>h pQ s σ H Q I q
end
variable [ClsTab]
theorem Qh:bootBuiltins "tuple"=some (.type "tuple"):=by decide +kernel
theorem Zcb:bootBuiltins "int"=some (.type "int"):=by decide +kernel
theorem ZeN:bootBuiltins "bool"=some (.type "bool"):=by decide +kernel
theorem Zcc:bootBuiltins "str"=some (.type "str"):=by decide +kernel
theorem Zhy:bootBuiltins "min"=some (.builtin "min"):=by decide +kernel
theorem Zhx:bootBuiltins "max"=some (.builtin "max"):=by decide +kernel
theorem XX:bootBuiltins "isinstance"=some (.builtin "isinstance"):=by decide +kernel
theorem Zhv:bootBuiltins "all"=some (.builtin "all"):=by decide +kernel
theorem Zhw:bootBuiltins "len"=some (.builtin "len"):=by decide +kernel
variable{l:Li Nat}{yp ap cp:Pos}{E1:XK}{fe:Ev}{as:Li Expr}{cs:CE}{ps ep j:Nat}{es:Array DictEntry}{ks:Li Str}{o:Expr}{m:Str}
section
variable {G:Gs}{F:Nat->Fn}
def Zp(G:Gs)(F:Nat->Fn)(n:Nat):Prop:=∀ X sc N,Cxt X G F sc N->∀ e c,cE G n sc N e=some c->SE X F e c
def Z7(G:Gs)(F:Nat->Fn)(n:Nat):Prop:=∀ X sc N,Cxt X G F sc N->∀ es c,cEs G n sc N es=some c->PA X es (tA X.K (ev F c))/\Ux c/\es.all Zj=true/\(es=[]->c=.aN)
def UA(G:Gs)(F:Nat->Fn)(n:Nat):Prop:=∀ X sc N,Cxt X G F sc N->∀ e c,cO G n sc N e=some c->PO X e (tO X.K (ev F c))

theorem Zd2{v:Const}{k:Nat}(h:CE.ofConst v=some c):SE X F (.Constant v k pos) c:=by
 cases v with
 |none=>cases h;exact .of (Zl pe_non (Qy fun _ _=>.non))
 |bool b=>cases h;exact .of (Zl pe_bl (Qy fun _ _=>.bl b))
 |int i=>cases h;exact .of (Zl pe_int (Qy fun _ _=>.int i))
 |str x=>cases h;exact .of (Zl pe_str (Qy fun _ _=>.str x))
 |_=>exact Zb h
theorem Zf7{x:Str}(K:Cxt X G F sc N)(h:Zdq G sc N x=some c):SE X F (.Name x pos) c:=by
 unfold Zdq at h;split at h
 ·rename_i hl
  cases q:N.idxOf? x with
  |none=>rw[q]at h;cases h
  |some i=>
   rw[q]at h;cases h;obtain⟨h1,h2⟩:=Wo hl;exact .of (Zl (pe_var (i:=i) (by rw[K.hN];exact Yx q) (K.vis x hl) h1 h2) Zfm)
 ·split at h
  ·rename_i hg
   split at h
   ·rename_i d q
    cases h;obtain⟨v,u,hm,r,hd⟩:=K.gl x _ q;exact .of (Zl (pe_glob (K.glb x hg) hm r (ZS hg)) (Qy hd))
   ·exact Zb h
  ·exact Zb h
theorem pa1{a:Expr}{t:TE}(hp:Zj a=true)(ha:PE X a t):PA X [a] (tCons t tNil):=pa_cons ha pa_nil (Zc hp)
theorem pa2{a b:Expr}{t u:TE}(hp:Zj a=true)(hq:Zj b=true)(ha:PE X a t)(hb:PE X b u):PA X [a,b] (tCons t (tCons u tNil)):=pa_cons ha (pa1 hq hb) (Zc hp)
theorem ZfY{f:Str}{a:Expr}{x:CE}{p:Pos}(K:Cxt X G F sc N)(hk:X.calm=true)(hg:Zq sc f=true)(hm:X.mg f=none)(hp:Zj a=true)(A:PE X a (tE X.K (ev F x)))(h:Zht f x=some c) :
  PE X (.Call (.Name f p) [a] [] pos) (tE X.K (ev F c)):=by 
 have hG:=K.glb f hg;unfold Zht at h;split at h
 ·rename_i e;subst e;cases h
  exact Zl (pe_callB Za6 hG hm Zhw (pa1 hp A) (by decide) (by decide) (Zc hp) rfl) Xx
 ·split at h
  ·rename_i e;subst e;cases h
   exact Zl (pe_callTy Qk hG hm Qh (pa1 hp A) (by decide) (by decide) (Zc hp) rfl) Xx
  ·split at h
   ·rename_i e;subst e;cases h
    exact Zl (pe_callTy Za4 hG hm Zcb (pa1 hp A) (by decide) (by decide) (Zc hp) rfl) Xx
   ·split at h
    ·rename_i e;subst e;cases h
     exact Zl (pe_callB (ZdU Zjb hk) hG hm Zhv (pa1 hp A) (by decide) (by decide) (Zc hp) rfl) Xx
    ·split at h
     ·rename_i e;subst e;cases h
      exact Zl (pe_callTy Za9 hG hm Zcc (pa1 hp A) (by decide) (by decide) (Zc hp) rfl) Xx
     ·exact Zb h
theorem Uq{y:CE}(h:Jt y=true)(e:ev F y ρ st=some (d,st')):st'=st:=by
 unfold Jt at h;split at h
 ·rename_i i j
  have e:Zz (ZV i) (evC (.int j)) ixR ρ st=some (d,st'):=e;unfold Zz at e;split at e
  ·rename_i x st1 q1
   unfold ZV at q1;split at q1
   ·cases q1
    have e:ixR x (.int j) st=some (d,st'):=e;unfold ixR at e;split at e
    ·cases e;rfl
    ·exact Zb e
   ·cases q1
  ·exact Zb e
 ·have e:ZV _ ρ st=some (d,st'):=e
  unfold ZV at e;split at e
  ·cases e;rfl
  ·exact Zb e
 ·rename_i i
  have e:Zo (ZV i) XV ρ st=some (d,st'):=e;unfold Zo at e;split at e
  ·rename_i x st1 q1
   unfold ZV at q1;split at q1
   ·cases q1
    unfold XV at e;split at e
    ·cases e;rfl
    ·exact Zb e
   ·cases q1
  ·exact Zb e
 ·cases h
theorem Vq{x y:D}(h:Xp op x y st=some (d,st')):∃ k,d=.bl k/\st'=st:=by
 unfold Xp at h;split at h
 ·cases h;exact⟨_,rfl,rfl⟩
 ·exact Zb h
theorem Ub{K:Fg}{op2:CmpOp}(hb:∀ ρ st st' d,fb ρ st=some (d,st')->st'=st)(σ:L2.St)(H:Hp)(Q:VK)(h:tE K (Yi (Zz fa fb (Xp op)) (Zz fb fc (Xp op2)) (evC (.bl false))) σ H Q) :
  tChain (rD K (Xp op)) (rD K (Xp op2)) (tE K fa) (tE K fb) (tE K fc) σ H Q:=by
 obtain⟨ad,ρ,st,d,st',E,S,e,p⟩:=h;obtain⟨k,st1,q,e⟩:=Z0 e;unfold Zz at q;split at q
 ·rename_i x s1 q1
  split at q
  ·rename_i y s2 q2
   have z:=hb _ _ _ _ q2;subst z;obtain⟨k',ek,es⟩:=Vq q;subst es;refine⟨ad,ρ,st,x,_,E,S,q1,fun v1 ad1 H1 x1 S1 d1=>⟨ad1,ρ,_,y,_,E.mono x1,S1,q2,fun v2 ad2 H2 x2 S2 d2=>⟨ad2,_,x,y,.bl k,_,S2,d1.mono x2,d2,q,fun v3 ad3 H3 x3 S3 d3=>⟨k,d3.ofBl,?_⟩⟩⟩⟩
   cases k with
   |false=>
    rw[if_neg Bf]at e ⊢;cases e;exact(p.later (x1.trans (x2.trans x3))).at S3 (.bl false)
   |true=>
    rw[if_pos rfl]at e ⊢;unfold Zz at e;rw[q2]at e;split at e
    ·rename_i y' s3 qq
     cases qq;split at e
     ·rename_i z s4 q4
      exact⟨ad3,ρ,_,z,s4,E.mono (x1.trans (x2.trans x3)),S3,q4,fun v4 ad4 H4 x4 S4 d4=>⟨ad4,s4,y,z,d,st',S4,d2.mono (x3.trans x4),d4,e,p.later (x1.trans (x2.trans (x3.trans x4)))⟩⟩
     ·exact Zb e
    ·exact Zb e
  ·exact Zb q
 ·exact Zb q
theorem ZeF{b:Expr}(hq:Zj b=true):(backTo pos (starEach [b] X.env)).any (·.1)=false:=Yr (by rw[aT,hq];rfl)
theorem ZfZ{f:Str}{a b:Expr}{x y:CE}{p:Pos}(K:Cxt X G F sc N)(hk:X.calm=true)(hg:Zq sc f=true)(hm:X.mg f=none)(hp:Zj a=true)(hq:Zj b=true)(A:PE X a (tE X.K (ev F x)))(B:PE X b (tE X.K (ev F y)))(h:Zhu f x y=some c):PE X (.Call (.Name f p) [a,b] [] pos) (tE X.K (ev F c)):=by
 have hG:=K.glb f hg;unfold Zhu at h;split at h
 ·rename_i e;subst e;cases h
  exact Zl (pe_callB (Za8 hk) hG hm Zhy (pa2 hp hq A B) (by decide) (by decide) (Zc hp) (ZeF hq)) Qx
 ·split at h
  ·rename_i e;subst e;cases h
   exact Zl (pe_callB (Za7 hk) hG hm Zhx (pa2 hp hq A B) (by decide) (by decide) (Zc hp) (ZeF hq)) Qx
  ·exact Zb h
theorem Zfb{K:Fg}{T:Ty}(σ:L2.St)(H:Hp)(Q:VK)(h:tE K (Zo fa (Ju T)) σ H Q) :
  tCB (fun vs H Q=>∃ v,vs=[v,.ty (tyN T)]/\rC K (on1 (Ju T)) [v] H Q) (tCons (tE K fa) (tCons (tC (.ty (tyN T))) tNil)) σ H Q:=by
 obtain⟨ad,ρ,st,d,st',E,S,e,p⟩:=h;unfold Zo at e;split at e
 ·rename_i x st1 q1
  exact⟨ad,ρ,st,x,st1,E,S,q1,fun v1 ad1 H1 x1 S1 d1=>⟨v1,rfl,ad1,st1,[x],d,st',S1,.cons d1 .nil,e,p.later x1⟩⟩
 ·exact Zb e
theorem Zek{b:Expr}{T:Ty}(K:Cxt X G F sc N)(h:ZaW G sc b=some T):Zj b=true/\PE X b (tC (.ty (tyN T))):=by
 cases b with
 |Name t p=>
  have h2:ZiW G sc t=some T:=h;clear h;unfold ZiW at h2;split at h2
  ·rename_i hg
   rw[Ba]at hg;have hm:X.mg t=none:=by
    have z:=hg.2;unfold Ud at z;split at z
    ·rename_i q;exact K.gl t _ q
    ·cases z
   have hG:=K.glb t hg.1;refine⟨rfl,?_⟩;unfold Zkp at h2;split at h2
   ·rename_i e;subst e;cases h2
    exact pe_bltn hG hm Zcb rfl
   ·split at h2
    ·rename_i e;subst e;cases h2
     exact pe_bltn hG hm ZeN rfl
    ·split at h2
     ·rename_i e;subst e;cases h2
      exact pe_bltn hG hm Zcc rfl
     ·split at h2
      ·rename_i e;subst e;cases h2
       exact pe_bltn hG hm Qh rfl
      ·exact Zb h2
  ·exact Zb h2
 |_=>simp[ZaW]at h
theorem ZiF{a b:Expr}{x:CE}{T:Ty}{p:Pos}(K:Cxt X G F sc N)(hg:Zq sc "isinstance"=true)(hm:X.mg "isinstance"=none)(hp:Zj a=true)(A:PE X a (tE X.K (ev F x)))(hT:ZaW G sc b=some T) :
  PE X (.Call (.Name "isinstance" p) [a,b] [] pos) (tE X.K (ev F (.isi T x))):=by
 obtain⟨hq,B⟩:=Zek K hT;exact Zl (pe_callB (Zci (T:=T)) (K.glb _ hg) hm XX (pa2 hp hq A B) (by decide) (by decide) (Zc hp) (ZeF hq)) Zfb
theorem Zcj{v:V}(ru:∀ u',RelV v u'->u'=u)(hk:∀ c∈exNums,XG X.K (ClsTab.ca c)->PySem.W.kitOne X.K (.ref (ClsTab.ca c)) u=some (l.contains c)):CallR X (.builtin "isinstance") (fun vs H Q=>∃ z,vs=[z,v]/\rC X.K (on1 (Zde l)) [z] H Q):=by
 intro pQ s σ H xs us Q I r h;obtain⟨z,rfl,ad,st,ds,d,st',S,hd,e,p⟩:=h;obtain⟨x,rfl,e1⟩:=Yd e;have e:=e1;obtain⟨w,hw,hv⟩:=Wh hd;cases hw;unfold Zde at e;split at e
 ·rename_i i
  cases e;cases hv with
  |obj g h h2=>
   obtain⟨g,gm⟩:=g;obtain⟨nm,qq,N,bs,bm,sn,sub,ab,col,dd,k0,k1,k2,k3,k5,newId,B,bmB,lk,T,FB⟩:=g.g.cl;obtain⟨ox,od,mA,J,_,_⟩:=Ex.look (H:=H) ⟨_,h,h2⟩ I.hok;cases r with
   |cons r1 r2=>cases r2 with
    |cons r3 r4=>
     cases r4;cases r1;cases ru _ r3
     exact PySem.W.kia_one (kit_x (ox:=ox) (od:=od) FB lk T g.g.ga g.g.gn g.g.gc g.g.gs g.g.gt g.g.gm (dict_cls g.g.gd)) I.kIn J (hk _ gm g) (fun z=>nomatch z) fun tk=>⟨.bl _,H,I.tok _,rfl,p.at S (.bl _)⟩
 ·exact Zb e
theorem Zfc{K:Fg}{v:V}(σ:L2.St)(H:Hp)(Q:VK)(h:tE K (Zo fa (Zde l)) σ H Q) :
  tCB (fun vs H Q=>∃ z,vs=[z,v]/\rC K (on1 (Zde l)) [z] H Q) (tCons (tE K fa) (tCons (tC v) tNil)) σ H Q:=by
 obtain⟨ad,ρ,st,d,st',E,S,e,p⟩:=h;unfold Zo at e;split at e
 ·rename_i x st1 q1
  exact⟨ad,ρ,st,x,st1,E,S,q1,fun v1 ad1 H1 x1 S1 d1=>⟨v1,rfl,ad1,st1,[x],d,st',S1,.cons d1 .nil,e,p.later x1⟩⟩
 ·exact Zb e
theorem ZiG{a b:Expr}{x:CE}{p:Pos}(K:Cxt X G F sc N)(hg:Zq sc "isinstance"=true)(hm:X.mg "isinstance"=none)(hp:Zj a=true)(A:PE X a (tE X.K (ev F x)))(hb:Jn G sc b=some l) :
  PE X (.Call (.Name "isinstance" p) [a,b] [] pos) (tE X.K (ev F (.isc (0 :: 0 :: 0 :: l) x))):=by
 have go:∀ {v:V}{u:vL},Zj b=true->PE X b (tC v)->(∀ u',RelV v u'->u'=u)->(∀ c∈exNums,XG X.K (ClsTab.ca c)->PySem.W.kitOne X.K (.ref (ClsTab.ca c)) u=some (l.contains c))->PE X (.Call (.Name "isinstance" p) [a,b] [] pos) (tE X.K (ev F (.isc (0 :: 0 :: 0 :: l) x))):=fun hq B ru hk=>
  Zl (pe_callB (Zcj ru hk) (K.glb _ hg) hm XX (pa2 hp hq A B) (by decide) (by decide) (Zc hp) (ZeF hq)) Zfc
 unfold Jn at hb;split at hb
 ·rename_i t tp
  split at hb
  ·rename_i gt
   unfold Zju at hb;split at hb
   ·rename_i i l' hG
    cases hb;obtain⟨h1,h2,_⟩:=K.gl t _ hG;exact go rfl (pe_glob (K.glb t gt) h1 (v:=.ref (ClsTab.ca i)) rfl (ZS gt)) (fun _ z=>z) fun c hc _=>h2 c hc
   ·rename_i hG
    split at hb
    ·rename_i ev
     cases hb;subst ev;exact go rfl (pe_bltn (K.glb _ gt) (K.gl _ _ hG) (show bootBuiltins "ValueError"=some (.type "ValueError") by decide +kernel) (v:=.ty "ValueError") rfl) (fun _ z=>z) fun c hc g=>by rw[g.kv];exact congrArg some (dX.mpr hc).symm
    ·exact Zb hb
   ·exact Zb hb
  ·exact Zb hb
 ·exact Zb hb
theorem Zf3{y:Str}{x:CE}(A:PE X (.Name y yp) (tE X.K (ev F x))):PE X (.Attribute (.Name y yp) "line" pos) (tE X.K (ev F (.isc [0] x))):=by
 intro pQ s σ H Q I h;obtain⟨ad,ρ,st,d,st',E,S,e,p⟩:=h;have e:Zo (ev F x) Zdk ρ st=some (d,st'):=e;unfold Zo at e;split at e
 ·rename_i z st1 q1
  unfold Zdk at e;split at e
  ·rename_i i
   cases e;refine attr_of rfl (thn (A pQ s σ H (fun v H1=>∃ ad1,Ext ad H ad1 H1/\StOk X.K ad1 H1 st'/\Den X.K ad1 H1 v (.obj i)) I ⟨ad,ρ,st,.obj i,st',E,S,q1,fun v ad1 H1 x1 S1 d1=>⟨ad1,x1,S1,d1⟩⟩) fun u s1 ⟨v,H1,I1,rv,ad1,x1,S1,d1⟩=>?_)
   cases d1 with
   |obj g h h2=>
    obtain⟨g,gm⟩:=g;obtain⟨nm,qq,N,bs,bm,sn,sub,ab,col,dd,k0,k1,k2,k3,k5,newId,B,bmB,lk,T,FB⟩:=g.g.cl;obtain⟨ox,od,mA,J,hl,r⟩:=Ex.look (H:=H1) ⟨_,h,h2⟩ I1.hok;obtain⟨u',hu,ru⟩:=RelO.some_of (v:=.int _) (o:=mA "line") (r "line");cases (show u=Value.ref _ from rv)
    obtain⟨hp,gg,d',tk,os⟩:=s1;exact gattr_x I1.kIn J FB (I1.kIn _ _ lk) T g.g.ga g.g.gn (PySem.W.findObj_own g.g.gd g.na rfl (by rw[hl,hu])) (handed_of ru) ⟨_,H1,I1.tok _,ru,(p.later x1).at S1 (.int _)⟩
  ·exact Zb e
 ·exact Zb e
noncomputable def tEX(E:XK)(K:Fg)(f:Ev):TE:=fun σ H Q=>∃ ad ρ st d st',EnvOk K ad H σ ρ/\StOk K ad H st/\f ρ st=some (d,st')/\Post K ad H d st' Q/\XPost E K ad H d st'
theorem Ua{K:Fg}{g:Fn}{dvs:Li V}(hd:∀ ad H,Dens K ad H dvs ds)(σ:L2.St)(H:Hp)(Q:VK)(h:tEX E1 K (Zo fe (V4 g ds)) σ H Q):tCall (spD K g) dvs E1 (tA K fe) σ H Q:=by
 obtain⟨ad,ρ,st,d,st',E,S,e,p1,p2⟩:=h;unfold Zo at e;split at e
 ·rename_i x st1 q1
  cases x with
  |tup xs=>exact⟨ad,ρ,st,xs,_,E,S,q1,fun vs ad1 H1 x1 S1 d1=>⟨ad1,xs++ds,_,d,st',S1,d1.append (hd _ _),e,p1.later x1,p2.later x1⟩⟩
  |_=>exact Zb e
 ·exact Zb e
theorem Zdu{E:XK}{K:Fg}{f:Ev}{g:Ev}(h:∀ ρ st,f ρ st=Wr (g ρ st))(σ:L2.St)(H:Hp)(Q:VK):tE K f σ H Q->tEX E K g σ H Q:=fun⟨ad,ρ,st,d,st',E,S,e,p⟩=>let ⟨e,xp⟩:=ZgW ((h ρ st).symm.trans e);⟨ad,ρ,st,d,st',E,S,e,p,xp _ _ _ _⟩
theorem QU(hx:Passes (CX1 X.prog X.w) X E1){f:Str}{p:Pos}(K:Cxt X G F sc N)(hg:Zq sc f=true)(hG:G.lookup f=some (.fn i ps ds))(hl:as.length<=ps/\ps<=as.length+ds.length)(A:PA X as (tA X.K (ev F cs))/\Ux cs/\as.all Zj=true/\(as=[]->cs=.aN)):PE X (.Call (.Name f p) as [] pos) (tEX E1 X.K (evX F (.call i cs (ds.drop (as.length+ds.length - ps))))):=by
 obtain⟨k,fa,fd,pn,Fk,hr,hm,hk,hb⟩:=K.gl f _ hG;obtain⟨dvs,us,hd,hv,hbn⟩:=hb (as.length+ds.length - ps) (by omega)
 obtain⟨PAs,_,hp,hn⟩:=A;cases as with
 |nil=>
  refine Zl (pe_call0 (E:=E1) Fk hr (K.glb f hg) hm hk hbn hv hx (ZS hg)) fun σ H Q h=>?_
  rw[hn rfl]at h;exact Vx σ H _ (Ua hd σ H Q h)
 |cons e es=>
  rw[aT,Ba]at hp;exact Zl (pe_call (E:=E1) Fk hr (K.glb f hg) hm hk hbn hv hx PAs (ZS hg) (Zc hp.1) (Yr hp.2)) (Ua hd)
theorem Zf1{f:Str}{p:Pos}(K:Cxt X G F sc N)(hg:Zq sc f=true)(hG:G.lookup f=some (.fn i ps ds))(hl:as.length<=ps/\ps<=as.length+ds.length)(A:PA X as (tA X.K (ev F cs))/\Ux cs/\as.all Zj=true/\(as=[]->cs=.aN)):PE X (.Call (.Name f p) as [] pos) (tE X.K (ev F (.call i cs (ds.drop (as.length+ds.length - ps))))):=
 Zl (QU ZaL K hg hG hl A) (Zdu fun ρ st=>by
  show Zo (ev F cs) (Qj (F i) _) ρ st=Wr (Zo (ev F cs) (V4 (F i) _) ρ st);unfold Zo;split<;>rfl)
theorem Vt{nm:Str}{b:Expr}(K:Cxt X G F sc N)(h:fnA G sc nm b=some as):∃ p pos,b=.Call (.Name nm p) as [] pos/\Gl X nm/\X.mg nm=none:=by
 obtain⟨q,h1,h2⟩:=aO.mp h;refine ZY h2 fun hc h3=>?_
 obtain⟨rfl,hg,hb⟩:=hc;cases h3;unfold ZgF at h1;split at h1
 ·cases h1
  refine⟨_,_,rfl,K.glb _ hg,?_⟩;unfold Ud at hb;split at hb
  ·rename_i q;exact K.gl _ _ q
  ·cases hb
 ·cases h1
theorem ZfJ{a:Expr}(h:Zj3 as=some a):as=[a]:=by
 cases as with
 |nil=>exact Zb h
 |cons x as=>cases as with
  |nil=>cases h;rfl
  |cons _ _=>exact Zb h
theorem VZ{b:Expr}(K:Cxt X G F sc N)(h:YA G sc b=some e):∃ p pos,b=.Call (.Name "range" p) [e] [] pos/\Gl X "range"/\X.mg "range"=none:=by
 obtain⟨as,h1,h2⟩:=aO.mp h;rw[ZfJ h2]at h1;exact Vt K h1
theorem ZiJ{f:Str}{a:Expr}{o:Ot CE}{c:CE}{p:Pos}(K:Cxt X G F sc N)(hk:X.calm=true)(hg:Zq sc f=true)(hm:X.mg f=none)(hb:J1 G sc f a=some e)(B:∀ c,o=some c->Zj e=true/\PE X e (tE X.K (ev F c)))(h:o.map CE.tupR=some c):SE X F (.Call (.Name f p) [a] [] pos) c:=by cases hb
noncomputable def rLk(K:Fg)(A:Ad)(ks:Li Str)(ds:Li D):R2:=fun x y H Q=>x=.ref A/\∃ k d,y=.str k/\YZ ks ds k=some d/\∀ v,(∀ ad H,Den K ad H v d)->Q v H
theorem ZjG{A:Ad}{o:Obj}(lk:X.K.lookup A=some o)(ex:o.ExactDict)(hd:o.data=.dict es ep)(hm:(A==sysModules)=false)(nd:ks.Nodup)(eo:EsOk X.w.params X.K es.toList ks ds):IxR X (rLk X.K A ks ds):=by
 intro value slice pQ s σ H x y v u Q I rx ry h hs;obtain⟨rfl,k,d,rfl,he,q⟩:=h;cases rx;obtain⟨kvs,pr,kn,kk,val⟩:=eo.open (P:=X.prog);have dd:s.heap.DictOf (mixKind X.prog X.w) A kvs:=by
  refine⟨o,es,ep,I.kIn A o lk,ex,hd,fun e he=>kk e (by simpa using he),pr,?_⟩
  rw[kn];exact List.pairwise_map.mpr (nd.imp fun h z=>h (Sum.inr.inj z))
 obtain⟨w,z,hw,rw',dn⟩:=val k d he;exact tail_any dd.typeIs PySem.F.slot_dict_getitem.lookup (wpAny_getItem_of (kV_is (k:=Sum.inr k) ry) dd.mapOf hw ⟨z,H,I.tok _,rw',q z dn⟩) hs
theorem ZcZ{K:Fg}{A:Ad}(σ:L2.St)(H:Hp)(Q:VK)(h:tE K (Zo fa (Ug ks ds)) σ H Q):tOp (rLk K A ks ds) (tC (.ref A)) (tE K fa) σ H Q:=by
 obtain⟨ad,ρ,st,d,st',E,S,e,p⟩:=h;unfold Zo at e;split at e
 ·rename_i x st1 q1
  unfold Ug at e;split at e
  ·rename_i k
   split at e
   ·rename_i d' hl
    cases e;exact⟨ad,ρ,st,.str k,_,E,S,q1,fun v ad1 H1 x1 S1 d1=>⟨rfl,k,d,d1.ofStr,hl,fun w dn=>p w ad1 H1 x1 S1 (dn ad1 H1)⟩⟩
   ·exact Zb e
  ·exact Zb e
 ·exact Zb e
theorem Zgv{p:Expr×Expr}(h:Zej as=some p):as=[p.1,p.2]:=by
 cases as with
 |nil=>exact Zb h
 |cons x as=>cases as with
  |nil=>exact Zb h
  |cons y as=>cases as with
   |nil=>cases h;rfl
   |cons _ _=>exact Zb h
theorem Zf5{f:Str}{a u v:Expr}{x y:CE}{p:Pos}(K:Cxt X G F sc N)(hk:X.calm=true)(hg:Zq sc f=true)(hm:X.mg f=none)(hb:JC G sc f a=some (u,v))(hu:Zj u=true)(hv:Zj v=true)(A:PE X u (tE X.K (ev F x)))(B:PE X v (tE X.K (ev F y))):PE X (.Call (.Name f p) [a] [] pos) (tE X.K (ev F (.lstR x y))):=by cases hb
theorem Zf4{a b:Expr}{y:CE}(K:Cxt X G F sc N)(hn:WX G sc a=some (ks,ds))(hp:Zj b=true)(B:PE X b (tE X.K (ev F y))):PE X (.Subscript a b pos) (tE X.K (ev F (.look ks ds y))):=by
 unfold WX at hn;split at hn
 ·split at hn
  ·rename_i hg
   split at hn
   ·rename_i q
    cases hn;obtain⟨A,o,es,ep,hm,lk,ex,hd,hs,nd,eo⟩:=K.gl _ _ q;exact Zl (pe_ix (ZjG lk ex hd hs nd eo) (pe_glob (K.glb _ hg) hm (show RelV (.ref A) (.ref A) from rfl) (ZS hg)) B (QD hp)) ZcZ
   ·exact Zb hn
  ·exact Zb hn
 ·exact Zb hn
theorem Zkb{f:Str}{ms:Li (Str×Nat×Nat)}{subs:Li Nat}{p:Pos}(K:Cxt X G F sc N)(hg:Zq sc f=true)(hG:G.lookup f=some (.cls i ms subs))(hl:ms.lookup ("__init__":Str)=some (j,1)):PE X (.Call (.Name f p) [] [] pos) (tE X.K (ev F (.isc [i,j] .aN))):=by
 obtain⟨hm,nw,hms⟩:=K.gl f _ hG;obtain⟨k,fa,fd,pn,Fk,hr,hme,hb⟩:=hms _ j 1 hl;intro pQ s σ H Q I h;obtain⟨ad,ρ,st,d,st',E,S,e,q⟩:=h;have e:(match F j [.dic st.length] (st++[(true,[.int i])]) with
  |some (.non,st')=>some (D.dic st.length,st')
  |_=>none)=some (d,st'):=e
 split at e
 ·rename_i st2 q2
  cases e;refine wpAny_Call_Name_kw (ld_glob I (K.glb f hg) hm ?_ (ZS hg));refine PySem.W.callWith_K0 I.kIn nw.kp (run_make (us:=[]) (vs:=[]) (E:=E0) ⟨nw.makes,hme.at_,hme.fn,nw.kp⟩ Fk hr hb .nil ZaL I .nil fun x dx hx hdx hne hk=>?_)
  have hx2:upd H dx (.own x) x=none:=by rw[upd_ne hne.symm];exact hx
  have S1:=S.laid (o:=.own x) hdx;have xt:=(Ext.laid (ad:=ad) (o:=.own x) hdx).trans (S1.extD (o:=.ins (ClsTab.ca i) dx []) hx2 hk);have gl:(ad++[x])[st.length]?=some x:=by rw[<-S.len];exact ZI
  exact⟨ad++[x],[.dic st.length],_,.non,_,S1.pushO hx2 hk nw.oc,.cons (.dic gl ⟨_,upd_same,rfl⟩) .nil,q2,(fun v ad2 H2 x2 S2 d2=>⟨d2.ofNon,q _ ad2 H2 (xt.trans x2) S2 (.dic (x2.pre _ _ gl) ((x2.kd _ _ gl).mp ⟨_,upd_same,rfl⟩))⟩),trivial⟩
 ·exact Zb e
theorem Zfa{K:Fg}{f:Str}(hf:fldNames.contains f=true)(σ:L2.St)(H:Hp)(Q:VK)(h:tE K (Zo fa (ZcG [f])) σ H Q):tFld K (tE K fa) f σ H Q:=by
 obtain⟨ad,ρ,st,d,st',E,S,e,p⟩:=h;unfold Zo at e;split at e
 ·rename_i x st1 q1
  unfold ZcG at e;split at e
  ·rename_i f' a hz
   cases hz;split at e
   ·rename_i b c es q2
    split at e
    ·rename_i w q3
     cases e;refine⟨ad,ρ,st,.dic a,_,E,S,q1,fun v ad1 H1 x1 S1 d1=>?_⟩
     obtain⟨l,rfl,hl,n⟩:=d1.ofDic;obtain⟨j,dx,kvs,rfl,r,ho,_,oc,nf⟩:=S1.obj hl n q2;rcases V6 (x:=f) r with⟨u,d0,e1,e2,e3⟩|⟨_,e2⟩
     ·rw[e2]at q3
      cases q3;exact⟨l,_,dx,kvs,u,rfl,ho,oc.cl,oc.na f hf,e1.2,(p.later x1).at S1 e3⟩
     ·rw[e2]at q3;cases q3
    ·exact Zb e
   ·exact Zb e
  ·exact Zb e
 ·exact Zb e
theorem ZiD{f:Str}{c:Ot CE}{r:CE}(A:∀ x,c=some x->PE X o (tE X.K (ev F x)))(h:ZhM o f c=some r):PE X (.Attribute o f pos) (tE X.K (ev F r)):=by
 cases o with
 |Name y yp=>
  unfold ZhM at h;by_cases z:f = "line"
  ·subst z
   rw[if_pos rfl]at h;exact X9 (P:=fun r=>PE X _ (tE X.K (ev F r))) h fun x hx=>Zf3 (A x hx)
  rw[if_neg z]at h;exact ZY h fun hc h=>X9 (P:=fun r=>PE X _ (tE X.K (ev F r))) h fun x hx=>Zl (pe_fld (A x hx) rfl) (Zfa hc)
 |_=>exact Zb h
theorem ZgQ{α:Type}:∀ {us:Li α},us.length=1->∃ a,us=[a]
 |[a],_=>⟨a,rfl⟩
theorem Zbq(h:as.all Zj=true)(hl:as.length < 20):((backTo pos (starEach as env)).all (fun x=>!x.1)&&(backToKw pos (keywordEach [] env)).all (fun x=>x.1.isSome)
  &&decide (as.length+([]:Li Keyword).length+(if ([]:Li Keyword).isEmpty then 0 else 1) < 30))=true:=by
 have a:=Yr (pos:=pos) (env:=env) h;have b:(backTo pos (starEach as env)).all (fun x=>!x.1)=true:=by
  rw[bY];intro x hx;have:=List.any_eq_false.mp a x hx;simpa using this
 rw[b,aW (show as.length+([]:Li Keyword).length+(if ([]:Li Keyword).isEmpty then 0 else 1) < 30 by simp;omega)]
 rfl
theorem Zfx{name:Str}{apos:Pos}{args:Li Expr}{Q:vL->Sd->Prop}(hbase:attributeBase o name X.env (eval o X.env)=eval o X.env)(hfew:((backTo pos (starEach args X.env)).all (fun x=>!x.1)&&(backToKw pos (keywordEach [] X.env)).all (fun x=>x.1.isSome)&&decide (args.length+([]:Li Keyword).length+(if ([]:Li Keyword).isEmpty then 0 else 1) < 30))=true)(hline:(apos.endLine==pos.line)=true)(h:wpAny (model X.prog X.w) X.A (eval o X.env) (fun ov s₁=>∀ pl,wpAny (model X.prog X.w) X.A (getMethod ov name pl) (fun fx s₂=>wpAny (model X.prog X.w) X.A (callWith pos fx.1 fx.2 (backTo pos (starEach args X.env)) (backToKw pos (keywordEach [] X.env))) Q X.xe s₂) X.xe s₁) X.xe s) :
  wpAny (model X.prog X.w) X.A (eval (.Call (.Attribute o name apos) args [] pos) X.env) Q X.xe s:=by
 rw[arm_eval_Call,hbase];refine aA (aU h (fun ov s₁ h₁=>?_) fun _ _ e=>e)
 refine aA (wpAny_standAt ?_);have hform:methodCallForm (args.length+([]:Li Keyword).length) (backTo pos (starEach args X.env)) (backToKw pos (keywordEach [] X.env))=true:=hfew;have hpos:methodCallPos true o X.env apos pos=pure pos:=by unfold methodCallPos;simp[hline]
 unfold methodCall;rw[hform];refine aA (wpAny_holding ?_);exact aU (h₁ _) (fun fx s₂ h₂=>aA (wpAny_of_eq hpos h₂)) fun _ _ e=>e
theorem ZiU{k:Nat}(h:(YL m k G).lookup i=some j):∃ x ms subs,G.lookup x=some (.cls i ms subs)/\ms.lookup m=some (j,k+1):=by
 have hm:(i,j)∈YL m k G:=by
  generalize YL m k G=l at h
  induction l with
  |nil=>exact Zb h
  |cons p l ih=>
   obtain⟨a,b⟩:=p;rw[bB]at h;split at h
   ·rename_i z
    cases h;rw[beq_iff_eq.mp z];exact Ls
   ·exact Lm _ (ih h)
 obtain⟨x,_,hx⟩:=dN.mp hm;unfold ZgV at hx;split at hx
 ·rename_i i' ms subs q
  split at hx
  ·rename_i j' ps q2
   split at hx
   ·rename_i e
    subst e;cases hx;exact⟨x,ms,subs,q,q2⟩
   ·exact Zb hx
  ·exact Zb hx
 ·exact Zb hx
def Zix:V->Li V->Hp->VK->Prop:=fun x xs H Q=>∃ z y,x=.str z/\xs=[.str y]/\(y.length=1/\z.length<=Ze)/\∀ p,H p=none->Q (.ref p) (upd H p (.lst ((XJ z y).map V.str)))
theorem Zbu(σ:L2.St)(H:Hp)(Q:VK)(h:tE X.K (Zz fa fb Zec) σ H Q):tBM X.K "str" Zix (tE X.K fa) (tA X.K fb) σ H Q:=by
 obtain⟨ad,ρ,st,d,st',E,S,e,p⟩:=h;unfold Zz at e;split at e
 ·rename_i dx st1 q1
  split at e
  ·rename_i dy st2 q2
   unfold Zec at e;split at e
   ·rename_i x y
    split at e
    ·rename_i c
     cases e;refine⟨ad,ρ,st,.str x,st1,E,S,q1,fun v ad1 H1 x1 S1 d1=>?_⟩
     cases d1;refine⟨rfl,ad1,ρ,st1,[.str y],_,E.mono x1,S1,q2,fun vs ad2 H2 x2 S2 d2=>?_⟩
     obtain⟨w,rfl,dw⟩:=Wh d2;cases dw;refine⟨x,y,rfl,rfl,c,fun q hq=>p.later (x1.trans x2) _ (ad2++[q]) _ (Ext.push hq) (S2.push hq (Uv _)) (.newL ?_)⟩
     rw[<-S2.len];exact ZI
    ·exact Zb e
   ·exact Zb e
  ·exact Zb e
 ·exact Zb e
theorem ZiI{y:Str}{x:CE}(hline:(ap.endLine==cp.line)=true)(hlen:as.length=1)(B:PE X (.Name y yp) (tE X.K (ev F x)))(A:PA X as (tA X.K (ev F cs))/\Ux cs/\as.all Zj=true/\(as=[]->cs=.aN)):PE X (.Call (.Attribute (.Name y yp) "split" ap) as [] cp) (tE X.K (ev F (.tix x cs))):=by
 obtain⟨PAs,_,hp,_⟩:=A;obtain⟨e0,rfl⟩:=ZgQ hlen;rw[aT,Ba]at hp;exact Zl (pe_bm PySem.F.plainAttrs_str PySem.F.slot_str_split PySem.F.type_str_split Zdo B PAs rfl (by rw[Zc hp.1];rfl) hline (Zc hp.1) rfl) Zbu
theorem ZaT{k:Str}:∀ {ks:Li Str}{kvs:Li (Key×vL)},kvs.map (·.1)=ks.map Sum.inr->(valueAt kvs (Sum.inr k)).isSome=ks.contains k
 |[],[],_=>rfl
 |[],_ :: _,h=>nomatch h
 |_ :: _,[],h=>nomatch h
 |a :: ks,p :: kvs,h=>by
  rw[aP,aP]at h
  injection h with h1 h2
  have ih:=ZaT (k:=k) h2;unfold valueAt at ih ⊢
  rw[bV];by_cases c:a=k
  ·subst c
   rw[List.find?_cons_of_pos (by simpa using h1),beq_self_eq_true];rfl
  ·rw[eC (by rw[h1];simpa using c),ih,show(k==a)=false from bH.mpr fun z=>c z.symm,Bool.false_or]
theorem ZhU{A:Ad}{o:Obj}(lk:X.K.lookup A=some o)(ex:o.ExactDict)(hd:o.data=.dict es ep)(hm:(A==sysModules)=false)(nd:ks.Nodup)(eo:EsOk X.w.params X.K es.toList ks ds){k:Str}(I:L2.Inv X pQ σ H s)(ru:RelV (.str k) u) :
  CW2 X pQ σ Q s H .In .NotIn u (.ref A) (ks.contains k):=by
 obtain⟨kvs,pr,kn,kk,val⟩:=eo.open (P:=X.prog);have dd:s.heap.DictOf (mixKind X.prog X.w) A kvs:=by
  refine⟨o,es,ep,I.kIn A o lk,ex,hd,fun e he=>kk e (by simpa using he),pr,?_⟩
  rw[kn];exact List.pairwise_map.mpr (nd.imp fun h z=>h (Sum.inr.inj z))
 have e:=ZaT (k:=k) kn;rw[<-e];exact⟨fun q=>wpAny_in_of (kV_is (k:=Sum.inr k) ru) hm dd.mapOf ⟨.bl _,H,I.tok _,rfl,q⟩,fun q=>wpAny_notIn_of (kV_is (k:=Sum.inr k) ru) hm dd.mapOf ⟨.bl _,H,I.tok _,rfl,q⟩⟩
theorem ZiE{a b:Expr}{x:CE}{ng:Bool}(K:Cxt X G F sc N)(hn:WX G sc b=some (ks,ds))(hg:ZhS op=some ng)(A:PE X a (tE X.K (ev F x))):SE X F (.Compare a [op] [b] pos) (.cmp op x (.cst (.kt ks))):=by
 cases b with
 |Name t tp=>
  replace hn:(if Zq sc t then (match G.lookup t with
   |some (.dct ks ds)=>some (ks,ds)
   |_=>none) else none)=some (ks,ds):=hn
  split at hn
  ·rename_i hg1
   split at hn
   ·rename_i q
    cases hn;obtain⟨A0,o,es,ep,hm,lk,ex,hd,hs,nd,eo⟩:=K.gl _ _ q;have B:PE X (.Name t tp) (tC (.ref A0)):=pe_glob (K.glb _ hg1) hm (show RelV (.ref A0) (.ref A0) from rfl) (ZS hg1);have R:OpR X (compareOp op) (fun u v H Q=>∃ k b,u=.str k/\v=.ref A0/\X6 op (.str k) (.kt ks) []=some b/\Q (.bl b) H):=by
     intro pQ s σ H u v u' v' Q I ru rv h;obtain⟨k,b,rfl,rfl,hb,q⟩:=h;cases rv;have z:=ZhU (Q:=Q) lk ex hd hs nd eo I ru;cases op with
     |In=>cases hb;exact z.1 q
     |NotIn=>cases hb;exact z.2 q
     |_=>exact Zb hg
    have I0:∀ σ H Q,tE X.K (ev F (.cmp op x (.cst (.kt ks)))) σ H Q->tOp (fun u v H Q=>∃ k b,u=.str k/\v=.ref A0/\X6 op (.str k) (.kt ks) []=some b/\Q (.bl b) H) (tE X.K (ev F x)) (tC (.ref A0)) σ H Q:=fun σ H Q h=>by
     obtain⟨ad,ρ,st,d,st',E,S,e,p⟩:=h;have e:Zz (ev F x) (evC (.kt ks)) (Xp op) ρ st=some (d,st'):=e;unfold Zz at e;split at e
     ·rename_i dx st1 q1
      have e:Xp op dx (.kt ks) st1=some (d,st'):=e;refine⟨ad,ρ,st,dx,st1,E,S,q1,fun v ad1 H1 x1 S1 d1=>?_⟩
      obtain⟨k0,rfl,rfl⟩:=Vq e;unfold Xp at e;split at e
      ·rename_i kb hb
       cases e;obtain⟨w,rfl⟩:∃ w,dx=.str w:=by
        cases op with
        |In=>cases dx<;>first|exact⟨_,rfl⟩|cases hb
        |NotIn=>cases dx<;>first|exact⟨_,rfl⟩|cases hb
        |_=>exact Zb hg
       refine⟨w,k0,d1.ofStr,rfl,?_,(p.later x1).at S1 (.bl _)⟩;cases op with
       |In=>exact hb
       |NotIn=>exact hb
       |_=>exact Zb hg
      ·exact Zb e
     ·exact Zb e
    exact⟨Zl (pe_cmpR R A B (Yl rfl)) I0,Wa (pt_cmpR R A B (Yl rfl)) fun σ H Q q=>I0 σ H _ (UL σ H Q q)⟩
   ·exact Zb hn
  ·exact Zb hn
 |_=>exact Zb hn
def ZfT:V->Li V->Hp->VK->Prop:=fun x xs H Q=>∃ z y,x=.str z/\xs=[.str y]/\Q (.bl (stW z y)) H
def ZgZ(K:Fg):V->Li V->Hp->VK->Prop:=fun x xs H Q=>∃ z a ys,x=.str z/\xs=[.ref a]/\SqL K H a (ys.map V.str)/\(Z6 z ys).length<=Ze/\Q (.str ⟨(Xv z ys).toArray⟩) H
theorem Jq(σ:L2.St)(H:Hp)(Q:VK)(h:tE X.K (Zz fa fb Vj) σ H Q):tBM X.K "str" ZfT (tE X.K fa) (tA X.K fb) σ H Q:=by
 obtain⟨ad,ρ,st,d,st',E,S,e,p⟩:=h;unfold Zz at e;split at e
 ·rename_i dx st1 q1
  split at e
  ·rename_i dy st2 q2
   unfold Vj at e;split at e
   ·rename_i x y
    cases e;refine⟨ad,ρ,st,.str x,st1,E,S,q1,fun v ad1 H1 x1 S1 d1=>?_⟩
    cases d1;refine⟨rfl,ad1,ρ,st1,[.str y],_,E.mono x1,S1,q2,fun vs ad2 H2 x2 S2 d2=>?_⟩
    obtain⟨w,rfl,dw⟩:=Wh d2;cases dw;exact⟨x,y,rfl,rfl,(p.later (x1.trans x2)).at S2 (.bl _)⟩
   ·exact Zb e
  ·exact Zb e
 ·exact Zb e
theorem ZaR{K:Fg}{ad:Li Ad}{H:Hp}:∀ {ys:Li V}{ds:Li D}{xs:Li Str},Dens K ad H ys ds->W1 ds=some xs->ys=xs.map V.str
 |_,_,_,.nil,h=>by cases h;rfl
 |_,d :: ds,xs,.cons a r,h=>by
  cases d with
  |str x=>
   obtain⟨zs,h1,h2⟩:=cZ.mp (show(W1 ds).map (x :: ·)=some xs from h);cases h2;cases a;rw[ZaR r h1];rfl
  |_=>exact Zb h
theorem ZcY{K:Fg}(σ:L2.St)(H:Hp)(Q:VK)(h:tE K (Zz fa fb Ue) σ H Q):tBM K "str" (ZgZ K) (tE K fa) (tCons (tE K fb) tNil) σ H Q:=by
 obtain⟨ad,ρ,st,d,st',E,S,e,p⟩:=h;unfold Zz at e;split at e
 ·rename_i dx st1 q1
  split at e
  ·rename_i dy st2 q2
   unfold Ue at e;split at e
   ·rename_i s a
    split at e
    ·rename_i bb ds q3
     have core:∀ {xs:Li Str}{d':D}{s':Za},W1 ds=some xs->(Z6 s xs).length<=Ze->Post K ad H (.str ⟨(Xv s xs).toArray⟩) st2 Q->tBM K "str" (ZgZ K) (tE K fa) (tCons (tE K fb) tNil) σ H Q:=fun {xs d' s'} hx hz p=>by
      refine⟨ad,ρ,st,.str s,st1,E,S,q1,fun v ad1 H1 x1 S1 d1=>?_⟩
      cases d1;refine⟨rfl,ad1,ρ,st1,.lst a,_,E.mono x1,S1,q2,fun w ad2 H2 x2 S2 d2=>?_⟩
      obtain⟨l,rfl,hl⟩:=d2.ofLst;obtain⟨ys,rv,sq⟩:=S2.list hl q3;have ey:=ZaR rv hx;subst ey;exact⟨s,l,xs,rfl,rfl,sq,hz,(p.later (x1.trans x2)).at S2 (.str _)⟩
     split at e
     ·rename_i hs
      unfold Zax at e;split at e
      ·rename_i xs hx
       split at e
       ·rename_i hz
        cases e;exact core (d':=.non) (s':=[]) hx (by rw[Vv hs];exact hz) (by rw[ZcL hs];exact p)
       ·exact Zb e
      ·exact Zb e
     ·unfold Zaw at e
      split at e
      ·rename_i xs hx
       split at e
       ·rename_i hz
        cases e;exact core (d':=.non) (s':=[]) hx hz p
       ·exact Zb e
      ·exact Zb e
    ·exact Zb e
   ·exact Zb e
  ·exact Zb e
 ·exact Zb e
theorem ZbL{y:Str}{x:CE}(hline:(ap.endLine==cp.line)=true)(hlen:as.length=1)(B:PE X (.Name y yp) (tE X.K (ev F x)))(A:PA X as (tA X.K (ev F cs))/\Ux cs/\as.all Zj=true/\(as=[]->cs=.aN)):PE X (.Call (.Attribute (.Name y yp) "startswith" ap) as [] cp) (tE X.K (ev F (.starts x cs))):=by
 obtain⟨PAs,_,hp,_⟩:=A;obtain⟨e0,rfl⟩:=ZgQ hlen;rw[aT,Ba]at hp;exact Zl (pe_bm PySem.F.plainAttrs_str PySem.F.slot_str_startswith PySem.F.type_str_startswith ZbE B PAs rfl (by rw[Zc hp.1];rfl) hline (Zc hp.1) rfl) Jq
theorem Zf2{v:Const}{kd:Nat}{kp:Pos}{a:Expr}{x z:CE}(hline:(ap.endLine==cp.line)=true)(hp:Zj a=true)(B:PE X (.Constant v kd kp) (tE X.K (ev F x)))(A:PE X a (tE X.K (ev F z))):PE X (.Call (.Attribute (.Constant v kd kp) "join" ap) [a] [] cp) (tE X.K (ev F (.joinE x z))):=
 Zl (pe_bm PySem.F.plainAttrs_str PySem.F.slot_str_join PySem.F.type_str_join Zfz B (pa1 hp A) rfl (by rw[Zc hp];rfl) hline (Zc hp) rfl) ZcY
theorem QV(hx:Passes (CX1 X.prog X.w) X E1){y:Str}{x:CE}(K:Cxt X G F sc N)(hline:(ap.endLine==cp.line)=true)(hlen:as.length < 20)(B:PE X (.Name y yp) (tE X.K (ev F x)))(A:PA X as (tA X.K (ev F cs))/\Ux cs/\as.all Zj=true/\(as=[]->cs=.aN)):PE X (.Call (.Attribute (.Name y yp) m ap) as [] cp) (tEX E1 X.K (WY F (YL m as.length G) (ev F x) (ev F cs))):=by
 obtain⟨PAs,_,hp,hn⟩:=A;intro pQ s σ H Q I h;obtain⟨ad,ρ,st,d,st',E,S,e,p,xp⟩:=h;unfold WY at e;split at e
 ·rename_i i st1 q1
  split at e
  ·rename_i b c es q0
   split at e
   ·rename_i j hj
    split at e
    ·rename_i xs st2 q2
     obtain⟨cx,ms,subs,hG,hl⟩:=ZiU hj;obtain⟨_,nw,hms⟩:=K.gl cx _ hG;obtain⟨k,f,fd,pn,Fk,hr,hme,hb⟩:=hms m j _ hl;have hr:=hr.mono (Nat.le_succ k);refine Zfx rfl (Zbq hp hlen) hline (thn (B pQ s σ H (fun v H1=>∃ ad1,Ext ad H ad1 H1/\StOk X.K ad1 H1 st1/\Den X.K ad1 H1 v (.dic i)) I ⟨ad,ρ,st,.dic i,st1,E,S,q1,fun v ad1 H1 x1 S1 d1=>⟨ad1,x1,S1,d1⟩⟩) fun u s1 ⟨v,H1,I1,rv,ad1,x1,S1,d1⟩ pl=>?_)
     obtain⟨a,rfl,hl1,n1⟩:=d1.ofDic;obtain⟨jc,dx,kvs,rfl,r,ho,_,oc,nf⟩:=S1.obj hl1 n1 q0;cases (show u=Value.ref a from rv)
     rw[bL]at hme;have hmf:fldNames.contains m=false:=by
      cases z:fldNames.contains m with
      |false=>rfl
      |true=>have z1:=oc.na m z;have z2:=hme.at_;unfold NoAttr at z1;rw[z1]at z2;cases z2
     refine getmeth_ok I1 ho oc.cl hme (nf m hmf) ?_;cases as with
     |nil=>
      have hc:=hn rfl;subst hc;have q2:some (D.tup [],st1)=some (.tup xs,st2):=q2;cases q2;exact PySem.W.callWith_K0 (first:=[.ref a]) I1.kIn hme.kp (run_fn (us:=[.ref a]) (vs:=[.ref a]) (E:=E1) Fk hr hb .nil hx I1 (.cons rfl .nil) ⟨ad1,[.dic i],st1,d,st',S1,.cons d1 .nil,e,p.later x1,xp.later x1⟩)
     |cons e0 es0=>
      rw[aT,Ba]at hp;refine PySem.W.callWith_K (first:=[.ref a]) (h₀:=X.base) I.ok.mod.kin hme.kp (thn (PAs cp pQ s1 σ H1 _ I1 ⟨ad1,ρ,st1,xs,st2,E.mono x1,S1,q2,fun vs ad2 H2 x2 S2 d2=>(show(fun vs H2=>∃ ad2,Ext ad1 H1 ad2 H2/\StOk X.K ad2 H2 st2/\Dens X.K ad2 H2 vs xs) vs H2 from⟨ad2,x2,S2,d2⟩)⟩) fun us s2 ⟨vs,H2,I2,r,ad2,x2,S2,d2⟩=>⟨I2.kIn,?_⟩) (Zc hp.1) (Yr hp.2)
      refine run_fn (us:=.ref a :: us) (vs:=.ref a :: vs) (E:=E1) Fk hr hb .nil hx I2 (.cons rfl r) ?_;rw[bU];exact⟨ad2,.dic i :: xs,st2,d,st',S2,.cons (d1.mono x2) d2,e,p.later (x1.trans x2),xp.later (x1.trans x2)⟩
    ·exact Zb e
   ·exact Zb e
  ·exact Zb e
 ·exact Zb e
theorem Zf6{y:Str}{x:CE}(K:Cxt X G F sc N)(hline:(ap.endLine==cp.line)=true)(hlen:as.length < 20)(B:PE X (.Name y yp) (tE X.K (ev F x)))(A:PA X as (tA X.K (ev F cs))/\Ux cs/\as.all Zj=true/\(as=[]->cs=.aN)):PE X (.Call (.Attribute (.Name y yp) m ap) as [] cp) (tE X.K (ev F (.meth (YL m as.length G) x cs))):=
 Zl (QV ZaL K hline hlen B A) (Zdu fun _ _=>rfl)
theorem JT{b:Expr}{p:Ot Expr×Ot Expr}(q:Vi b=some p):∃ p2,b=.Slice p.1 p.2 none p2:=by
 unfold Vi at q;split at q
 ·cases q;exact⟨_,rfl⟩
 ·exact Zb q
theorem Zkc{op:UnaryOp}{a:Expr}{o:Ot CE}(A:∀ x,o=some x->SE X F a x)(h:unC op o=some c):SE X F (.UnaryOp op a pos) c:=by
 cases op with
 |Not=>exact X9 (P:=SE X F _) (show o.map CE.not=some c from h) fun x hx=>⟨Zl (pe_not (A x hx).pe) Zc1,Wa (pt_not (A x hx).pt) Zc0⟩
 |USub=>exact X9 (P:=SE X F _) (show o.map CE.neg=some c from h) fun x hx=>.of (Zl (pe_un Zgx (A x hx).pe) ZhR)
 |_=>exact Zb h
section
variable {X:Cx}{sc:Scope}{N:Li Str}{n:Nat}{c:CE} (K:Cxt X G F sc N) (hf:∀ e c,cE G n sc N e=some c->SE X F e c)
include K hf
theorem ZiC{a:Expr}{ops:Li CmpOp}{bs:Li Expr}(h:Zji G sc (cE G n sc N) (cE G n sc N a) ops bs=some c):SE X F (.Compare a ops bs pos) c:=by
 cases ops with
 |nil=>exact Zb h
 |cons op ops=>cases bs with
  |nil=>cases ops with
   |nil=>exact Zb h
   |cons _ r=>cases r<;>cases h
  |cons b bs=>cases ops with
   |nil=>cases bs with
    |cons _ _=>exact Zb h
    |nil=>
     replace h:(match WX G sc b with
      |some (ks,_)=>o2 (fun _ x=>CE.cmp op x (.cst (.kt ks))) (ZhS op) (cE G n sc N a)
      |none=>o2 (CE.cmp op) (cE G n sc N a) (cE G n sc N b))=some c:=h
     cases hn:WX G sc b with
      |some p=>
       obtain⟨ks,ds⟩:=p;rw[hn]at h;exact ZQ (P:=SE X F _) h fun ng x hg hx=>ZiE K hn hg (hf a x hx).pe
      |none=>
      rw[hn]at h;exact ZQ (P:=SE X F _) h fun x y hx hy=>⟨Zl (pe_cmpR (XO K.hu) (hf a x hx).pe (hf b y hy).pe (Yl (Zh hy))) UJ,Wa (pt_cmpR (XO K.hu) (hf a x hx).pe (hf b y hy).pe (Yl (Zh hy))) fun σ H Q q=>UJ σ H _ (UL σ H Q q)⟩
   |cons op2 ops=>cases ops with
    |cons _ _=>exact Zb h
    |nil=>cases bs with
     |nil=>exact Zb h
     |cons b2 bs=>cases bs with
      |cons _ _=>exact Zb h
      |nil=>
       refine j_e h fun h=>WM (P:=fun o=>o=some c->SE X F _ c) h (fun x y z hx hy hz h=>ZY h fun hr h=>?_) rfl
       cases h;have hm:lastMarks [op,op2] [b,b2]=false:=Yl (op:=op2) (Zh hz);exact⟨Zl (pe_chain (XO K.hu) (XO K.hu) (hf a x hx).pe (hf b y hy).pe (hf b2 z hz).pe hm) (Ub fun _ _ _ _=>Uq hr),Wa (pt_chain (XO K.hu) (XO K.hu) (hf a x hx).pe (hf b y hy).pe (hf b2 z hz).pe hm) fun σ H Q q=>Ub (fun _ _ _ _=>Uq hr) σ H _ (UL σ H Q q)⟩
omit K in
theorem Zf0{op:BoolOp}{vs:Li Expr}{pos:Pos}(h:ZgD (cE G n sc N) op pos vs=some c):SE X F (.BoolOp op vs pos) c:=by
 cases vs with
 |nil=>exact Zb h
 |cons a r=>cases r with
  |nil=>
   have A:=hf a c h;refine⟨pe_one A.pe,?_⟩;cases op with
   |And=>exact(pw_and1 A.pt).pt
   |Or=>exact(pw_or1 A.pt).pt
  |cons b r=>cases op with
   |And=>exact ZQ (P:=SE X F _) (show o2 CE.and (cE G n sc N a) (cE G n sc N (.BoolOp .And (b :: r) pos))=some c from h) fun x y hx hy=>⟨Zl (pe_and (hf a x hx).pe (hf _ y hy).pe) ZcO,Wa (pw_and (hf a x hx).pt (QP (hf _ y hy).pt)).pt ZcN⟩
   |Or=>exact ZQ (P:=SE X F _) (show o2 CE.or (cE G n sc N a) (cE G n sc N (.BoolOp .Or (b :: r) pos))=some c from h) fun x y hx hy=>⟨Zl (pe_or (hf a x hx).pe (hf _ y hy).pe) Zfh,Wa (pw_or (hf a x hx).pt (QP (hf _ y hy).pt)).pt Zfg⟩
theorem ZiH(ihO:UA G F n){a b:Expr}(h:ZiT G sc (cE G n sc N) (cO G n sc N) a b=some c):SE X F (.Subscript a b pos) c:=by
 unfold ZiT at h;cases q:Vi b with
 |some p=>
  obtain⟨lo,hi⟩:=p;rw[q]at h;obtain⟨p2,rfl⟩:=JT q;exact WM (P:=SE X F _) h fun x l u hx hl hu=>.of (Zl (pe_slice Zlw (hf a x hx).pe (ihO X sc N K lo l hl) (ihO X sc N K hi u hu)) Zbt)
 |none=>
  rw[q]at h;dsimp only at h;cases q':Zg3 b with
  |some s=>
   cases q'
  |none=>
   rw[q']at h;dsimp only at h;cases hn:WX G sc a with
   |some p=>
    obtain⟨ks,ds⟩:=p;rw[hn]at h;exact X9 (P:=SE X F _) h fun y hy=>.of (Zf4 K hn (Zh hy) (hf b y hy).pe)
   |none=>
    rw[hn]at h;exact ZQ (P:=SE X F _) h fun x y hx hy=>.of (Zl (pe_ix (ZkS K.hu) (hf a x hx).pe (hf b y hy).pe (QD (Zh hy))) UJ)
theorem ZdZ{f:Str}{a:Expr}{p:Pos}(hk:X.calm=true)(hg:Zq sc f=true)(hm:X.mg f=none)(h:Zb9 G sc f a (cE G n sc N)=some c):SE X F (.Call (.Name f p) [a] [] pos) c:=by
 unfold Zb9 at h
 ·cases he:J1 G sc f a with
  |some e=>
   rw[he]at h;exact ZiJ K hk hg hm he (fun c hc=>⟨Zh hc,(hf e c hc).pe⟩) h
  |none=>
   rw[he]at h;dsimp only at h;cases hl:JC G sc f a with
   |some q=>
    obtain⟨u,v⟩:=q;rw[hl]at h;exact ZQ (P:=SE X F _) h fun x y hx hy=>.of (Zf5 K hk hg hm hl (Zh hx) (Zh hy) (hf u x hx).pe (hf v y hy).pe)
   |none=>
    rw[hl]at h;exact j_e h fun h=>X9 (P:=fun o=>o=some c->SE X F _ c) h (fun x hx h=>.of (ZfY K hk hg hm (Zh hx) (hf a x hx).pe h)) rfl
theorem Zd0{f:Str}{a b:Expr}{p:Pos}(hg:Zq sc f=true)(hm:X.mg f=none)(h:Zca G sc f a b (cE G n sc N)=some c):SE X F (.Call (.Name f p) [a,b] [] pos) c:=by
 unfold Zca at h;by_cases ei:f = "isinstance"
 ·subst ei
  rw[if_pos rfl]at h;split at h
  ·rename_i l hl
   exact X9 (P:=SE X F _) h fun x hx=>.of (ZiG K hg hm (Zh hx) (hf a x hx).pe hl)
  ·exact ZQ (P:=SE X F _) h fun x T hx hT=>.of (ZiF K hg hm (Zh hx) (hf a x hx).pe hT)
 ·rw[if_neg ei]at h
  exact ZY h fun hl h=>j_e h fun h=>ZQ (P:=fun o=>o=some c->SE X F _ c) h (fun x y hx hy h=>.of (ZfZ K (K.calm hl) hg hm (Zh hx) (Zh hy) (hf a x hx).pe (hf b y hy).pe h)) rfl
theorem Zd1(ihA:Z7 G F n){f:Str}{p:Pos}(h:Zcg G sc f as (cEs G n sc N as) (cE G n sc N)=some c):SE X F (.Call (.Name f p) as [] pos) c:=by
 unfold Zcg at h;cases hg:Zq sc f with
 |false=>rw[hg]at h;cases h
 |true=>
 rw[hg,if_pos rfl]at h;cases hG:G.lookup f with
 |none=>rw[hG]at h;cases h
 |some g=>
  rw[hG]at h;cases g with
  |fn i ps ds=>exact ZY h fun hl h=>X9 (P:=SE X F _) h fun cs hcs=>.of (Zf1 K hg hG hl (ihA X sc N K as cs hcs))
  |blt=>
   have hm:X.mg f=none:=K.gl f _ hG;cases as with
   |nil=>exact Zb h
   |cons a as=>cases as with
    |nil=>exact ZY h fun hl h=>ZdZ K hf (K.calm hl) hg hm h
    |cons b as=>cases as with
     |nil=>exact Zd0 K hf hg hm h
     |cons _ _=>exact Zb h
  |cls i ms subs=>cases as with
   |cons _ _=>exact Zb h
   |nil=>
    obtain⟨⟨j,ps⟩,hi,h⟩:=aO.mp h;refine ZY h fun hps h=>?_
    cases (show ps=1 from hps)
    cases h;exact .of (Zkb K hg hG hi)
  |_=>exact Zb h
theorem ZfX(ihA:Z7 G F n){ob:Expr}(h:ZgB G ob m ap as pos (cEs G n sc N as) (cE G n sc N)=some c):SE X F (.Call (.Attribute ob m ap) as [] pos) c:=by
 cases ob with
 |Name y yp=>
  refine ZY h fun hc h=>?_
  by_cases hm:m = "split"
  ·subst hm
   rw[if_pos rfl]at h;exact ZY h fun h1 h=>ZQ (P:=SE X F _) h fun x cs hx hcs=>.of (ZiI hc.1 h1 (hf _ x hx).pe (ihA X sc N K as cs hcs))
  ·rw[if_neg hm]at h
   by_cases hm2:m = "startswith"
   ·subst hm2
    rw[if_pos rfl]at h;exact ZY h fun h1 h=>ZQ (P:=SE X F _) h fun x cs hx hcs=>.of (ZbL hc.1 h1 (hf _ x hx).pe (ihA X sc N K as cs hcs))
   ·rw[if_neg hm2]at h
    exact ZQ (P:=SE X F _) h fun x cs hx hcs=>.of (Zf6 K hc.1 hc.2 (hf _ x hx).pe (ihA X sc N K as cs hcs))
 |Constant v kd kp=>cases as with
  |nil=>exact Zb h
  |cons a as=>cases as with
   |cons _ _=>exact Zb h
   |nil=>
    refine ZY h fun hc h=>ZQ (P:=SE X F _) h fun x z hx hz=>?_
    obtain⟨rfl,hline⟩:=hc;exact .of (Zf2 hline (Zh hz) (hf _ x hx).pe (hf a z hz).pe)
 |_=>exact Zb h
end
theorem JU(ihE:Zp G F n)(ihA:Z7 G F n)(ihO:UA G F n)(hcomp:∀ X sc N,Cxt X G F sc N->∀ elt gens sc2 pos c,cE G (n+1) sc N (.ListComp elt gens sc2 pos)=some c->SE X F (.ListComp elt gens sc2 pos) c):Zp G F (n+1):=by
 intro X sc N K e c h;have hf:=ihE X sc N K;have no:∀ {P:Prop},(none:Ot CE)=some c->P:=fun z=>nomatch z
 cases e with
 |Constant v k pos=>exact Zd2 h
 |Name x pos=>exact Zf7 K h
 |BinOp a op b pos=>exact ZQ (P:=SE X F _) (show o2 (CE.bin op) (cE G n sc N a) (cE G n sc N b)=some c from h) fun x y hx hy=>.of (Zl (pe_op ZfL (hf a x hx).pe (hf b y hy).pe) UJ)
 |UnaryOp op a pos=>exact Zkc (hf a) h
 |Compare a ops bs pos=>exact ZiC K hf h
 |BoolOp op vs pos=>exact Zf0 hf h
 |IfExp t a b pos=>exact WM (P:=SE X F _) (show o3 CE.ife (cE G n sc N t) (cE G n sc N a) (cE G n sc N b)=some c from h) fun z x y hz hx hy=>⟨Zl (pe_ifExp (hf t z hz).pt (hf a x hx).pe (hf b y hy).pe) ZhQ,Zio (hf t z hz).pt (hf a x hx).pt (hf b y hy).pt⟩
 |Tuple es k pos=>
  refine X9 (P:=SE X F _) (show(cEs G n sc N es).map CE.tupE=some c from h) fun x q=>?_
  obtain⟨A,hA,_,_⟩:=ihA X sc N K es x q;exact .of (Zl (pe_tup A) (Zfl (fun ρ st ds st' e=>by obtain⟨ds',z,hz⟩:=UB hA e;cases z;exact hz) fun ρ st d st' e=>by obtain⟨ds',z,hz⟩:=UB hA e;exact⟨ds',z⟩))
 |List es pos=>
  refine X9 (P:=SE X F _) (show(cEs G n sc N es).map CE.lstE=some c from h) fun x q=>?_
  obtain⟨A,hA,_,_⟩:=ihA X sc N K es x q;exact .of (Zl (pe_lst A) (Zfe fun ρ st ds st' e=>by obtain⟨ds',z,hz⟩:=UB hA e;cases z;exact hz))
 |Dict keys vals pos=>cases keys with
  |nil=>cases vals with
   |nil=>cases h;exact .of (Zl pe_dnewK ZcR)
   |cons _ _=>exact Zb h
  |cons k0 keys=>exact Zb h
 |Attribute o f pos=>exact .of (ZiD (fun x hx=>(hf o x hx).pe) h)
 |Subscript a b pos=>exact ZiH K hf ihO h
 |Call f as kws pos=>cases kws with
  |cons _ _=>exact no h
  |nil=>cases f with
   |Attribute ob m ap=>exact ZfX K hf ihA h
   |Name f p=>exact Zd1 K hf ihA h
   |_=>exact no h
 |ListComp elt gens sc2 pos=>exact hcomp X sc N K elt gens sc2 pos c h
 |_=>exact no h
theorem QX(ihE:Zp G F n)(ihA:Z7 G F n):Z7 G F (n+1):=by
 intro X sc N K es c h;cases es with
 |nil=>
  simp only[cEs]at h;cases h;exact⟨VG pa_nil Vx,trivial,rfl,fun _=>rfl⟩
 |cons e es=>
  refine ZQ (P:=fun c=>PA X _ (tA X.K (ev F c))/\Ux c/\_/\(_->c=.aN)) (show o2 CE.aC (cE G n sc N e) (cEs G n sc N es)=some c from h) fun x r hx hr=>?_
  obtain⟨A,hA,hp,_⟩:=ihA X sc N K es r hr;exact⟨VG (pa_cons (ihE X sc N K e x hx).pe A (Zc (Zh hx))) WI,trivial,by rw[aT,hp,Zh hx];rfl,fun z=>nomatch z⟩
theorem QY(ihE:Zp G F n):UA G F (n+1):=by
 intro X sc N K e c h;cases e with
 |none=>
  simp only[cO]at h;cases h;exact ZdM po_none Zff
 |some e=>
  simp only[cO]at h;cases q:cE G n sc N e with
  |none=>rw[q]at h;cases h
  |some x=>
   rw[q]at h;cases h;refine ZdM (po_some (ihE X sc N K e x q).pe) fun σ H Q hq=>?_
   obtain⟨ad,ρ,st,d,st',E,S,e1,p⟩:=hq;have e1:Zo (ev F x) QM ρ st=some (d,st'):=e1;unfold Zo at e1;split at e1
   ·rename_i y st1 q1
    cases y with
    |int i=>
     cases e1;rcases p with⟨z,_⟩|⟨j,z,p⟩
     ·cases z
     ·cases z
      exact⟨ad,ρ,st,.int i,_,E,S,q1,fun v ad' H' x S' d'=>⟨i,d'.ofInt,p ad' H' x S'⟩⟩
    |_=>simp[QM]at e1
   ·exact Zb e1
end
variable [ClsTab]
variable{α β:Type}
theorem b_e{P:Prop}{o:Ot α}{f:α->Ot β}{c:β}(h:o.bind f=some c)(k:∀ x,o=some x->f x=some c->P):P:=by
 cases o with
 |none=>exact Zb h
 |some x=>exact k x rfl h
theorem YO{tg:Ot Expr}{l:Nat}(h:Yy e=false):swapsWith e tg l env=pure false:=by
 cases e<;>first|rfl|cases h
variable{tg:Expr}
theorem VQ{l:Nat}(h:Yy e=false):swapsWithSole [tg] e l env=pure false:=YO h
theorem Je{k:Expr}{p:Pos}(h:Zj k=true):∀ v,assign (.Subscript o k p) env v=(do
   let ov <-holding [v] (eval o env)
   let iv <-holding [v,ov] (eval k env)
   standAt p
   holding [v,ov,iv] (setItem ov iv v)
   release [v,ov,iv] []):=by
 cases k<;>first | (intro _;rfl)|cases h
theorem JX{k:Expr}{p:Pos}:swappedStores [.Subscript o k p] e env=pure none:=by
 cases e<;>rfl
theorem ZT(h:Zj e=true):∀ x,foldedSetIterable e env x=pure x:=by
 cases e<;>first | (intro _;rfl)|cases h
structure CxtS[xk:XcK](X:Cx)(G:Gs)(F:Nat->Fn)(sc:Scope)(N:List Str):Prop extends Cxt X G F sc N where
 nd:N.Nodup
 loc:∀ x∈N,Loc X.env.scope x
 fn:∀ x,X.fn x=true
 po:PassesOwn (model X.prog X.w) X.A X.env X.xe
 xs:∀ pQ σ e s',XS X pQ σ XcK.E e s'->X.xe e s'
 rm:ZX G=true->Room 2 X.A
 st:X.stack=X.env :: X.outer/\X.env.frame=some X.env.locals
 sce:∀ y,sc.names.lookup y=some .local->X.env.scope.names.lookup y=some .local
variable{it elt:Expr}{gens:Li Comprehension}{sc2:Scope}{tp p2 p3 q:Pos}{ctx tk t' kk:Nat}{h0:ExceptHandler}{hs:Li ExceptHandler}{h:Heap}{z:Ad}{elts:Li Expr}{newId:String}{kw:Li (Str×vL)}
section
variable {G:Gs}{F:Nat->Fn}
def Jc(G:Gs)(F:Nat->Fn)(n:Nat):Prop:=∀ [XcK] X sc N,CxtS X G F sc N->∀ s c,cS G n sc N s=some c->PS X s (tS X.K (ex F c))
def ZZ(G:Gs)(F:Nat->Fn)(n:Nat):Prop:=∀ [XcK] X sc N,CxtS X G F sc N->∀ s c,cSs G n sc N s=some c->PSs X s (tS X.K (ex F c))
def X4(G:Gs)(F:Nat->Fn)(n:Nat):Prop:=∀ [XcK] X sc N,CxtS X G F sc N->∀ (x:Str) (i:Nat) (p:Pos) elt gens sc2 epos (pos:Pos) c,N.idxOf? x=some i->cE G n sc N (.ListComp elt gens sc2 epos)=some c->
 swapsWith (.ListComp elt gens sc2 epos) (some (.Name x p)) pos.line X.env=pure true->PS X (.Assign [.Name x p] (.ListComp elt gens sc2 epos) pos) (tAsg (tE X.K (ev F c)) (gName i))
variable [xk:XcK]
theorem Vc{x:Str}(h:N.idxOf? x=some i):x∈N:=bG (Yx h)
theorem XE{x:Str}{p:Pos}(K:CxtS X G F sc N)(h:N.idxOf? x=some i):PG X (.Name x p) (gName i):=
 pg_name (by rw[K.hN];exact K.nd) (by rw[K.hN];exact Yx h) (K.loc x (Vc h)) (.inl (K.fn x))
theorem passes(K:CxtS X G F sc N):PassesOwn (model X.prog X.w) X.A X.env X.xe:=K.po
theorem ZgY{x:Str}{p:Pos}(K:Cxt X G F sc N)(hl:Xz sc x=true)(hi:N.idxOf? x=some i):PE X (.Name x p) (tVar i):=
 pe_var (by rw[K.hN];exact Yx hi) (K.vis _ hl) (Wo hl).1 (Wo hl).2
theorem QQ{a:Expr}{x:CE}(K:Cxt X G F sc N)(h:YA G sc it=some a)(hp:Zj a=true)(A:PE X a (tE X.K (ev F x))):Zj it=true/\PI X tg it (iRng1 (tCons (tE X.K (ev F x)) tNil)):=by
 obtain⟨_,_,rfl,hg,hm⟩:=VZ K h;exact⟨rfl,pi_range1 hg hm (pa1 hp A) (Zc hp)⟩
theorem JZ{epos p:Pos}{x:Str}{l:Nat}:∃ b:Bool,swapsWith (.ListComp elt gens sc2 epos) (some (.Name x p)) l env=pure b:=⟨_,rfl⟩
theorem Zdy(h:cE G n sc N e=some c):Yy e=false\/∃ elt gens sc2 epos,e=.ListComp elt gens sc2 epos:=by
 cases n with
 |zero=>exact nomatch (show(none:Ot CE)=some c from h)
 |succ n=>cases e<;>first|exact .inl rfl|exact .inr ⟨_,_,_,_,rfl⟩|exact nomatch (show(none:Ot CE)=some c from h)
theorem Zd3(ihE:Zp G F n)(hA:X4 G F n)(K:CxtS X G F sc N){c:CS}{x:Str}{p:Pos}(h:o2 CS.set (N.idxOf? x) (cE G n sc N e)=some c):PS X (.Assign [.Name x p] e pos) (tS X.K (ex F c)):=by
 refine ZQ (P:=fun c=>PS X _ (tS X.K (ex F c))) h fun i y hi hx=>?_
 have pl:∀ hs,PS X (.Assign [.Name x p] e pos) (tAsg (tE X.K (ev F y)) (gName i)):=fun hs=>ps_set (by rw[K.hN];exact K.nd) (by rw[K.hN];exact Yx hi) (K.loc _ (Vc hi)) (ihE X sc N K.toCxt _ y hx).pe hs (.inl (K.fn _))
 rcases Zdy hx with hc|⟨elt,gens,sc2,epos,rfl⟩
 ·exact ZF (pl (YO hc)) UK
 ·obtain⟨b,hb⟩:=JZ (elt:=elt) (gens:=gens) (sc2:=sc2) (epos:=epos) (p:=p) (x:=x) (l:=pos.line) (env:=X.env)
  cases b with
  |false=>exact ZF (pl hb) UK
  |true=>exact ZF (hA X sc N K _ i p elt gens sc2 epos pos y hi hx hb) UK
theorem JY{ts:Li Expr}{k:Nat}(h:QC e=false):swappedStores [.Tuple ts k tp] e env=pure none:=by
 cases e with
 |Tuple=>cases h
 |_=>rfl
theorem psN{s:Stmt}{f:Ex}(h:∀ ρ st,f ρ st=none):PS X s (tS X.K f):=fun pQ sh σ H D I q=>by
 obtain⟨_,_,_,_,_,_,_,e,_⟩:=ZW q;rw[h]at e;cases e
theorem Zgk(ihE:Zp G F n)(K:CxtS X G F sc N){c:CS}{x y:Str}{p:Pos}(h:og ((Yy e||QC e)=false/\ZX G=true) (o3 (fun i j c=>og (i≠j) (some (CS.set2 i j c))) (N.idxOf? x) (N.idxOf? y) (cE G n sc N e)).join=some c):PS X (.Assign [.Tuple [.Name x p,.Name y p2] ctx tp] e pos) (tS X.K (ex F c)):=by
 refine ZY h fun hc h=>j_e h fun h=>WM (P:=fun o=>o=some c->PS X _ (tS X.K (ex F c))) h (fun i j ce hi hj hx h=>ZY h fun _ h=>?_) rfl
 cases h;exact psN fun _ _=>rfl
theorem Zgl(ihE:Zp G F n)(K:CxtS X G F sc N){c:CS}{x y z:Str}{p:Pos}(h:og ((Yy e||QC e)=false/\ZX G=true) (o3 (fun i j (p:Nat×CE)=>CS.set3 i j p.1 p.2) (N.idxOf? x) (N.idxOf? y) (o2 Prod.mk (N.idxOf? z) (cE G n sc N e)))=some c):PS X (.Assign [.Tuple [.Name x p,.Name y p2,.Name z p3] ctx tp] e pos) (tS X.K (ex F c)):=by
 refine ZY h fun hc h=>WM (P:=fun c=>PS X _ (tS X.K (ex F c))) h fun i j q hi hj hq=>ZQ (P:=fun q=>PS X _ (tS X.K (ex F (.set3 i j q.1 q.2)))) hq fun l ce hl hx=>?_
 obtain⟨hc,hl0⟩:=hc;rw[Bool.or_eq_false_iff]at hc;exact ZF (ps_asg (ihE X sc N K.toCxt _ ce hx).pe (pg_tup (K.calm hl0) (pgs_cons (XE K hi) (pgs_cons (XE K hj) (pgs_cons (XE K hl) pgs_nil)))) (VQ hc.1) (JY hc.2)) Zc2
theorem Zas{K:Fg}(D:Ends)(σ:L2.St)(H:Hp)(h:tS K (Qc fe) D σ H):tDrop (tEX XcK.E K fe) D σ H:=by
 obtain⟨ad,ρ,st,r,st',E,S,e,p⟩:=ZW h;obtain⟨d,e,p1,p2⟩:=Zb3 E e p;exact⟨ad,ρ,st,d,st',E,S,e,p1,p2⟩
theorem ZiK(ihA:Z7 G F n)(K:CxtS X G F sc N){c:CS}{f:Str}{fp:Pos}(h:(V3 G sc (cEs G n sc N) f as).map CS.act=some c):PS X (.Expr (.Call (.Name f fp) as [] cp) pos) (tS X.K (ex F c)):=by
 refine X9 (P:=fun c=>PS X _ (tS X.K (ex F c))) h fun x hx=>?_
 unfold V3 at hx;split at hx
 ·rename_i i ps ds hG
  exact ZY hx fun hl hx=>X9 (P:=fun x=>PS X _ (tS X.K (ex F (.act x)))) hx fun cs hcs=>ZF (ps_expr (QU (pass_x K.xs) K.toCxt hl.1 hG hl.2 (ihA X sc N K.toCxt as cs hcs)) rfl) Zas
 ·exact Zb hx
theorem CxtS.nox(K:CxtS X G F sc N):CxtS (xk:=xc0) X.nox G F sc N:=CxtS.mk (xk:=xc0) { hN:=K.hN,vis:=K.vis,glb:=K.glb,calm:=K.calm,hu:=K.hu,gl:=K.gl,cel:=K.cel } K.nd K.loc K.fn PassesOwn.never (fun _ _ _ _ ⟨_,_,_,_,_,_,_,_,z⟩=>z) K.rm K.st K.sce
theorem Zd4(ihE:Zp G F n)(K:CxtS X G F sc N){c:CS}{a b:Ot Expr}(h:JO G sc (cE G n sc N) a b=some c):PS X (.Raise a b pos) (tS X.K (ex F c)):=by
 have no:some CS.stop=some c->PS X (.Raise a b pos) (tS X.K (ex F c)):=fun z=>by
  cases z;exact fun pQ s σ H D I q=>by
   obtain⟨_,_,_,_,_,_,_,e,_⟩:=ZW q;cases e
 unfold JO at h;split at h
 ·rename_i x e hq
  obtain⟨v,rfl,hq⟩:=aO.mp hq;obtain⟨p,q,rfl⟩:=UD hq;split at h
  ·rename_i i l hG
   split at h
   ·rename_i hc
    cases b with
    |some _=>cases hc.2.2.2
    |none=>
    refine X9 (P:=fun c=>PS X _ (tS X.K (ex F c))) h fun y hy=>?_
    obtain⟨hm,_,_,hr⟩:=K.gl x _ hG;obtain⟨fI,fd,pn,xc,FI,hb⟩:=hr (dX.mp hc.2.1);exact ZF (ps_raise xc FI (K.rm hc.2.2.1) (K.calm hc.2.2.1) hb pass0 (K.glb x hc.1) hm (pa1 (Zh hy) (ihE X sc N K.toCxt _ y hy).pe) K.xs (ZS hc.1) (Zc (Zh hy))) Zbs
   ·exact no h
  ·exact no h
 ·exact no h
theorem EnvOk.del{K:Fg}(h:EnvOk K ad H σ ρ)(i:Nat):EnvOk K ad H (σ.set i none) (ρ.set i none):=by
 refine⟨by rw[bI,bI];exact h.len,fun j e q=>?_⟩
 by_cases z:i=j
 ·subst z
  rw[dD]at q;simp at q
 ·rw[aR z]at q
  obtain⟨w,e1,e2⟩:=h.at_ j e q;exact⟨w,by rw[aR z];exact e1,e2⟩
theorem Zgb(ihE:Zp G F n)(K:CxtS X G F sc N){c:CS}{k:Expr}(h:og (Yy e=false/\ZjE k=false) (o3 (CS.dput 0) (cE G n sc N o) (cE G n sc N k) (cE G n sc N e))=some c):PS X (.Assign [.Subscript o k q] e pos) (tS X.K (ex F c)):=
 ZY h fun hc h=>WM (P:=fun c=>PS X _ (tS X.K (ex F c))) h fun co ck ce ho hk he=>ZF (ps_asg (ihE X sc N K.toCxt _ ce he).pe (pg_sub (ihE X sc N K.toCxt _ co ho).pe (ihE X sc N K.toCxt _ ck hk).pe set_dK (Je (Zh hk))) (VQ hc.1) JX) ZcS
theorem Zgj(ihE:Zp G F n)(K:CxtS X G F sc N){c:CS}{x f:Str}{p:Pos}(h:og (Yy e=false/\Xz sc x=true/\fldNames.contains f=true) (o2 (fun i c=>CS.put i (.cst (.str f)) c) (N.idxOf? x) (cE G n sc N e))=some c):PS X (.Assign [.Attribute (.Name x p) f q] e pos) (tS X.K (ex F c)):=
 ZY h fun hc h=>ZQ (P:=fun c=>PS X _ (tS X.K (ex F c))) h fun i ce hi he=>ZF (ps_fld (ZgY K.toCxt hc.2.1 hi) (ihE X sc N K.toCxt _ ce he).pe (YO hc.1)) (Zfi hc.2.2)
theorem Zgm(ihE:Zp G F n)(hA:X4 G F n)(K:CxtS X G F sc N){c:CS}{x:Str}{p:Pos}(h:o2 CS.set (N.idxOf? x) (cE G n sc N e)=some c):PS X (.Try [.Assign [.Name x p] e q] (h0 :: hs) [] [] pos) (tS X.K (ex F c)):=by
 intro pQ s σ H D I z;have B:=pss_one (Zd3 (xk:=xc0) (p:=p) (pos:=q) ihE hA K.nox h);have z0:tS (xk:=xc0) X.K (ex F c) D σ H:=by
  refine ZQ (P:=fun c=>tS X.K (ex F c) D σ H->tS (xk:=xc0) X.K (ex F c) D σ H) h (fun i y _ _ z=>?_) z
  obtain⟨ad,ρ,st,r,st',E,S,e,p⟩:=z;refine⟨ad,ρ,st,r,st',E,S,e,?_⟩;have e:VO i (ev F y) ρ st=some (r,st'):=e;unfold VO at e;split at e
  ·cases e;exact p
  ·exact Zb e
 refine wpAny_Try_except (aU (B pQ s σ H D (I.wish _) z0) (fun f s1 hq=>?_) fun e s1 hx=>hx.elim)
 have hq:=hq.unwish;cases f with
 |next=>exact aB hq
 |_=>exact hq
theorem ZiM(ihE:Zp G F n)(K:CxtS X G F sc N){c:CS}(h:(cE G n sc N e).map CS.ret=some c):PS X (.Return (some e) pos) (tS X.K (ex F c)):=
 X9 (P:=fun c=>PS X _ (tS X.K (ex F c))) h fun x q=>ZF (ps_ret (ihE X sc N K.toCxt _ x q).pe) Zfj
theorem Zkd(ihE:Zp G F n)(ihS:ZZ G F n)(K:CxtS X G F sc N){c:CS}{a b:Li Stmt}(h:o3 CS.ite (cE G n sc N e) (cSs G n sc N a) (cSs G n sc N b)=some c):PS X (.If e a b pos) (tS X.K (ex F c)):=
 WM (P:=fun c=>PS X _ (tS X.K (ex F c))) h fun cc ca cb hc ha hb=>ZF (ps_if (ihE X sc N K.toCxt _ cc hc).pt (ihS X sc N K _ ca ha) (ihS X sc N K _ cb hb)) Zfd
theorem ZbP{P:Program}{K:Fg}(it:Ad)(lo c:Int)(n:Nat):Turn P w K tg (Its lo c n) [it] it (fun i h=>IsRangeIter h it (lo+(i:Nat) * c) ((n:Int) - (i:Nat)) c) where
 mem:=by simp
 obj:=fun i h st b hb=>by
  have e:b=it:=by simpa using hb
  subst e;exact⟨_,st,fun v z=>by
   have z':Data.fields _=Data.cell v:=z;cases z'⟩
 keep:=fun i h h' st k=>k it (by simp) _ st
 item:=by
  intro X hP hw hK hc i pQ s σ H E I hf st hg;subst hP hw hK;obtain⟨f0,f1,f2,f3,f4,f5⟩:=hf it (by simp)
  have W:=Walks.range (prog:=X.prog) (w:=X.w) (I.ok.hd hc) it lo c n;refine W.item i s _ _ hg st fun v h' tk hv st' kk=>?_
  obtain⟨t,rfl⟩:=hv;have I1:L2.Inv X pQ σ H { s with heap:=h',toks:=tk }:=I.turned (fun b o hb e=>kk b o (by simpa using hb) e) f0 f1 f3 f4 f5
  exact⟨_,rfl,go_of (s:={ s with heap:=h',toks:=tk }) (n := "range_iterator") st' rfl rfl (by decide) ⟨.int (lo+i * c),H,I1,⟨t,rfl⟩,⟨rfl,rfl⟩,st',fun b hb=>(hf b hb).1⟩⟩
 done:=by
  intro X hP hw hK hc i pQ s σ H E I hf st hg;subst hP hw hK;obtain⟨f0,f1,f2,f3,f4,f5⟩:=hf it (by simp)
  exact wpAny_pyNext_range_end (I.ok.hd hc) st (by have:n<=i:=hg;omega) fun h' eb=>⟨rfl,I.turned (t':=s.toks) (fun b o hb e=>eb b o hb e) f0 f1 f3 f4 f5⟩
 self:=fun _ _ _ _ _ st h=>wpAny_pyIter_rangeiter st h
theorem W0{a b c:Int}(h:ZP a b c=true):((ZJ a b c:Nat):Int)=Builtin.Range.rangeSize a b c/\Builtin.Range.small a b c=true/\c≠0/\c.natAbs < 1073741824:=by
 have h:=of_decide_eq_true h;obtain⟨⟨h1,h2⟩,⟨h3,h4⟩,h5⟩:=h;unfold ZJ Builtin.Range.small Builtin.Range.rangeSize;rcases h5 with rfl|rfl
 all_goals
  simp only[Builtin.Range.rangeFitsLong,Ba,cT,bR,beq_iff_eq,gt_iff_lt,Int.neg_neg,cX];refine⟨?_,?_,by decide,by decide⟩
  ·split
   ·split<;>omega
   ·split<;>omega
  ·refine⟨⟨by omega,?_⟩,.inr ?_⟩
   ·constructor
    ·repeat' split
     all_goals omega
    ·repeat' split
     all_goals omega
   ·simp
    omega
theorem Uo{R:It->Hp->Prop}{lo hi c:Int}{t u v:Tok}(I:L2.Inv X pQ σ H s)(ok:ZP lo hi c=true)(q:R (Its lo c (ZJ lo hi c)) H):wpAny (model X.prog X.w) X.A (pyIter (.ref s.heap.objs.size)) (PIE X pQ σ tg R) E { s with heap:=s.heap.push { cls:=.type "range",data:=.fields #[.int lo t,.int hi u,.int c v] },toks:=tk }:=by
 obtain⟨z1,z2,_,_⟩:=W0 ok;refine wpAny_pyIter_range (IsRange.new ..) z2 ?_;have I1:L2.Inv X pQ σ H { s with heap:=s.heap.push { cls:=.type "range",data:=.fields #[.int lo t,.int hi u,.int c v] },toks:=tk }:=I.kept fun b o e=>aH _ e
 refine⟨(s.heap.push { cls:=.type "range",data:=.fields #[.int lo t,.int hi u,.int c v] }).objs.size,[(s.heap.push { cls:=.type "range",data:=.fields #[.int lo t,.int hi u,.int c v] }).objs.size],_,_,H,rfl,
  I1.kept (t':=tk) fun b o e=>aH _ e,ZbP _ lo c (ZJ lo hi c),?_,fun b hb=>?_,q⟩
 ·have e1:lo+((0:Nat):Int) * c=lo:=by simp
  have e2:((ZJ lo hi c:Nat):Int) - ((0:Nat):Int)=Builtin.Range.rangeSize lo hi c:=by rw[z1];simp
  show IsRangeIter _ _ (lo+((0:Nat):Int) * c) (((ZJ lo hi c:Nat):Int) - ((0:Nat):Int)) c;rw[e1,e2];exact aS _ rfl
 ·have e:b=(s.heap.push { cls:=.type "range",data:=.fields #[.int lo t,.int hi u,.int c v] }).objs.size:=by simpa using hb
  subst e;exact I1.fpOk (aD _) (I1.hok.fresh (aD _))
theorem ZbH{ta:TA}{p:Pos}(hg:Gl X "range")(hm:X.mg "range"=none)(ha:PA X as ta)(hp:as.all Zj=true)(hl:(∃ a b,as=[a,b])\/∃ a b c,as=[a,b,c]):PI X tg (.Call (.Name "range" p) as [] pos) (ZgK ta):=by
 intro pQ s σ H R I h;have fin:∀ {us:Li vL}{s1:Sd}{vs:Li V}{H1:Hp},L2.Inv X pQ σ H1 s1->Vals vs us->(∃ (i j c:Int),(vs=[.int i,.int j]/\c=1\/vs=[.int i,.int j,.int c])/\ZP i j c=true/\R (Its i c (ZJ i j c)) H1)->
   wpAny (model X.prog X.w) X.A (call (.type "range") us) (fun v s2=>wpAny (model X.prog X.w) X.A (pyIter v) (PIE X pQ σ tg R) X.xe s2) X.xe s1:=fun {us s1 vs H1} I1 r1 q1=>by
  obtain⟨i,j,c,e,ok,q⟩:=q1;rcases e with⟨rfl,rfl⟩|rfl
  ·cases r1 with
   |cons r rr=>
    cases rr with
    |cons r' rr=>
     cases rr;obtain⟨t,rfl⟩:=r;obtain⟨t',rfl⟩:=r';exact call_range_2 (Uo I1 ok q)
  ·cases r1 with
   |cons r rr=>
    cases rr with
    |cons r' rr=>
     cases rr with
     |cons r2 rr=>
      cases rr;obtain⟨t,rfl⟩:=r;obtain⟨t',rfl⟩:=r';obtain⟨t2,rfl⟩:=r2;obtain⟨_,_,z3,z4⟩:=W0 ok;exact call_range_3 z3 (Uo I1 ok q) (.inl (PyProof.noPylong_small z4))
 rcases hl with⟨a,b,rfl⟩|⟨a,b,c,rfl⟩
 ·rw[aT,aT,Ba,Ba]at hp
  have hs2:starEach [b] X.env=[(false,eval b X.env)]:=Zc hp.2.1;have hs:starEach [a,b] X.env=[(false,eval a X.env),(false,eval b X.env)]:=by rw[Zc hp.1,hs2]
  exact Call_ (ld_blt I hg hm boot_range (PyProof.Rows.callWith_type1 (thn (ha pos pQ s σ H _ I h) fun us s1 ⟨vs,H1,I1,r1,q1⟩=>fin I1 r1 q1) (by rw[hs,hs2]) (by rw[hs2];rfl)))
 ·rw[aT,aT,aT,Ba,Ba,Ba]at hp
  have hs3:starEach [c] X.env=[(false,eval c X.env)]:=Zc hp.2.2.1;have hs2:starEach [b,c] X.env=[(false,eval b X.env),(false,eval c X.env)]:=by rw[Zc hp.2.1,hs3]
  have hs:starEach [a,b,c] X.env=[(false,eval a X.env),(false,eval b X.env),(false,eval c X.env)]:=by rw[Zc hp.1,hs2]
  exact Call_ (ld_blt I hg hm boot_range (PyProof.Rows.callWith_type1 (thn (ha pos pQ s σ H _ I h) fun us s1 ⟨vs,H1,I1,r1,q1⟩=>fin I1 r1 q1) (by rw[hs,hs2]) (by rw[hs2];rfl)))
theorem W9(K:Cxt X G F sc N)(h:XR G sc it=some as):∃ p pos,it=.Call (.Name "range" p) as [] pos/\Gl X "range"/\X.mg "range"=none/\((∃ a b,as=[a,b])\/∃ a b c,as=[a,b,c]):=by
 obtain⟨bs,h1,h2⟩:=aO.mp h;obtain⟨p,pos,rfl,hg,hm⟩:=Vt K h1;refine ZY h2 fun hl h3=>?_
 cases h3;refine⟨p,pos,rfl,hg,hm,?_⟩;cases as with
 |nil=>rcases hl with hl|hl<;>cases hl
 |cons a as=>cases as with
  |nil=>rcases hl with hl|hl<;>cases hl
  |cons b as=>cases as with
   |nil=>exact .inl ⟨_,_,rfl⟩
   |cons c as=>cases as with
    |nil=>exact .inr ⟨_,_,_,rfl⟩
    |cons _ _=>rcases hl with hl|hl<;>cases hl
theorem Zge(ihA:Z7 G F n)(ihS:ZZ G F n)(K:CxtS X G F sc N)(hk:X.calm=true){c:CS}{x:Str}{b:Li Stmt}{p:Pos}(hr:XR G sc it=some as)(h:o3 CS.for3 (N.idxOf? x) (cEs G n sc N as) (cSs G n sc N b)=some c):PS X (.For (.Name x p) it b [] pos) (tS X.K (ex F c)):=by
 refine WM (P:=fun c=>PS X _ (tS X.K (ex F c))) h fun i ci cb hi hc hb=>?_
 obtain⟨p1,p2,rfl,hg,hm,hl⟩:=W9 K.toCxt hr;obtain⟨A,_,pl,_⟩:=ihA X sc N K.toCxt as ci hc;exact ZF (ps_for (passes K) hk (ZbH hg hm A pl hl) (XE K hi) (ihS X sc N K _ cb hb) (ZT rfl)) ZcU
theorem Zgc(ihE:Zp G F n)(ihS:ZZ G F n)(K:CxtS X G F sc N)(hk:X.calm=true){c:CS}{x:Str}{b:Li Stmt}{p:Pos}(h:(match YA G sc it with
   |some a=>o3 (fun i c b=>CS.for1 i true c b) (N.idxOf? x) (cE G n sc N a) (cSs G n sc N b)
   |none=>o3 (fun i c b=>CS.for1 i false c b) (N.idxOf? x) (cE G n sc N it) (cSs G n sc N b))=some c):PS X (.For (.Name x p) it b [] pos) (tS X.K (ex F c)):=by
 cases ha:YA G sc it with
 |some a=>
  rw[ha]at h;exact WM (P:=fun c=>PS X _ (tS X.K (ex F c))) h fun i ci cb hi q hb=>psN fun _ _=>rfl
 |none=>
  rw[ha]at h;refine WM (P:=fun c=>PS X _ (tS X.K (ex F c))) h fun i ci cb hi q hb=>?_
  exact ZF (ps_for (passes K) hk (pi_list (ihE X sc N K.toCxt _ _ q).pe) (XE K hi) (ihS X sc N K _ cb hb) (ZT (env:=X.env) (Zh q))) ZcW
theorem WV{wr:Li Ad}(I:L2.Inv X pQ σ H s)(hf:∀ b∈wr,FpOk X pQ H b)(k:∀ b o,b∉wr->s.heap.get? b=some o->h'.get? b=some o):L2.Inv X pQ σ H { s with heap:=h',toks:=t' }:=by
 have nw:∀ b u,H b=some u->b∉wr:=fun b u e hb=>by have:=(hf b hb).1;rw[e]at this;cases this
 refine I.step (g':=s.gens) (d':=s.drawn) (ch:=wr) (fun b hb=>⟨(hf b hb).2.2.2.1,(hf b hb).2.1,(hf b hb).2.2.2.2.1,(hf b hb).2.2.2.2.2⟩) (fun b o _ _ hc e _=>k b o hc e) (fun b o _ _ hc e _=>⟨o.slots,k b o hc e⟩)
  (fun b o _ e n=>n) (fun b o hc e=>⟨o,k b o hc e⟩) (fun b ys e=>e) (fun b o u e=>e) (fun b ps e=>⟨#[],by rw[e];simp⟩) (fun m hm=>?_) (fun b u e=>?_) I.bare
 ·obtain⟨o,es,ep,ho,r⟩:=hm
  exact⟨o,es,ep,k _ o (fun z=>(hf _ z).2.1 rfl) ho,r⟩
 ·refine(I.hok b u e).stay (fun c v hc q=>k c v ?_ q) (fun c q=>q) fun c ys q=>q
  rcases hc with z|z
  ·rw[z];exact nw b u e
  ·exact nw c _ z
theorem XY{wr:Li Ad}{T:Ad}{xs:Li V}(I:L2.Inv X pQ σ H s)(hf:∀ b∈wr,FpOk X pQ H b)(k:∀ b o,b∉wr->s.heap.get? b=some o->h'.get? b=some o)(hT:s.heap.objs.size<=T)(new:ObjOk X.prog X.w (upd H T (.tup xs)) h' T (.tup xs)):L2.Inv X pQ σ (upd H T (.tup xs)) { s with heap:=h',toks:=t' }:=by
 have hn:H T=none:=I.hok.fresh hT;have nT:∀ b u,s.heap.get? b=some u->b≠T:=fun b u e=>aQ (aJ (aE e) hT)
 have nw:∀ b u,H b=some u->b∉wr:=fun b u e hb=>by have:=(hf b hb).1;rw[e]at this;cases this
 refine I.step (g':=s.gens) (d':=s.drawn) (ch:=wr) (fun b hb=>⟨(hf b hb).2.2.2.1,(hf b hb).2.1,(hf b hb).2.2.2.2.1,(hf b hb).2.2.2.2.2⟩) (fun b o _ _ hc e _=>k b o hc e) (fun b o _ _ hc e _=>⟨o.slots,k b o hc e⟩)
  (fun b o _ e n=>by rw[upd_ne (nT b o e)];exact n) (fun b o hc e=>⟨o,k b o hc e⟩) (fun b ys e=>by rw[upd_ne (ne_of_none e hn)];exact e) (fun b o u e=>by rw[upd_ne (ne_of_none e hn)];exact e) (fun b ps e=>⟨#[],by rw[upd_ne (ne_of_none e hn),e];simp⟩) (fun m hm=>?_) (fun b u e=>?_) I.bare
 ·obtain⟨o,es,ep,ho,r⟩:=hm
  exact⟨o,es,ep,k _ o (fun z=>(hf _ z).2.1 rfl) ho,r⟩
 ·by_cases hb:b=T
  ·subst hb;rw[upd_same]at e;cases e;exact new
  ·rw[upd_ne hb]at e
   refine(I.hok b u e).stay (fun c v hc q=>k c v ?_ q) (fun c q=>by rw[upd_ne (ne_of_none q hn)];exact q) fun c ys q=>by rw[upd_ne (ne_of_none q hn)];exact q
   rcases hc with z|z
   ·rw[z];exact nw b u e
   ·exact nw c _ z
theorem ZaO{a:Ad}{xs:Li V}(I:L2.Inv X pQ σ H s)(h1:SqL X.K H a xs)(h2:SqL X.K H a ys):ys=xs:=by
 obtain⟨i1,r1,⟨o1,n1,g1,_,_,d1⟩,_⟩:=I.list h1;obtain⟨i2,r2,⟨o2,n2,g2,_,_,d2⟩,_⟩:=I.list h2;rw[g1]at g2;cases g2;rw[d1]at d2;have e:i1.toArray=i2.toArray:=by injection d2
 have e:i1=i2:=by simpa using e
 subst e;exact Vals.inj r2 r1
section
variable {prog:Program}{w:World}{A:Around}{E:vL->Sd->Prop}{s:Sd}
open Sem (wp)
open AutoSeq1 (wpAny_loadPart')
omit [ClsTab] in
theorem QI{it l:Ad}{i:Nat}{items:Array vL}{Q:vL->Sd->Prop}(hh:A.handled=none)(hit:s.heap.IsTupleIter it l i)(hl:s.heap.IsTuple l items)(hQ:∀ x h',items[i]?=some x->h'.IsTupleIter it l (i+1)->Heap.SameBut it s.heap h'->Q x { s with heap:=h' })(hE:items[i]?=none->∀ h' e,Heap.ExtBut it s.heap h'->(∃ o,h'.get? e=some o/\o.cls=.type "StopIteration")->E (.ref e) { s with heap:=h' }) :
  wpAny (model prog w) A (Builtin.SmallTypes.nextOf (.ref it)) Q E s:=by
 obtain⟨o,ho,hc,hd⟩:=id hit;obtain⟨ol,hol,_,nl,hdl⟩:=hl;unfold Builtin.SmallTypes.nextOf;refine aA (wpAny_callSpecial?_slot (name:=Str.ofString "__next__") hit.typeIs PySem.F.slot_tuple_iterator_next
  (wpAny_call_entry PySem.F.slot_tuple_iterator_next hit.typeIs PySem.F.entry_tuple_iterator_next ?_ (PySem.F.args_tuple_iterator_next_1 _)))
 show wpAny _ _ (field (.ref it) 0 >>= _) _ _ s;refine aA (wpAny_field ho hd (x:=.ref l) rfl ?_);show wpAny _ _ (if (Value.ref l==Value.none)=true then _ else _) _ _ s
 rw[if_neg (show ¬((Value.ref l==Value.none)=true) from Bf)];show wpAny _ _ (field (.ref it) 1 >>= _) _ _ s;refine aA (wpAny_field ho hd (x:=.int i 0) rfl ?_);show wpAny _ _ (seqItems? (.ref l) >>= _) _ _ s;refine aA (wpAny_seqItems hol hdl ?_);cases hx:items[i]? with
 |some x=>
  simp only[bL,hx];refine aA (wpAny_setField ho hd (by simp) (aB ⟨x,rfl,aB (hQ _ _ hx ?_ (Heap.SameBut.update ..))⟩))
  exact⟨_,Heap.get?_update_self _ ho (Obj.isFreed_of_fields (Obj.data_mapFields hd _)),(Obj.cls_mapFields ..).trans hc,by
   rw[Obj.data_mapFields hd];simp[rawInt]⟩
 |none=>
  simp only[bL,hx];refine aA (wpAny_rule (aA (wpAny_setField ho hd (by simp) ?_)))
  show wpAny _ _ (newExc (.type "StopIteration") [] >>= _) _ _ _;refine aA ?_;simp only[newExc,newTuple];refine aA (wpAny_newObj_type ?_ (by size_fits))
  refine aA (m:=firstArgMember _ _) (wpAny_of_eq (a:=Value.none) (by first|rfl | (simp only[firstArgMember];rfl)) ?_)
  refine wpAny_newObj_type ?_ (by size_fits)
  simp only[raiseNew];refine aA (wpAny_handled ?_)
  first|rw[show A.in1.handled=none from hh]|rw[hh]
  refine aA (aB (wpAny_throw ?_));exact hE hx _ _ (((Heap.SameBut.update ..).extBut.push _).push _) ⟨_,aS _ rfl,rfl⟩
end
structure ZD(z TI TO i1 i2:Addr):Prop where
 a:TI≠z
 b:TO≠z
 c:i1≠z
 d:i2≠z
 e:TI≠TO
 f:TI≠i1
 g:TI≠i2
 h:TO≠i1
 i:TO≠i2
 j:i1≠i2
section
variable {prog:Program}{w:World}{A:Around}{s:Sd}{z TI TO i1 i2:Ad}{x y a b:vL}{S1 S2:Heap->Prop}
open Builtin.SmallTypes
def KB(l:Li Ad)(h h':Heap):Prop:=∀ c o,c∉l->h.get? c=some o->h'.get? c=some o
theorem KB.of{l:Li Ad}{p:Ad}(k:Heap.SameBut p h h')(m:p∈l):KB l h h':=fun c o n e=>k.extBut c o (fun q=>n (q ▸ m)) e
theorem KB.trans{l:Li Ad}{h1 h2 h3:Heap}(x:KB l h1 h2)(y:KB l h2 h3):KB l h1 h3:=fun c o n e=>y c o n (x c o n e)
theorem ZjM{TO:Ad}:z∈[z,TO,i1,i2]/\TO∈[z,TO,i1,i2]/\i1∈[z,TO,i1,i2]/\i2∈[z,TO,i1,i2]:=⟨.head _,.tail _ (.head _),.tail _ (.tail _ (.head _)),.tail _ (.tail _ (.tail _ (.head _)))⟩
def Nx(prog:Program)(w:World)(A:Around)(s:Sd)(l:Li Ad)(i:Ad)(x:vL)(S:Heap->Prop):Prop:=
 ∀ (h:Heap) (Q E:vL->Sd->Prop),KB l s.heap h->(∀ h',S h'->Heap.SameBut i h h'->Q x { s with heap:=h' })->wpAny (model prog w) A (nextOf (.ref i)) Q E { s with heap:=h }
def Nz(prog:Program)(w:World)(A:Around)(s:Sd)(l:Li Ad)(i:Ad):Prop:=
 ∀ (h:Heap) (Q E:vL->Sd->Prop),KB l s.heap h->(∀ h' e,Heap.ExtBut i h h'->(∃ o,h'.get? e=some o/\o.cls=.type "StopIteration")->E (.ref e) { s with heap:=h' })->wpAny (model prog w) A (nextOf (.ref i)) Q E { s with heap:=h }
theorem Zgy{Q:vL->Sd->Prop}(d:ZD z TI TO i1 i2)(hz:IsZip s.heap z TI TO .none)(hI:IsPair s.heap TI (.ref i1) (.ref i2))(hO:IsPair s.heap TO a b)(n1:Nx prog w A s [z] i1 x S1)(n2:Nx prog w A s [z,TO,i1] i2 y S2)(k1:∀ h h',S1 h->(∀ o,h.get? i1=some o->h'.get? i1=some o)->S1 h')(k2:∀ h h',S2 h->(∀ o,h.get? i2=some o->h'.get? i2=some o)->S2 h')(hQ:∀ h',IsZip h' z TI TO (rawInt s.heap.objs.size)->IsPair h' TO x y->S1 h'->S2 h'->IsPair h' s.heap.objs.size x y->KB [z,TO,i1,i2] s.heap h'->Q (.ref s.heap.objs.size) { s with heap:=h' }) :
  wpAny (model prog w) A (Builtin.«zip.__next__» ⟨[.ref z],[]⟩) (fun fin s'=>∃ v,fin=.done (.ret v)/\Q v s') E s:=by
 obtain⟨m1,m2,m3,m4⟩:=ZjM (z:=z) (TO:=TO) (i1:=i1) (i2:=i2);show wpAny _ _ (field (.ref z) 2 >>= _) _ _ _;refine aA (wpAny_field hz rfl (x:=.bool false) rfl (aA (wpAny_field hz rfl (x:=.ref TI) rfl (aA (wpAny_seqItems hI rfl ?_)))));show wpAny _ _ (ownedTupleIsFree (.ref z) >>= _) _ _ _;unfold ownedTupleIsFree;refine aA (aA (wpAny_field hz rfl (x:=.none) rfl (aB ?_)))
 simp only[if_true];refine aA (wpAny_rule (aA (wpAny_field hz rfl (x:=.ref TO) rfl (aA (wpAny_setField_rec hz (by simp) fun g1 u1 t1=>aA ?_)))))
 simp only[List.zipIdx_cons,List.zipIdx_nil,dY,List.forIn_nil];refine aA (aA (wpAny_onRaise ?_));show wpAny _ _ (nextOf (.ref i1) >>= _) _ _ _;have K1:KB [z] s.heap g1:=KB.of t1 (.head _);refine aA (n1 g1 _ _ K1 fun g2 v2 t2=>aB ?_)
 have o2:IsPair g2 TO a b:=t2.extBut _ _ d.h (t1.extBut _ _ d.b hO);refine aA (wpAny_seqItems o2 rfl (aA (wpAny_updateSeq_pair o2 fun g3 o3 t3=>aA (wpAny_letGo (aB ?_)))))
 have o3:IsPair g3 TO x b:=o3;refine aA (aA (wpAny_onRaise ?_));show wpAny _ _ (nextOf (.ref i2) >>= _) _ _ _;have K3:KB [z,TO,i1] s.heap g3:=(KB.of t1 (.head _)).trans ((KB.of t2 (.tail _ (.tail _ (.head _)))).trans (KB.of t3 (.tail _ (.head _))));refine aA (n2 g3 _ _ K3 fun g4 v4 t4=>aB ?_)
 have o4:IsPair g4 TO x b:=t4.extBut _ _ d.i o3;refine aA (wpAny_seqItems o4 rfl (aA (wpAny_updateSeq_pair o4 fun g5 o5 t5=>aA (wpAny_letGo (aB (aB ?_))))))
 have o5:IsPair g5 TO x y:=o5;refine aA (wpAny_seqItems o5 rfl (aA (wpAny_newTuple ?_)));have K4:KB [z,TO,i1,i2] s.heap g5:=((KB.of t1 m1).trans ((KB.of t2 m3).trans ((KB.of t3 m2).trans ((KB.of t4 m4).trans (KB.of t5 m2)))));have sz:g5.objs.size=s.heap.objs.size:=by rw[t5.1,t4.1,t3.1,t2.1,t1.1]
 have u5:IsZip g5 z TI TO .ellipsis:=t5.extBut _ _ d.b.symm (t4.extBut _ _ d.d.symm (t3.extBut _ _ d.b.symm (t2.extBut _ _ d.c.symm u1)));have zl:=aE u5;show wpAny _ _ (ownedTupleHandOut (.ref z) (.ref g5.objs.size) >>= _) _ _ _;unfold ownedTupleHandOut;have u6:IsZip (g5.push { cls:=.type "tuple",data:=.seq #[x,y] }) z TI TO .ellipsis:=aH _ u5;refine aA (aA (wpAny_setField_rec u6 (by simp) fun g7 u7 t7=>?_))
 have u7:IsZip g7 z TI TO (rawInt g5.objs.size):=u7;refine wpAny_setField_rec u7 (by simp) fun g8 u8 t8=>aB ⟨_,rfl,?_⟩
 have u8:IsZip g8 z TI TO (rawInt g5.objs.size):=u8;have up:∀ c o,c≠z->g5.get? c=some o->g8.get? c=some o:=fun c o n e=>t8.extBut _ _ n (t7.extBut _ _ n (aH _ e))
 have p8:IsPair g8 g5.objs.size x y:=t8.extBut _ _ (Nat.ne_of_gt zl) (t7.extBut _ _ (Nat.ne_of_gt zl) (aS _ rfl));show Q (.ref g5.objs.size) _;rw[sz]at u8 p8 ⊢;exact hQ g8 u8 (up _ _ d.b o5) (k1 _ _ v2 fun o e=>up _ _ d.c (t5.extBut _ _ d.h.symm (t4.extBut _ _ d.j (t3.extBut _ _ d.h.symm e)))) (k2 _ _ v4 fun o e=>up _ _ d.d (t5.extBut _ _ d.i.symm e)) p8 (K4.trans fun c o n e=>up c o (fun q=>n (q ▸ m1)) e)
theorem Zer{Q:Fin->Sd->Prop}(d:ZD z TI TO i1 i2)(hz:IsZip s.heap z TI TO .none)(hI:IsPair s.heap TI (.ref i1) (.ref i2))(hO:IsPair s.heap TO a b)(n:Nz prog w A s [z] i1\/∃ x S,Nx prog w A s [z] i1 x S/\Nz prog w A s [z,TO,i1] i2)(hE:∀ h' e,KB [z,TO,i1,i2] s.heap h'->(∃ o,h'.get? e=some o/\o.cls=.type "StopIteration")->E (.ref e) { s with heap:=h' }):wpAny (model prog w) A (Builtin.«zip.__next__» ⟨[.ref z],[]⟩) Q E s:=by
 obtain⟨m1,m2,m3,m4⟩:=ZjM (z:=z) (TO:=TO) (i1:=i1) (i2:=i2);show wpAny _ _ (field (.ref z) 2 >>= _) _ _ _;refine aA (wpAny_field hz rfl (x:=.bool false) rfl (aA (wpAny_field hz rfl (x:=.ref TI) rfl (aA (wpAny_seqItems hI rfl ?_)))));show wpAny _ _ (ownedTupleIsFree (.ref z) >>= _) _ _ _;unfold ownedTupleIsFree;refine aA (aA (wpAny_field hz rfl (x:=.none) rfl (aB ?_)))
 simp only[if_true];refine aA (wpAny_rule (aA (wpAny_field hz rfl (x:=.ref TO) rfl (aA (wpAny_setField_rec hz (by simp) fun g1 u1 t1=>aA ?_)))))
 simp only[List.zipIdx_cons,List.zipIdx_nil,dY,List.forIn_nil];refine aA (aA (wpAny_onRaise ?_));show wpAny _ _ (nextOf (.ref i1) >>= _) _ _ _;have u1:IsZip g1 z TI TO .ellipsis:=u1;have K1:KB [z] s.heap g1:=KB.of t1 (.head _);have out:∀ {g:Heap}{e:Ad},IsZip g z TI TO .ellipsis->KB [z,TO,i1,i2] s.heap g->(∃ o,g.get? e=some o/\o.cls=.type "StopIteration")->∀ g',Heap.SameBut z g g'->E (.ref e) { s with heap:=g' }:=fun {g e} u k ⟨o,ho,hc⟩ g' t=>by
  have ne:e≠z:=fun q=>by subst q;rw[u]at ho;cases ho;simp at hc
  exact hE g' e (k.trans (KB.of t m1)) ⟨o,t.extBut _ _ ne ho,hc⟩
 rcases n with n|⟨x,S,n1,n2⟩
 ·refine aA (n g1 _ _ K1 fun g2 e t2 he=>?_)
  have u2:IsZip g2 z TI TO .ellipsis:=t2 _ _ d.c.symm u1;exact wpAny_setField_rec u2 (by simp) fun g3 _ t3=>out u2 ((KB.of t1 m1).trans fun c o n e=>t2 c o (fun q=>n (q ▸ m3)) e) he g3 t3
 ·refine aA (n1 g1 _ _ K1 fun g2 v2 t2=>aB ?_)
  have o2:IsPair g2 TO a b:=t2.extBut _ _ d.h (t1.extBut _ _ d.b hO);refine aA (wpAny_seqItems o2 rfl (aA (wpAny_updateSeq_pair o2 fun g3 o3 t3=>aA (wpAny_letGo (aB ?_)))))
  refine aA (aA (wpAny_onRaise ?_));show wpAny _ _ (nextOf (.ref i2) >>= _) _ _ _;have K3:KB [z,TO,i1] s.heap g3:=(KB.of t1 (.head _)).trans ((KB.of t2 (.tail _ (.tail _ (.head _)))).trans (KB.of t3 (.tail _ (.head _))));refine aA (n2 g3 _ _ K3 fun g4 e t4 he=>?_)
  have u4:IsZip g4 z TI TO .ellipsis:=t4 _ _ d.d.symm (t3.extBut _ _ d.b.symm (t2.extBut _ _ d.c.symm u1));exact wpAny_setField_rec u4 (by simp) fun g5 _ t5=>out u4 ((KB.of t1 m1).trans ((KB.of t2 m3).trans ((KB.of t3 m2).trans fun c o n e=>t4 c o (fun q=>n (q ▸ m4)) e))) he g5 t5
end
structure ZSt(z TI TO i1 i2 a b:Addr)(i:Nat)(h:Heap):Prop where
 hz:IsZip h z TI TO .none
 hI:IsPair h TI (.ref i1) (.ref i2)
 hO:∃ u v,IsPair h TO u v
 h1:h.IsListIter i1 a i
 h2:h.IsTupleIter i2 b i
theorem Za0{TI TO i1 i2 c:Ad}(h:c∈[z,TO,i1,i2]):c∈[z,TI,TO,i1,i2]:=by
 rcases aM.mp h with rfl|h
 ·exact .head _
 ·exact .tail _ (.tail _ h)
theorem Za1{TI TO i1 i2 a b c:Ad}(st:ZSt z TI TO i1 i2 a b i h)(hc:c∈[z,TI,TO,i1,i2]):∃ o,h.get? c=some o/\∀ v,o.data≠.cell v:=by
 obtain⟨hz,hI,⟨u,v,hO⟩,⟨o1,g1,_,f1⟩,⟨o2,g2,_,f2⟩⟩:=st;simp only[aM,bZ,or_false]at hc;rcases hc with rfl|rfl|rfl|rfl|rfl
 ·exact⟨_,hz,fun v q=>by cases (show Data.fields _=Data.cell v from q)⟩
 ·exact⟨_,hI,fun v q=>by cases (show Data.seq _ _=Data.cell v from q)⟩
 ·exact⟨_,hO,fun v q=>by cases (show Data.seq _ _=Data.cell v from q)⟩
 ·exact⟨_,g1,fun v q=>by rw[f1]at q;cases q⟩
 ·exact⟨_,g2,fun v q=>by rw[f2]at q;cases q⟩
theorem Zap{a c:Ad}(I:L2.Inv X pQ σ H s)(f:FpOk X pQ H c)(h:(∃ o,H a=some o)\/∃ o,X.K.lookup a=some o):a≠c:=fun q=>by
 subst q;rcases h with⟨o,h⟩|⟨o,h⟩
 ·rw[f.1]at h;cases h
 ·have hb:=I.ok.mod.kin a o h
  rcases f.2.2.2.1 with g|g
  ·exact I.ok.noex a o hb g
  ·exact absurd (aE (I.ok.bs a o hb).1) (Nat.not_lt.mpr g)
theorem ZiR{K:Fg}{a:Ad}{xs:Li V}(h:SqT K H a xs):(∃ o,H a=some o)\/∃ o,K.lookup a=some o:=by
 rcases h with(h|⟨o,h⟩)|⟨o,its,n,h,_⟩
 ·exact .inl ⟨_,h⟩
 ·exact .inl ⟨_,h⟩
 ·exact .inr ⟨_,h⟩
theorem JV{K:Fg}{a:Ad}{xs:Li V}(h:SqL K H a xs):(∃ o,H a=some o)\/∃ o,K.lookup a=some o:=by
 rcases h with(h|⟨o,h⟩)|⟨o,its,n,h,_⟩
 ·exact .inl ⟨_,h⟩
 ·exact .inl ⟨_,h⟩
 ·exact .inr ⟨_,h⟩
theorem Q8{TI TO:Ad}{Q:Ot vL->Sd->Prop}(hz:IsZip s.heap z TI TO .none)(h:∀ {Qf:Fin->Sd->Prop}{Ef:vL->Sd->Prop},(∀ v s',Q (some v) s'->Qf (.done (.ret v)) s')->(∀ e s',(∃ o,s'.heap.get? e=some o/\o.cls=.type "StopIteration")->Q none s'->Ef (.ref e) s')->wpAny (model prog w) A.in1 (Builtin.«zip.__next__» ⟨[.ref z],[]⟩) Qf Ef s):wpAny (model prog w) A (pyNext (.ref z)) Q E s:=by
 have hT:s.TypeIs (.ref z) "zip":=⟨_,hz,rfl⟩;unfold pyNext;refine aA (wpAny_attempt (wpAny_callSpecial?_slot (name:=Str.ofString "__next__") hT F.slot_zip_next (wpAny_call_entry F.slot_zip_next hT F.entry_zip_next (h (fun v s' q=>⟨v,rfl,aB q⟩) fun e s' he q=>?_) (F.args_zip_next_1 _))))
 obtain⟨o,ho,hc⟩:=he;exact aA (wpAny_isInstance (T := "StopIteration") (b:=true) ⟨o,ho,hc⟩ isSubtype_stop (aB q))
section
variable {X:Cx}{z TI TO i1 i2 a b:Ad}{i:Nat}{pQ:Li (Ad×Obj)}{s:Sd}{σ:L2.St}{H:Hp}{E:vL->Sd->Prop}
theorem nl{l:Li Ad}{c:Ad}(h:∀ d∈l,c≠d):c∉l:=fun m=>h c m rfl
theorem Zes(d:ZD z TI TO i1 i2)(hc:X.calm=true)(I:L2.Inv X pQ σ H s)(hf:∀ c∈[z,TI,TO,i1,i2],FpOk X pQ H c)(st:ZSt z TI TO i1 i2 a b i s.heap){xs:Li V}(sq1:SqL X.K H a xs)(sq2:SqT X.K H b ys){its1 its2:Li vL}(p1:s.heap.IsList a its1.toArray)(p2:s.heap.IsTuple b its2.toArray) :
  (∀ u,its1.toArray[i]?=some u->Nx X.prog X.w X.A.in1 s [z] i1 u fun h=>h.IsListIter i1 a (i+1))/\(its1.toArray[i]?=none->Nz X.prog X.w X.A.in1 s [z] i1)/\(∀ u,its2.toArray[i]?=some u->Nx X.prog X.w X.A.in1 s [z,TO,i1] i2 u fun h=>h.IsTupleIter i2 b (i+1))/\(its2.toArray[i]?=none->Nz X.prog X.w X.A.in1 s [z,TO,i1] i2):=by
 have na:∀ {c},c∈[z,TI,TO,i1,i2]->a≠c:=fun m=>Zap I (hf _ m) (JV sq1)
 have nb:∀ {c},c∈[z,TI,TO,i1,i2]->b≠c:=fun m=>Zap I (hf _ m) (ZiR sq2)
 have m1:z∈[z,TI,TO,i1,i2]:=.head _;have e1:∀ h,KB [z] s.heap h->h.IsListIter i1 a i/\h.IsList a its1.toArray:=fun h k=>⟨st.h1.at fun o e=>k _ o (nl fun c m=>by rw[bW.mp m];exact d.c) e,p1.at fun o e=>k _ o (nl fun c m=>by rw[bW.mp m];exact na m1) e⟩
 have e2:∀ h,KB [z,TO,i1] s.heap h->h.IsTupleIter i2 b i/\h.IsTuple b its2.toArray:=fun h k=>⟨st.h2.at fun o e=>k _ o (nl fun c m=>by
   simp only[aM,bZ,or_false]at m;rcases m with rfl|rfl|rfl
   ·exact d.d
   ·exact d.i.symm
   ·exact d.j.symm) e,p2.at fun o e=>k _ o (nl fun c m=>nb (by
   simp only[aM,bZ,or_false]at m ⊢;rcases m with rfl|rfl|rfl
   ·exact .inl rfl
   ·exact .inr (.inr (.inl rfl))
   ·exact .inr (.inr (.inr (.inl rfl))))) e⟩
 have hh:X.A.in1.handled=none:=I.ok.hd hc;refine⟨fun u eu h Q E k hq=>?_,fun eu h Q E k hq=>?_,fun u eu h Q E k hq=>?_,fun eu h Q E k hq=>?_⟩
 ·obtain⟨f1,f2⟩:=e1 h k
  exact wpAny_nextOf_list_item (s:={ s with heap:=h }) f1 f2 eu fun h2 v t=>hq h2 v t
 ·obtain⟨f1,f2⟩:=e1 h k
  exact wpAny_nextOf_list_end (s:={ s with heap:=h }) hh f1 f2 eu fun h2 e t he=>hq h2 e t he
 ·obtain⟨f1,f2⟩:=e2 h k
  exact QI (s:={ s with heap:=h }) hh f1 f2 (fun x h2 ex v t=>by rw[eu]at ex;cases ex;exact hq h2 v t) fun ex=>by rw[eu]at ex;cases ex
 ·obtain⟨f1,f2⟩:=e2 h k
  exact QI (s:={ s with heap:=h }) hh f1 f2 (fun x h2 ex v t=>by rw[eu]at ex;cases ex) fun _ h2 e t he=>hq h2 e t he
theorem Zeq(d:ZD z TI TO i1 i2)(hc:X.calm=true)(I:L2.Inv X pQ σ H s)(hf:∀ c∈[z,TI,TO,i1,i2],FpOk X pQ H c)(st:ZSt z TI TO i1 i2 a b i s.heap)(hg:(Itz X.K a b).go i H) :
  wpAny (model X.prog X.w) X.A (pyNext (.ref z)) (fun r s1=>∃ u,r=some u/\wpAny (model X.prog X.w) X.A (letOwnedTupleGo (.Tuple elts kk pos) (.ref z) u) (fun _ s2=>∃ x H',L2.Inv X pQ σ H' s2/\RelV x u/\(Itz X.K a b).yld i H x H'/\ZSt z TI TO i1 i2 a b (i+1) s2.heap/\∀ c∈[z,TI,TO,i1,i2],H' c=none) E s1) E s:=by
 obtain⟨xs,ys,x,y,sq1,sq2,ex,ey⟩:=hg;obtain⟨its1,r1,p1,_⟩:=I.list sq1;obtain⟨its2,r2,p2,_⟩:=I.tuple sq2;obtain⟨n1,_,n2,_⟩:=Zes d hc I hf st sq1 sq2 p1.isList p2;obtain⟨u,eu,ru⟩:=r1.get ex;obtain⟨v,ev,rv⟩:=r2.get ey;have eu:its1.toArray[i]?=some u:=by rw[dC];exact eu
 have ev:its2.toArray[i]?=some v:=by rw[dC];exact ev
 obtain⟨oa,ob,hO⟩:=st.hO;refine Q8 st.hz fun {Qf Ef} hq _=>aU (Zgy d st.hz st.hI hO (n1 u eu) (n2 v ev) (fun h h' q k=>q.at k) (fun h h' q k=>q.at k) (Q:=fun r s1=>Qf (.done (.ret r)) s1) (E:=Ef) fun g a1 a2 a3 a4 a5 kb=>hq _ _ ⟨_,rfl,?_⟩) (fun r s1 ⟨v,e,q⟩=>by rw[e];exact q) fun _ _ e=>e
 refine wpAny_letOwnedTupleGo_zip (s:={ s with heap:=g }) a1 fun g2 b1 t2=>?_
 have hT:s.heap.objs.size<=s.heap.objs.size:=aD _;have zn:∀ c∈[z,TI,TO,i1,i2],c≠s.heap.objs.size:=fun c hcm q=>by
  obtain⟨o,e,_⟩:=Za1 st hcm;exact absurd (aE e) (by rw[q];exact bD _)
 have kb2:KB [z,TO,i1,i2] s.heap g2:=kb.trans (KB.of t2 (.head _));have tn:s.heap.objs.size≠z:=fun q=>zn z (.head _) q.symm
 have up:∀ c o,c≠z->g.get? c=some o->g2.get? c=some o:=fun c o n e=>t2.extBut c o n e
 have I2:L2.Inv X pQ σ (upd H s.heap.objs.size (.tup [x,y])) { s with heap:=g2,toks:=s.toks }:=XY (wr:=[z,TO,i1,i2]) I (fun c hcm=>hf c (Za0 hcm)) (fun c o n e=>kb2 c o n e) hT ⟨show 2<=sizeLine by decide,[u,v],.cons ru (.cons rv .nil),⟨_,up _ _ tn a5,rfl,_,rfl⟩⟩
 have fr:H s.heap.objs.size=none:=I.hok.fresh (aD _);refine⟨.ref s.heap.objs.size,upd H s.heap.objs.size (.tup [x,y]),I2,rfl,⟨_,x,y,rfl,fr,rfl,fun xs' q=>by rw[ZaO I sq1 q];exact ex,fun ys' q=>by rw[I.tuple_inj q sq2];exact ey⟩,⟨b1,up _ _ d.a (kb _ _ (nl fun c m=>?_) st.hI),⟨_,_,up _ _ d.b a2⟩,a3.at fun o e=>up _ o d.c e,a4.at fun o e=>up _ o d.d e⟩,fun c hcm=>?_⟩
 ·simp only[aM,bZ,or_false]at m
  rcases m with rfl|rfl|rfl|rfl
  ·exact d.a
  ·exact d.e
  ·exact d.f
  ·exact d.g
 ·rw[upd_ne (zn c hcm)]
  exact(hf c hcm).1
theorem Zep(d:ZD z TI TO i1 i2)(hc:X.calm=true)(I:L2.Inv X pQ σ H s)(hf:∀ c∈[z,TI,TO,i1,i2],FpOk X pQ H c)(st:ZSt z TI TO i1 i2 a b i s.heap)(hg:(Itz X.K a b).stop i H) :
  wpAny (model X.prog X.w) X.A (pyNext (.ref z)) (fun r s1=>r=none/\L2.Inv X pQ σ H s1) E s:=by
 obtain⟨xs,ys,sq1,sq2,hle⟩:=hg;obtain⟨its1,r1,p1,_⟩:=I.list sq1;obtain⟨its2,r2,p2,_⟩:=I.tuple sq2;obtain⟨n1,z1,n2,z2⟩:=Zes d hc I hf st sq1 sq2 p1.isList p2;obtain⟨oa,ob,hO⟩:=st.hO;have l1:=r1.length;have l2:=r2.length;have dn:Nz X.prog X.w X.A.in1 s [z] i1\/∃ x S,Nx X.prog X.w X.A.in1 s [z] i1 x S/\Nz X.prog X.w X.A.in1 s [z,TO,i1] i2:=by
  cases q:its1.toArray[i]? with
  |none=>exact .inl (z1 q)
  |some u=>
   rw[dC,bE]at q;refine .inr ⟨u,_,n1 u (by rw[dC,bE];exact q),z2 ?_⟩
   rw[dC,List.getElem?_eq_none_iff];have:=q.1;omega
 exact Q8 st.hz fun {Qf Ef} _ he=>Zer d st.hz st.hI hO dn fun g e kb hs=>he e _ hs ⟨rfl,WV (t':=s.toks) (wr:=[z,TO,i1,i2]) I (fun c hcm=>hf c (Za0 hcm)) fun c o n e=>kb c o n e⟩
end
theorem Zei{P:Program}{K:Fg}(z TI TO i1 i2 a b:Ad)(d:ZD z TI TO i1 i2):Turn P w K (.Tuple elts kk pos) (Itz K a b) [z,TI,TO,i1,i2] z (ZSt z TI TO i1 i2 a b) where
 mem:=.head _
 obj:=fun i h st c hc=>Za1 st hc
 keep:=fun i h h' st k=>by
  obtain⟨hz,hI,⟨u,v,hO⟩,h1,h2⟩:=st;exact⟨k z (.head _) _ hz,k TI (.tail _ (.head _)) _ hI,⟨u,v,k TO (.tail _ (.tail _ (.head _))) _ hO⟩,h1.at fun o e=>k i1 (.tail _ (.tail _ (.tail _ (.head _)))) o e,h2.at fun o e=>k i2 (.tail _ (.tail _ (.tail _ (.tail _ (.head _))))) o e⟩
 item:=fun X hP hw hK hc i pQ s σ H E I hf st hg=>by
  subst hP hw hK;exact Zeq d hc I hf st hg
 done:=fun X hP hw hK hc i pQ s σ H E I hf st hg=>by
  subst hP hw hK;exact Zep d hc I hf st hg
 self:=fun _ _ _ _ _ st h=>wpAny_pyIter_zip st.hz h
theorem Zhz:bootBuiltins "zip"=some (.type "zip"):=by decide +kernel
theorem JG(l1 l2:Ad)(xs ys:Array vL) :
  Meets (Builtin.«zip.__new__» ⟨[.type "zip",.ref l1,.ref l2],[]⟩) (fun _ R s=>s.heap.IsList l1 xs/\s.heap.IsTuple l2 ys/\∀ h',h'=((((s.heap.push { cls:=.type "list_iterator",data:=.fields #[.ref l1,.int 0 0] }).push { cls:=.type "tuple_iterator",data:=.fields #[.ref l2,.int 0 0] }).push { cls:=.type "tuple",data:=.seq #[.ref s.heap.objs.size,.ref (s.heap.push { cls:=.type "list_iterator",data:=.fields #[.ref l1,.int 0 0] }).objs.size] }).push { cls:=.type "tuple",data:=.seq #[.none,.none] })->
   R (.ok (.ret (.ref h'.objs.size))) { s with heap:=h'.push { cls:=.type "zip",data:=.fields #[.none,.bool false,.bool false,.ref ((s.heap.push { cls:=.type "list_iterator",data:=.fields #[.ref l1,.int 0 0] }).push { cls:=.type "tuple_iterator",data:=.fields #[.ref l2,.int 0 0] }).objs.size,.ref (((s.heap.push { cls:=.type "list_iterator",data:=.fields #[.ref l1,.int 0 0] }).push { cls:=.type "tuple_iterator",data:=.fields #[.ref l2,.int 0 0] }).push { cls:=.type "tuple",data:=.seq #[.ref s.heap.objs.size,.ref (s.heap.push { cls:=.type "list_iterator",data:=.fields #[.ref l1,.int 0 0] }).objs.size] }).objs.size] } }):=
 .of_wp fun prog w A R s h=>by
  obtain⟨hp,g,d,tk,os⟩:=s;obtain⟨hl1,hl2,h⟩:=h;have hsub:=sub_zip;have hL1:Heap.IsList (Shared.heap ⟨hp,g,d,tk,os⟩) l1 xs:=hl1;have hL2:Heap.IsTuple (Shared.heap ⟨hp.push { cls:=.type "list_iterator",data:=.fields #[.ref l1,.int 0 0] },g,d,tk,os⟩) l2 ys:=hl2.at fun o e=>aH _ e
  wp_walk using wpAny_pyIter_list hL1,wpAny_pyIter_tuple hL2
  exact⟨_,rfl,h _ rfl⟩
theorem Zbb{l1 l2:Ad}{xs ys:Array vL}{Q:vL->Sd->Prop}(hl1:s.heap.IsList l1 xs)(hl2:s.heap.IsTuple l2 ys)(h:∀ h',ZSt (s.heap.objs.size+4) (s.heap.objs.size+2) (s.heap.objs.size+3) s.heap.objs.size (s.heap.objs.size+1) l1 l2 0 h'->(∀ c o,s.heap.get? c=some o->h'.get? c=some o)->Q (.ref (s.heap.objs.size+4)) { s with heap:=h' }) :
  wpAny (model prog w) A (call (.type "zip") [.ref l1,.ref l2]) Q E s:=by
 refine callType_new F.called_zip (by decide) (F.typeCall_zip_2 _ _) (F.newCall_zip_2 _ _) (fun obj=>F.args_object_init_3 obj _ _) F.entry_zip_new (JG l1 l2 xs ys) ⟨hl1,hl2,fun h' e=>?_⟩
 have z0:∀ (g:Heap) (o:Obj),(g.push o).objs.size=g.objs.size+1:=fun g o=>Heap.size_push ..
 generalize hg1:s.heap.push { cls:=.type "list_iterator",data:=.fields #[.ref l1,.int 0 0] }=g1 at e;generalize hg2:g1.push { cls:=.type "tuple_iterator",data:=.fields #[.ref l2,.int 0 0] }=g2 at e;generalize hg3:g2.push { cls:=.type "tuple",data:=.seq #[.ref s.heap.objs.size,.ref g1.objs.size] }=g3 at e;have s1:g1.objs.size=s.heap.objs.size+1:=by rw[<-hg1,z0]
 have s2:g2.objs.size=s.heap.objs.size+2:=by rw[<-hg2,z0,s1]
 have s3:g3.objs.size=s.heap.objs.size+3:=by rw[<-hg3,z0,s2]
 have s4:h'.objs.size=s.heap.objs.size+4:=by rw[e,z0,s3]
 have q1:g1.get? s.heap.objs.size=some { cls:=.type "list_iterator",data:=.fields #[.ref l1,.int 0 0] }:=by rw[<-hg1];exact aS _ rfl
 have q2:g2.get? (s.heap.objs.size+1)=some { cls:=.type "tuple_iterator",data:=.fields #[.ref l2,.int 0 0] }:=by rw[<-hg2,<-s1];exact aS _ rfl
 have q3:IsPair g3 (s.heap.objs.size+2) (.ref s.heap.objs.size) (.ref (s.heap.objs.size+1)):=by rw[<-hg3,<-s2,<-s1];exact aS _ rfl
 have q4:IsPair h' (s.heap.objs.size+3) .none .none:=by rw[e,<-s3];exact aS _ rfl
 have u2:∀ c o,g1.get? c=some o->g2.get? c=some o:=fun c o x=>by rw[<-hg2];exact aH _ x
 have u3:∀ c o,g2.get? c=some o->g3.get? c=some o:=fun c o x=>by rw[<-hg3];exact aH _ x
 have u4:∀ c o,g3.get? c=some o->h'.get? c=some o:=fun c o x=>by rw[e];exact aH _ x
 have u5:∀ {c:Ad}{o:Obj} (ob:Obj),h'.get? c=some o->(h'.push ob).get? c=some o:=fun ob x=>aH _ x
 have u1:∀ c o,s.heap.get? c=some o->g1.get? c=some o:=fun c o x=>by rw[<-hg1];exact aH _ x
 show _/\_;rw[s2,s3];have q5:IsZip (h'.push { cls:=.type "zip",data:=.fields #[.none,.bool false,.bool false,.ref (s.heap.objs.size+2),.ref (s.heap.objs.size+3)] }) (s.heap.objs.size+4) (s.heap.objs.size+2) (s.heap.objs.size+3) .none:=by rw[<-s4];exact aS _ rfl
 rw[s4];exact⟨⟨_,q5,rfl⟩,h _ ⟨q5,u5 _ (u4 _ _ q3),⟨_,_,u5 _ q4⟩,⟨_,u5 _ (u4 _ _ (u3 _ _ (u2 _ _ q1))),rfl,rfl⟩,⟨_,u5 _ (u4 _ _ (u3 _ _ q2)),rfl,rfl⟩⟩ fun c o x=>u5 _ (u4 _ _ (u3 _ _ (u2 _ _ (u1 _ _ x))))⟩
theorem ZdK{x y:Expr}{ta:TA}{p:Pos}(hg:Gl X "zip")(hm:X.mg "zip"=none)(ha:PA X [x,y] ta)(hp:[x,y].all Zj=true):PI X (.Tuple elts kk tp) (.Call (.Name "zip" p) [x,y] [] pos) (ZhP X.K ta):=by
 intro pQ s σ H R I h;rw[aT,aT,Ba,Ba]at hp;have hs2:starEach [y] X.env=[(false,eval y X.env)]:=Zc hp.2.1;have hs:starEach [x,y] X.env=[(false,eval x X.env),(false,eval y X.env)]:=by rw[Zc hp.1,hs2]
 refine Call_ (ld_blt I hg hm Zhz (PyProof.Rows.callWith_type1 (thn (ha pos pQ s σ H _ I h) fun us s1 ⟨vs,H1,I1,r1,q1⟩=>?_) (by rw[hs,hs2]) (by rw[hs2];rfl)))
 obtain⟨a,b,rfl,⟨xs,sq1⟩,⟨ys,sq2⟩,q⟩:=q1;cases r1 with
 |cons r rr=>
  cases rr with
  |cons r' rr=>
   cases rr;cases r;cases r';obtain⟨its1,_,p1,_⟩:=I1.list sq1;obtain⟨its2,_,p2,_⟩:=I1.tuple sq2;have ne:∀ {i j:Nat},i≠j->(s1.heap.objs.size+i:Nat)≠s1.heap.objs.size+j:=fun h z=>h (Nat.add_left_cancel z)
   refine Zbb p1.isList (show s1.heap.IsTuple b its2.toArray from p2) fun h' st k=>wpAny_pyIter_zip st.hz ?_
   refine⟨s1.heap.objs.size+4,[s1.heap.objs.size+4,s1.heap.objs.size+2,s1.heap.objs.size+3,s1.heap.objs.size,s1.heap.objs.size+1],_,_,H1,rfl,I1.kept (t':=s1.toks) k,Zei _ _ _ _ _ a b ⟨ne (i:=2) (j:=4) (by decide),ne (i:=3) (j:=4) (by decide),ne (i:=0) (j:=4) (by decide),ne (i:=1) (j:=4) (by decide),ne (i:=2) (j:=3) (by decide),ne (i:=2) (j:=0) (by decide),ne (i:=2) (j:=1) (by decide),ne (i:=3) (j:=0) (by decide),ne (i:=3) (j:=1) (by decide),ne (i:=0) (j:=1) (by decide)⟩,st,fun c hcm=>?_,q⟩
   have hc:s1.heap.objs.size<=c:=by
    simp only[aM,bZ,or_false]at hcm;rcases hcm with rfl|rfl|rfl|rfl|rfl
    ·exact dE _ _
    ·exact dE _ _
    ·exact dE _ _
    ·exact aD _
    ·exact dE _ _
   exact I1.fpOk hc (I1.hok.fresh hc)
section
variable {prog:Program}{w:World}{A:Around}{E:vL->Sd->Prop}{s:Sd}
open AutoSeq1 (wpAny_loadPart')
theorem Zfn{T:String}{self:vL}{rest:Li vL}(hl:typeLookup (.type T) "__init__"=pure (some (.builtin "object.__init__")))(hm:Bind.madeBy (.type T)=pure (some newId))(hne:(some newId != some "object.__new__")=true)(hk:(!rest.isEmpty||!kw.isEmpty)=true) :
  Meets (Builtin.«object.__init__» ⟨self :: rest,kw⟩) (fun _ R s=>s.TypeIs self T/\R (.ok (.ret .none)) s):=by
 refine Meets.of_wp fun prog w A R s hs=>?_
 obtain⟨hT,hq⟩:=hs
 repeat (any_goals (first|assumption|wp_step))
 exact⟨_,rfl,hq⟩
theorem Zkq{T:String}{Bn:Builtin}{args:Li vL}{S:PySem.Spec}{Q:vL->Sd->Prop}(ft:TypeCalled T newId "object.__init__")(hne:(some newId != some "object.__new__")=true)(hk:(!args.isEmpty||!kw.isEmpty)=true)(hct:checkTypeCall T ⟨args,kw⟩=pure ())(hcn:checkBuiltinCall newId ⟨.type T :: args,kw⟩=pure ())(hok:∀ obj,argsOk "object.__init__" ⟨obj :: args,kw⟩)(eN:entryFor table newId=some Bn)(g:Meets (Bn ⟨.type T :: args,kw⟩) S)(h:S A.in1 (wants (fun obj s₁=>s₁.TypeIs obj T/\Q obj s₁) E) s):wpAny (model prog w) A (call (.type T) args kw) Q E s:=by
 obtain⟨c,tl,hmro⟩:=ft.mro;have hmade:=ft.made;have hsub:=ft.sub;refine wpAny_call (codeAny_of_tree (show wpAny _ _ (callAny (.type T) _) _ _ _ from aB ⟨Code.quiet_builtin _ (by decide +kernel),codeAny_builtin F.entry_type_call ?_⟩))
 rw[Around.under_plain (weight_type_call_type T args kw) (units_type_call_type T args kw)];have h1:=ft.notType;have h2:=ft.canCreate
 repeat (any_goals (first|assumption|wp_step))
 refine codeAny_mono (codeAny_call_builtin ft.plain eN (wpAny_of_eq hcn (g prog w A.in1 _ s h))) fun r t hr=>?_
 cases r with
 |error e=>exact hr
 |ok fl=>
  cases fl with
  |ret obj=>
   have hli:=ft.init.lookup;have hbi:=ft.init.bind obj;have hT:=hr.1
   repeat (any_goals (first|assumption|wp_step))
   refine codeAny_mono (codeAny_call_builtin ft.init.plain F.entry_object_init (ft.init.check _ _ _ _ _ _ _ _ hT (hok obj) ((Zfn hli hmade hne hk) prog w A.in1 (wants (fun r s₂=>r=.none/\Q obj s₂) E) t ⟨hT,rfl,hr.2⟩))) fun r u hu=>?_
   cases r with
   |error e=>exact hu
   |ok fl=>
    cases fl with
    |ret r=>
     obtain⟨rfl,hq⟩:=hu
     repeat (any_goals (first|assumption|wp_step))
    |_=>exact hu.elim
  |_=>exact hr.elim
theorem Zgs(a v:vL):checkTypeCall "enumerate" ⟨[a],[("start",v)]⟩=pure ():=by kernel_rfl
theorem ZfA(a v:vL):checkBuiltinCall "enumerate.__new__" ⟨[.type "enumerate",a],[("start",v)]⟩=pure ():=by kernel_rfl
theorem ZeD(o a v:vL):argsOk "object.__init__" ⟨[o,a],[("start",v)]⟩:=by
 unfold argsOk;rw[signature?_of (id := "object.__init__") (n:=['_','_','t','i','n','i','_','_']) (o:=['t','c','e','j','b','o']) (by kernel_rfl) F.owner_object];kernel_rfl
theorem QG(l:Ad)(items:Array vL)(n:Nat)(dct:Ot Ad)(sl:Array (Ot vL))(t:Tok) :
  Meets (Builtin.«enumerate.__new__» ⟨[.type "enumerate",.ref l],[("start",.int 1 t)]⟩) (fun _ R s=>s.heap.get? l=some { cls:=.type "list",dict:=dct,data:=.seq items n,slots:=sl } /\
   R (.ok (.ret (.ref (s.heap.push { cls:=.type "list_iterator",data:=.fields #[.ref l,.int 0 0] }).objs.size)))
    { s with heap:=(s.heap.push { cls:=.type "list_iterator",data:=.fields #[.ref l,.int 0 0] }).push { cls:=.type "enumerate",data:=.fields #[.none,.bool false,.ref s.heap.objs.size,rawInt 1,.none,.none] } }):=
 .of_wp fun prog w A R s h=>by
  obtain⟨hp,g,d,tk,os⟩:=s;obtain⟨hl,h⟩:=h;have hsub:=sub_enumerate;have hL:Heap.IsList (Shared.heap ⟨hp,g,d,tk,os⟩) l items:=⟨_,hl,rfl,n,rfl⟩
  wp_walk using wpAny_loadPart' hl
  refine wpAny_stack_any fun st=>aB ?_
  split
  ·rename_i c _ _ _ _ _
   cases (c==Value.type "enumerate")
   ·wp_walk using wpAny_loadPart' hl,wpAny_pyIter_list hL
    exact⟨_,rfl,h⟩
   ·wp_walk using wpAny_loadPart' hl,wpAny_pyIter_list hL
    exact⟨_,rfl,h⟩
  ·wp_walk using wpAny_loadPart' hl,wpAny_pyIter_list hL
   exact⟨_,rfl,h⟩
end
theorem Zjl{M:Model}{T:String}{args:Li (Bool×Sem vL)}{keywords:Li (Ot Str×Sem vL)}{Q:vL->Sd->Prop}(hplain:args.any (·.1)=false)(hkw:keywords.any (·.1.isNone)=false)(h:wpAny M A (evalArgs (.type T) true args keywords) (fun a t=>wpAny M A (call (.type T) a.pos a.kw) Q E t) E s):wpAny M A (callWith pos (.type T) [] args keywords) Q E s:=by
 unfold callWith;refine aA (wpAny_holding (aU h (fun a t h1=>aA (wpAny_standAt ?_)) fun _ _ x=>x))
 simp only[hplain,hkw,cQ];exact aA (aB (aA (aU h1 (fun r u hr=>aA (wpAny_holding (wpAny_point (aB hr)))) fun _ _ x=>x)))
noncomputable def Ite(sq:Hp->Li V->Prop):It:=
 ⟨fun i H=>∃ xs x,sq H xs/\xs[i]?=some x,fun i H v H'=>∃ T x,v=.ref T/\H T=none/\H'=upd H T (.tup [.int ((i+1:Nat):Int),x])/\∀ xs,sq H xs->xs[i]?=some x,fun i H=>∃ xs,sq H xs/\xs.length=i⟩
noncomputable def ZgJ(K:Fg)(te:TE):TI:=fun σ H R=>te σ H fun v H1=>∃ a,v=.ref a/\(∃ xs,SqL K H1 a xs)/\R (Ite fun H=>SqL K H a) H1
def shP(P:Nat->vL->Prop):Nat->vL->Prop
 |0,_=>False
 |k+1,v=>P k v
def shS(S:Nat->Heap->Prop):Nat->Heap->Prop
 |0,_=>False
 |k+1,h=>S k h
omit [ClsTab] in
theorem Qp{prog:Program}{w:World}{A:Around}{it:Ad}{fp:Li Ad}{n:Nat}{P:Nat->vL->Prop}{S:Nat->Heap->Prop}(D:Draws prog w A it fp n P S):Draws prog w A it fp (n+1) (shP P) (shS S) where
 live:=fun i h st=>by
  cases i with
  |zero=>exact st.elim
  |succ k=>exact D.live k h st
 frame:=fun i h h' st k=>by
  cases i with
  |zero=>exact st.elim
  |succ j=>exact D.frame j h h' st k
 item:=fun i s Q E hi st hQ=>by
  cases i with
  |zero=>exact st.elim
  |succ k=>exact D.item k s Q E (Nat.lt_of_succ_lt_succ hi) st fun x h' tk p q sb=>hQ x h' tk p q sb
 done:=fun s Q E st hE=>D.done s Q E st hE
theorem ZbO{P:Program}{K:Fg}(e it a:Ad)(d:e≠it) :
  Turn P w K (.Tuple elts kk pos) (Ite fun H=>SqL K H a) [e,it] e (fun i h=>(∃ old,IsEnum h e it ((i+1:Nat):Int) old)/\h.IsListIter it a i) where
 mem:=by simp
 obj:=fun i h st c hc=>by
  obtain⟨⟨old,he⟩,⟨o,g,_,f⟩⟩:=st;simp only[aM,bZ,or_false]at hc;rcases hc with rfl|rfl
  ·exact⟨_,he,fun v q=>by cases (show Data.fields _=Data.cell v from q)⟩
  ·exact⟨o,g,fun v q=>by rw[f]at q;cases q⟩
 keep:=fun i h h' st k=>by
  obtain⟨⟨old,he⟩,h1⟩:=st;exact⟨⟨old,k e (by simp) _ he⟩,h1.at fun o g=>k it (by simp) o g⟩
 item:=by
  intro X hP hw hK hc i pQ s σ H E I hf st hg;subst hP hw hK;obtain⟨xs,x,hs,ex⟩:=hg;obtain⟨its,r,p,_⟩:=I.list hs;have na:∀ {c},c∈[e,it]->a≠c:=fun m=>Zap I (hf _ m) (JV hs)
  have D:=Qp (Draws.list (prog:=X.prog) (w:=X.w) (show X.A.in1.handled=none from I.ok.hd hc) it a (na (.tail _ (.head _))) its.toArray);have W:=WalksT.enumerateD D e d (by simp only[aM,bZ,or_false];exact fun q=>q.elim d fun q=>na (.head _) q.symm) (by simp)
  have l1:=r.length;have ix:i < xs.length:=(bE.mp ex).1;refine W.item (i+1) s _ _ (by simp;omega) ⟨st.1,st.2,p.isList⟩ fun T vals h' tk hv hT tup mid k1=>?_
  obtain⟨t,u,eu,rfl⟩:=hv;refine⟨.ref T,rfl,W.go elts kk pos (i+1) T _ _ _ mid fun h2' st2 k2=>?_⟩
  have nT:=W.apart (i+1) T h' mid;have ru:RelV x u:=by
   obtain⟨u',e1,e2⟩:=r.get ex;have eu:its.toArray[i]?=some u:=eu;have:its[i]?=some u:=by simpa using eu
   rw[this]at e1;cases e1;exact e2
  have tup2:h2'.IsTuple T #[.int ((i+1:Nat):Int) t,u]:=tup.at fun o g=>k2 T o nT g
  have I2:L2.Inv X pQ σ (upd H T (.tup [.int ((i+1:Nat):Int),x])) { s with heap:=h2',toks:=tk }:=XY (wr:=[e,it]) I hf (fun c o hcn g=>k2 c o hcn (k1 c o hcn g)) hT ⟨show 2<=sizeLine by decide,[.int ((i+1:Nat):Int) t,u],.cons ⟨t,rfl⟩ (.cons ru .nil),tup2⟩
  refine⟨.ref T,_,I2,rfl,⟨T,x,rfl,I.hok.fresh hT,rfl,fun xs' q=>by rw[ZaO I hs q];exact ex⟩,⟨st2.1,st2.2.1⟩,fun c hcm=>?_⟩
  have:c≠T:=fun q=>by
   have lt:∀ {o},s.heap.get? c=some o->False:=fun g=>absurd (aE g) (Nat.not_lt.mpr (by rw[q];exact hT))
   obtain⟨⟨_,he⟩,⟨_,g,_⟩⟩:=st;simp only[aM,bZ,or_false]at hcm;rcases hcm with rfl|rfl
   ·exact lt he
   ·exact lt g
  rw[upd_ne this];exact(hf c hcm).1
 done:=by
  intro X hP hw hK hc i pQ s σ H E I hf st hg;subst hP hw hK;obtain⟨xs,hs,hle⟩:=hg;obtain⟨its,r,p,_⟩:=I.list hs;have na:∀ {c},c∈[e,it]->a≠c:=fun m=>Zap I (hf _ m) (JV hs)
  have D:=Qp (Draws.list (prog:=X.prog) (w:=X.w) (show X.A.in1.handled=none from I.ok.hd hc) it a (na (.tail _ (.head _))) its.toArray);have W:=WalksT.enumerateD D e d (by simp only[aM,bZ,or_false];exact fun q=>q.elim d fun q=>na (.head _) q.symm) (by simp)
  have l1:=r.length;have e1:i=its.toArray.size:=by simp;omega
  subst e1;exact W.done s _ _ ⟨st.1,st.2,p.isList⟩ fun h' tk k=>⟨rfl,WV (wr:=[e,it]) I hf k⟩
 self:=fun _ _ _ _ _ st h=>let ⟨⟨_,he⟩,_⟩:=st;wpAny_pyIter_enum he h
theorem ZeO:bootBuiltins "enumerate"=some (.type "enumerate"):=by decide +kernel
theorem ZfP{x:Expr}{te:TE}{p kp:Pos}{ck:Nat}(hg:Gl X "enumerate")(hm:X.mg "enumerate"=none)(hp:Zj x=true)(he:PE X x te):PI X (.Tuple elts kk tp) (.Call (.Name "enumerate" p) [x] [⟨some "start",.Constant (.int 1) ck cp,kp⟩] pos) (ZgJ X.K te):=by
 intro pQ s σ H R I h;have hs:starEach [x] X.env=[(false,eval x X.env)]:=Zc hp;refine wpAny_Call_Name_kw (ld_blt I hg hm ZeO (Zjl (by rw[hs];rfl) rfl ?_))
 rw[hs];refine evalArgs_kwB rfl (Calls.spliced_cons (thn (he pQ s σ H _ I h) fun u s1 ⟨v,H1,I1,rv,a,ea,⟨xs,sq⟩,q⟩=>Calls.spliced_nil ?_))
 subst ea;cases (show u=Value.ref a from rv)
 refine kws_cons (thn (pe_int pQ s1 σ H1 (fun v H=>v=.int 1/\H=H1) I1 ⟨rfl,rfl⟩) fun u2 s2 ⟨v2,H2,I2,r2,e2,e3⟩=>kws_nil ?_)
 subst e2;subst e3
 obtain⟨t,rfl⟩:=r2;obtain⟨its,_,p1,_⟩:=I2.list sq;obtain⟨⟨c,dct,dt,sl⟩,hl,hc,n,hd⟩:=id p1.isList;replace hc:c=.type "list":=hc;replace hd:dt=.seq its.toArray n:=hd;subst hc hd;refine Zkq F.called_enumerate (by decide) rfl (Zgs _ _) (ZfA _ _) (fun obj=>ZeD obj _ _) F.entry_enumerate_new (QG a its.toArray n dct sl t) ⟨hl,?_⟩
 have z1:(s2.heap.push { cls:=.type "list_iterator",data:=.fields #[.ref a,.int 0 0] }).objs.size=s2.heap.objs.size+1:=Heap.size_push ..;generalize hg1:s2.heap.push { cls:=.type "list_iterator",data:=.fields #[.ref a,.int 0 0] }=g1 at z1 ⊢;generalize hg2:g1.push { cls:=.type "enumerate",data:=.fields #[.none,.bool false,.ref s2.heap.objs.size,rawInt 1,.none,.none] }=g2
 have q1:IsEnum g2 (s2.heap.objs.size+1) s2.heap.objs.size ((0+1:Nat):Int) .none:=by rw[<-hg2,<-z1];exact aS _ rfl
 have q0:g2.IsListIter s2.heap.objs.size a 0:=by
  refine⟨{ cls:=.type "list_iterator",data:=.fields #[.ref a,.int 0 0] },?_,rfl,rfl⟩;rw[<-hg2,<-hg1];exact aH _ (aS _ rfl)
 have k2:∀ b o,s2.heap.get? b=some o->g2.get? b=some o:=fun b o e=>by rw[<-hg2,<-hg1];exact aH _ (aH _ e)
 show _/\_;rw[z1];refine⟨⟨_,q1,rfl⟩,wpAny_pyIter_enum q1 ?_⟩;refine⟨s2.heap.objs.size+1,[s2.heap.objs.size+1,s2.heap.objs.size],_,_,H2,rfl,I2.kept (t':=s2.toks) k2,ZbO _ _ a (Nat.succ_ne_self _),⟨⟨_,q1⟩,q0⟩,fun c hcm=>?_,q⟩
 have hc:s2.heap.objs.size<=c:=by
  simp only[aM,bZ,or_false]at hcm;rcases hcm with rfl|rfl
  ·exact dE _ _
  ·exact aD _
 exact I2.fpOk hc (I2.hok.fresh hc)
theorem V8:∀ {xs:Li D}{k i:Nat}{x:D},xs[i]?=some x->(Wj k xs)[i]?=some (.int ((k+i:Nat):Int),x)
 |[],_,_,_,h=>nomatch h
 |x :: xs,k,0,_,h=>by cases h;rfl
 |x :: xs,k,i+1,y,h=>by
  show(Wj (k+1) xs)[i]?=_;rw[V8 (show xs[i]?=some y from h),show k+1+i=k+(i+1) by omega]
theorem WG:∀ {xs:Li D}{k:Nat},(Wj k xs).length=xs.length
 |[],_=>rfl
 |x :: xs,k=>congrArg (·+1) WG
theorem ZcV{K:Fg}{fi:Ev}{f:Ex}(E:Ends)(σ:L2.St)(H:Hp)(h:tS K (Qv i j fi f) E σ H):tFor (ZgJ K (tE K fi)) (gTup K 2 (gCons (gName i) (gCons (gName j) gNil))) (tS K f) E σ H:=by
 obtain⟨ad,ρ,st,r,st',En,S,e,p⟩:=ZW h;unfold Qv at e;split at e
 ·rename_i x st1 q1
  split at e
  ·rename_i xs ok hw
   cases x with
   |lst l=>
    have hw:(match st1[l]? with
     |some c=>some (c.2,fun s=>s[l]?=some c)
     |none=>none)=some (xs,ok):=hw
    cases hc:st1[l]? with
    |none=>rw[hc]at hw;cases hw
    |some c=>
    rw[hc]at hw;cases hw;refine⟨ad,ρ,st,.lst l,st1,En,S,q1,fun v ad1 H1 x1 S1 d1=>?_⟩
    obtain⟨a,rfl,ha⟩:=d1.ofLst;obtain⟨vs,rv,sq⟩:=S1.list ha (show st1[l]?=some (c.1,c.2) from hc);refine⟨a,rfl,⟨vs,sq⟩,_,⟨_,.mk (Good:=fun ad H=>LA ad H l a) (bX _) (En.mono x1) S1 ha e (p.later x1)⟩,VC (fun _ _ _ _ x g=>g.mono x) (fun ad H st g S o=>?_) fun k ad H st q g S o hq=>?_⟩
    ·obtain⟨vs,rv,sq⟩:=S.list g (show st[l]?=some (c.1,c.2) from o)
     exact⟨vs,sq,by rw[rv.length,WG]⟩
    ·obtain⟨vs,rv,sq⟩:=S.list g (show st[l]?=some (c.1,c.2) from o)
     have hk:k < c.2.length:=by rw[<-WG (k:=1)];exact(bE.mp hq).1
     have hg:=Lg hk;rw[V8 (k:=1) hg]at hq;cases hq;obtain⟨w,ew,dw⟩:=rv.get hg;exact⟨.int ((1+k:Nat):Int),w,⟨vs,w,sq,ew⟩,.int _,dw,fun x H' ⟨pt,y1,e1,e2,e3,hy⟩=>⟨pt,e1,e2,by have z:=hy vs sq;rw[ew]at z;cases z;rw[e3,Nat.add_comm]⟩⟩
   |_=>exact Zb hw
  ·exact Zb e
 ·exact Zb e
theorem Jl(K:Cxt X G F sc N)(h:Wi G sc it=some e):∃ p pos kp cp ck,it=.Call (.Name "enumerate" p) [e] [⟨some "start",.Constant (.int 1) ck cp,kp⟩] pos/\Gl X "enumerate"/\X.mg "enumerate"=none:=by
 obtain⟨⟨g,as,ks⟩,e1,h⟩:=aO.mp h;obtain⟨f,e2,h⟩:=aO.mp h;obtain⟨x,e3,h⟩:=aO.mp h;obtain⟨k,e4,h⟩:=aO.mp h;obtain⟨c,e5,h⟩:=aO.mp h;refine ZY h fun hc h2=>?_
 obtain⟨⟨h1,h3⟩,h4,hg,hb⟩:=hc
 injection h2 with h2
 obtain⟨p,q2⟩:=X8 e2;obtain⟨pos,q1⟩:=Zad e1;obtain⟨ck,cp,q5⟩:=Zfo e5;obtain⟨ka,kv,kp⟩:=k;unfold ZgN at h1;split at h1
 ·have h1:=of_decide_eq_true h1
  rw[h4]at hg hb q2;refine⟨p,pos,kp,cp,ck,by rw[q1,show g=_ from q2,show as=_ from Xc e3,show ks=_ from Xc e4,show ka=_ from h3,show kv=_ from q5,h1,h2],K.glb _ hg,?_⟩
  unfold Ud at hb;split at hb
  ·rename_i q;exact K.gl _ _ q
  ·cases hb
 ·cases h1
theorem V0(K:Cxt X G F sc N)(h:Wy G sc it=some as):∃ p pos a b,it=.Call (.Name "zip" p) [a,b] [] pos/\as=[a,b]/\Gl X "zip"/\X.mg "zip"=none:=by
 obtain⟨bs,h1,h2⟩:=aO.mp h;obtain⟨p,pos,rfl,hg,hm⟩:=Vt K h1;refine ZY h2 fun hl h3=>?_
 cases h3;cases as with
 |nil=>cases hl
 |cons a as=>cases as with
  |nil=>cases hl
  |cons b as=>cases as with
   |nil=>exact⟨p,pos,_,_,rfl,rfl,hg,hm⟩
   |cons _ _=>cases hl

theorem Zgi(ihA:Z7 G F n)(ihS:ZZ G F n)(K:CxtS X G F sc N)(hk:X.calm=true){c:CS}{x y:Str}{b:Li Stmt}{p:Pos}(hi:N.idxOf? x=some i)(hj:N.idxOf? y=some j)(hz:Wy G sc it=some as)(h:o2 (CS.forP i j) (cEs G n sc N as) (cSs G n sc N b)=some c):PS X (.For (.Tuple [.Name x p,.Name y p2] ctx tp) it b [] pos) (tS X.K (ex F c)):=by
 refine ZQ (P:=fun c=>PS X _ (tS X.K (ex F c))) h fun ci cb hc hb=>?_
 obtain⟨p1,p3,a,b',rfl,rfl,hg,hm⟩:=V0 K.toCxt hz;obtain⟨A,_,pl,_⟩:=ihA X sc N K.toCxt _ ci hc;exact ZF (ps_for (passes K) hk (ZdK hg hm A pl) (pg_tup hk (pgs_cons (XE K hi) (pgs_cons (XE K hj) pgs_nil))) (ihS X sc N K _ cb hb) (ZT rfl)) ZcX
theorem Zgh(ihE:Zp G F n)(ihS:ZZ G F n)(K:CxtS X G F sc N)(hk:X.calm=true){c:CS}{x y:Str}{b:Li Stmt}{p:Pos}(hi:N.idxOf? x=some i)(hj:N.idxOf? y=some j)(hz:Wi G sc it=some e)(h:o2 (CS.forE i j) (cE G n sc N e) (cSs G n sc N b)=some c):PS X (.For (.Tuple [.Name x p,.Name y p2] ctx tp) it b [] pos) (tS X.K (ex F c)):=by
 refine ZQ (P:=fun c=>PS X _ (tS X.K (ex F c))) h fun ci cb hc hb=>?_
 obtain⟨p3,p4,p5,p6,ck,rfl,hg,hm⟩:=Jl K.toCxt hz;exact ZF (ps_for (passes K) hk (ZfP hg hm (Zh hc) (ihE X sc N K.toCxt _ ci hc).pe) (pg_tup hk (pgs_cons (XE K hi) (pgs_cons (XE K hj) pgs_nil))) (ihS X sc N K _ cb hb) (ZT rfl)) ZcV
theorem Zgf(ihE:Zp G F n)(ihS:ZZ G F n)(K:CxtS X G F sc N)(hk:X.calm=true){c:CS}{x y z:Str}{b:Li Stmt}{p:Pos}(h:o3 (fun(p:Nat×Nat) (q:Nat×CE) b=>CS.for4 p.1 p.2 q.1 q.2 b) (o2 Prod.mk (N.idxOf? x) (N.idxOf? y)) (o2 Prod.mk (N.idxOf? z) (cE G n sc N it)) (cSs G n sc N b)=some c):PS X (.For (.Tuple [.Name x p,.Name y p2,.Name z p3] ctx tp) it b [] pos) (tS X.K (ex F c)):=
 WM (P:=fun c=>PS X _ (tS X.K (ex F c))) h fun u v cb hu hv hb=>ZQ (P:=fun u:Nat×Nat=>PS X _ (tS X.K (ex F (.for4 u.1 u.2 v.1 v.2 cb)))) hu fun i j hi hj=>ZQ (P:=fun v:Nat×CE=>PS X _ (tS X.K (ex F (.for4 i j v.1 v.2 cb)))) hv fun l ci hl hc=>
  psN fun _ _=>rfl
theorem Zgd(ihE:Zp G F n)(ihS:ZZ G F n)(K:CxtS X G F sc N)(hk:X.calm=true){c:CS}{x y:Str}{b:Li Stmt}{p:Pos}(hi:N.idxOf? x=some i)(hj:N.idxOf? y=some j)(h:o2 (CS.for2 i j) (cE G n sc N it) (cSs G n sc N b)=some c):PS X (.For (.Tuple [.Name x p,.Name y p2] ctx tp) it b [] pos) (tS X.K (ex F c)):=by
 refine ZQ (P:=fun c=>PS X _ (tS X.K (ex F c))) h fun ci cb hc hb=>?_
 exact ZF (ps_for (passes K) hk (pi_list (ihE X sc N K.toCxt _ ci hc).pe) (pg_tup hk (pgs_cons (XE K hi) (pgs_cons (XE K hj) pgs_nil))) (ihS X sc N K _ cb hb) (ZT (env:=X.env) (Zh hc))) ZcT
theorem ZiL(ihE:Zp G F n)(K:CxtS X G F sc N){c:CS}{x:Str}{p:Pos}(h:Zho sc N x m ap cp (cE G n sc N e)=some c):PS X (.Expr (.Call (.Attribute (.Name x p) m ap) [e] [] cp) pos) (tS X.K (ex F c)):=by
 refine ZY h fun hc h=>?_
 by_cases e1:m = "append"
 ·subst e1
  rw[if_pos rfl]at h;exact ZQ (P:=fun c=>PS X _ (tS X.K (ex F c))) h fun i y hi hx=>ZF (ps_expr (pe_bm PySem.F.plainAttrs_list PySem.F.slot_list_append PySem.F.type_list_append mt_append (ZgY K.toCxt hc.1 hi) (pa1 (Zh hx) (ihE X sc N K.toCxt _ y hx).pe) rfl (by rw[Zc (Zh hx)];rfl) hc.2 (Zc (Zh hx)) rfl) rfl) Ze8
 ·rw[if_neg e1]at h;cases h
theorem Zgo(ihA:Z7 G F n)(K:CxtS X G F sc N){c:CS}{g:Str}{a:Expr}{gp ep:Pos}(h:Zkn G sc N (V3 G sc (cEs G n sc N) g (a :: as)) h0=some c):PS X (.Try [.Expr (.Call (.Name g gp) (a :: as) [] cp) ep] [h0] [] [] pos) (tS X.K (ex F c)):=by
 have h':=aO.mp h;clear h;obtain⟨⟨x,y,z,f,y'⟩,hq,h⟩:=h';dsimp only at h;obtain⟨xp,zp,fp,yp,fcp,ap,hp,rfl⟩:=Zgu hq
 ·split at h
  ·rename_i i l hGx
   split at h
   ·rename_i j hGf
    refine ZY h fun hc h=>WM (P:=fun c=>PS X _ (tS X.K (ex F c))) h fun ni m ce hn hm hx=>?_
    obtain⟨⟨gx,gf⟩,yl,rfl,ly⟩:=hc;obtain⟨mx,_,hxs,_⟩:=K.gl x _ hGx;obtain⟨f0,fd0,pn0,F0,r0,m0,k0,b0⟩:=K.gl f _ hGf;unfold V3 at hx;split at hx
    ·rename_i gi ps ds hG
     refine ZY hx fun hl hx=>X9 (P:=fun x=>PS X _ (tS X.K (ex F (.whl (.compT l (.var ni) x .nop) (.set m (.call j (.aC (.var ni) .aN) [])))))) hx fun cs hcs=>?_
     obtain⟨k,fa,fd,pn,Fk,hr,hmg,hk,hb⟩:=K.gl g _ hG;obtain⟨dvs,us,hd,hv,hbn⟩:=hb ((a :: as).length+ds.length - ps) (by omega)
     obtain⟨PAs,_,hp',_⟩:=ihA X.nox sc N (CxtS.toCxt (xk:=xc0) K.nox) (a :: as) cs hcs;rw[aT,Ba]at hp';intro pQ s σ H D I q;obtain⟨ad,ρ,st,r,st',E,S,e,p⟩:=ZW q;have e:(match Zo (ev F cs) (V4 (F gi) (ds.drop ((a :: as).length+ds.length - ps))) ρ st with
      |some (.dct [_] [.int c,.int k],st1)=>if (0<=k/\c.toNat < 1000)/\l.contains c.toNat=true/\exNums.contains c.toNat=true then (match VO m (ev F (.call j (.aC (.var ni) .aN) [])) (Zi ρ ni (.obj (c.toNat+1000 * k.toNat))) st1 with
       |some (.nx ρ',st2)=>some (Fl.nx (ρ'.set ni none),st2)
       |_=>none) else none
      |_=>none)=some (r,st'):=e
     split at e
     ·rename_i ky c kk st1 q1
      split at e
      ·rename_i cd
       split at e
       ·rename_i ρ' st2 q2
        cases e;unfold Zo at q1;split at q1
        ·rename_i u0 st0 q0
         cases u0 with
         |tup xs=>
          have q1:F gi (xs++ds.drop ((a :: as).length+ds.length - ps)) st0=some (.dct [ky] [.int c,.int kk],st1):=q1;obtain⟨em,xg⟩:=hxs _ (dX.mp cd.2.1);have hi:ni < ρ.length:=by
           rw[<-E.len,I.len,K.hN];exact(bE.mp (Yx hn)).1
          unfold VO at q2;split at q2
          ·rename_i d st2 q3
           cases q2;have q3:(match Zz (ZV ni) (evC (.tup [])) Xr (Zi ρ ni (.obj (c.toNat+1000 * kk.toNat))) st1 with
            |some (x,st1)=>Qj (F j) [] x st1
            |none=>none)=some (d,st'):=q3
           have q4:Zz (ZV ni) (evC (.tup [])) Xr (Zi ρ ni (.obj (c.toNat+1000 * kk.toNat))) st1=some (.tup [.obj (c.toNat+1000 * kk.toNat)],st1):=by
            unfold Zz ZV Zi;rw[bN hi];rfl
           rw[q4]at q3;obtain⟨q3,xp⟩:=ZgW (show Wr (F j [.obj (c.toNat+1000 * kk.toNat)] st1)=_ from q3);refine ps_try (X:=X) (C0:=ClsTab.ca c.toNat) (ni:=ni) (ts:=tAsg (tCall (spD X.K (F j)) [] E0 (tCons (tVar ni) tNil)) (gName m)) K.st (by rw[K.hN];exact K.nd) Fk hr (K.glb g hl.1) hmg hk hbn hv PAs (K.glb x gx) mx em (by rw[K.hN];exact Yx hn) ?_ (fun ev=>pss_one ?_) (ZS hl.1) (ZS gx) (Zc hp'.1) (Yr hp'.2) pQ s σ H D I ?_
           ·exact K.sce _ yl
           ·have r1:Room 1 (Xm X ev).nox.A:=⟨fun z=>absurd z (by decide),r0.dp,r0.un⟩
            exact ps_set (X:=(Xm X ev).nox) (by show X.N.Nodup;rw[K.hN];exact K.nd) (show X.N[m]?=_ by rw[K.hN];exact Yx hm) (K.loc _ (Vc hm)) (pe_call (X:=(Xm X ev).nox) F0 r1 (K.glb f gf) m0 k0 b0 .nil ZaL (pa_cons (pe_var (show X.N[ni]?=_ by rw[K.hN];exact Yx hn) (K.vis _ ly) (Wo ly).1 (Wo ly).2) pa_nil) (ZS gf)) (YO rfl) (.inl (K.fn _))
           ·have hk0:((kk.toNat:Nat):Int)=kk:=Int.toNat_of_nonneg cd.1.1
            have h1:(c.toNat+1000 * kk.toNat) % 1000=c.toNat:=by omega
            have h2:(c.toNat+1000 * kk.toNat) / 1000=kk.toNat:=by omega
            refine⟨ad,ρ,st,xs,st0,E,S,q0,fun vs ad1 H1 x1 S1 d1=>⟨fun v o H'=>v=.ref (ClsTab.ca c.toNat)/\∃ dx ad',o=some dx/\Ext ad1 H1 ad' H'/\StOk X.K ad' H' st1/\H' dx=some (.xd [("line",.int kk)]),⟨ad1,_,st0,_,st1,S1,d1.append (hd _ _),q1,fun v ad' H' _ _ z=>(by cases z),fun ad' H' dx x' S' h=>⟨rfl,dx,ad',rfl,x',S',h⟩⟩,fun ea C dx H' he hE=>?_⟩⟩
            obtain⟨hC,dx',ad',hdx,x',S',hx'⟩:=hE;cases hC;cases hdx;refine⟨rfl,.ref ea,bN (by rw[E.len];exact hi),?_⟩
            have den:Den X.K ad' H' (.ref ea) (.obj (c.toNat+1000 * kk.toNat)):=.obj (dx:=dx) (by rw[h1];exact⟨xg,dX.mp cd.2.2⟩) (by rw[h1];exact he) (by rw[h2,hk0];exact hx')
            refine⟨ad',[.obj (c.toNat+1000 * kk.toNat)],st1,d,st',S',.cons den .nil,q3,fun v ad2 H2 x2 S2 d2=>?_,xp _ _ _ _⟩
            exact p _ ad2 H2 (x1.trans (x'.trans x2)) S2 (((((E.mono x1).mono x').set ni den).mono x2).set m d2 |>.del ni)
          ·exact Zb q2
         |_=>exact Zb q1
        ·exact Zb q1
       ·exact Zb e
      ·exact Zb e
     ·exact Zb e
    ·exact Zb hx
   ·exact Zb h
  ·exact Zb h
theorem Zgn(ihE:Zp G F n)(ihA:Z7 G F n)(hA:X4 G F n)(K:CxtS X G F sc N){c:CS}{b:Li Stmt}(h:Zkm G sc N (cE G n sc N) (cEs G n sc N) b h0 hs=some c):PS X (.Try b (h0 :: hs) [] [] pos) (tS X.K (ex F c)):=by
 have h':=aO.mp h;clear h;obtain⟨s,h1,h⟩:=h';cases Xc h1
 split at h
 ·rename_i p hp
  obtain⟨p1,p2⟩:=p;obtain⟨x,h2,h5⟩:=aO.mp h;obtain⟨x,h3,h6⟩:=aO.mp h5;obtain⟨q,rfl⟩:=Zab hp;cases Xc h2
  obtain⟨q2,rfl⟩:=X8 h3;exact Zgm ihE hA K h6
 ·obtain⟨e,h2,h5⟩:=aO.mp h
  obtain⟨⟨g,as⟩,h3,h6⟩:=aO.mp h5;obtain⟨q,rfl⟩:=Ze3 h2;obtain⟨q1,q2,rfl⟩:=UD h3;split at h6
  ·rename_i hh
   cases hs with
   |nil=>cases as with
    |nil=>cases hh.2
    |cons _ _=>exact Zgo ihA K h6
   |cons _ _=>cases hh.1
  ·exact Zb h6
theorem Zga(ihE:Zp G F n)(hA:X4 G F n)(K:CxtS X G F sc N){c:CS}(h:Zjc G N tg e (cE G n sc N e)=some c):PS X (.Assign [tg] e pos) (tS X.K (ex F c)):=by
 have no:∀ {P:Prop},(none:Ot CS)=some c->P:=fun z=>nomatch z
 cases tg with
 |Name x p=>exact Zd3 ihE hA K h
 |Tuple es ctx tp=>cases es with
  |nil=>exact no h
  |cons a es=>cases a with
   |Name _ _=>cases es with
    |nil=>exact no h
    |cons b es=>cases b with
     |Name _ _=>cases es with
      |nil=>exact Zgk ihE K h
      |cons c2 es=>cases c2 with
       |Name _ _=>cases es with
        |nil=>exact Zgl ihE K h
        |cons _ _=>exact no h
       |_=>exact no h
     |_=>exact no h
   |_=>exact no h
 |_=>exact no h
theorem Zgg(ihE:Zp G F n)(ihA:Z7 G F n)(ihS:ZZ G F n)(K:CxtS X G F sc N)(hk:X.calm=true){c:CS}{b:Li Stmt}(h:ZhO G sc N (cE G n sc N) (cEs G n sc N) tg it (cSs G n sc N b)=some c):PS X (.For tg it b [] pos) (tS X.K (ex F c)):=by
 have no:∀ {P:Prop},(none:Ot CS)=some c->P:=fun z=>nomatch z
 cases tg with
 |Name x p=>
  unfold ZhO at h;cases hr:XR G sc it with
  |some as=>
   rw[hr]at h;exact Zge ihA ihS K hk hr h
  |none=>
   rw[hr]at h;exact Zgc ihE ihS K hk h
 |Tuple es ctx tp=>cases es with
  |nil=>exact no h
  |cons a es=>cases a with
   |Name x p=>cases es with
    |nil=>exact no h
    |cons b2 es=>cases b2 with
     |Name y p2=>cases es with
      |nil=>
       replace h:((o2 (fun i j=>og (i≠j) (some (i,j))) (N.idxOf? x) (N.idxOf? y)).join.bind fun p=>(match Wy G sc it with
        |some as=>o2 (CS.forP p.1 p.2) (cEs G n sc N as) (cSs G n sc N b)
        |none=>match Wi G sc it with
         |some e=>o2 (CS.forE p.1 p.2) (cE G n sc N e) (cSs G n sc N b)
         |none=>o2 (CS.for2 p.1 p.2) (cE G n sc N it) (cSs G n sc N b)))=some c:=h
       refine b_e h fun q hq h=>j_e hq fun hq=>ZQ (P:=fun o=>o=some q->PS X _ (tS X.K (ex F c))) hq (fun i j hi hj e=>ZY e fun _ e=>?_) rfl
       cases e;cases hz:Wy G sc it with
       |some as=>
        rw[hz]at h;exact Zgi ihA ihS K hk hi hj hz h
       |none=>
        rw[hz]at h;dsimp only at h;cases he:Wi G sc it with
        |some e=>
         rw[he]at h;exact Zgh ihE ihS K hk hi hj he h
        |none=>
         rw[he]at h;exact Zgd ihE ihS K hk hi hj h
      |cons c2 es=>cases c2 with
       |Name _ _=>cases es with
        |nil=>exact Zgf ihE ihS K hk h
        |cons _ _=>exact no h
       |_=>exact no h
     |_=>exact no h
   |_=>exact no h
 |_=>exact no h
theorem Zf9(ihE:Zp G F n)(K:CxtS X G F sc N){c:CS}{k:Str}{p:Pos}(h:og (m = "append"/\(ap.endLine==cp.line)=true) (o2 CS.app2 (cE G n sc N (.Attribute o k p)) (cE G n sc N e))=some c):PS X (.Expr (.Call (.Attribute (.Attribute o k p) m ap) [e] [] cp) pos) (tS X.K (ex F c)):=by
 refine ZY h fun hc h'=>?_
 obtain⟨e1,hl⟩:=hc;subst e1;exact ZQ (P:=fun c=>PS X _ (tS X.K (ex F c))) h' fun z y hz hx=>ZF (ps_expr (pe_bm PySem.F.plainAttrs_list PySem.F.slot_list_append PySem.F.type_list_append mt_append (ihE X sc N K.toCxt _ z hz).pe (pa1 (Zh hx) (ihE X sc N K.toCxt _ y hx).pe) rfl (by rw[Zc (Zh hx)];rfl) hl (Zc (Zh hx)) rfl) rfl) ZcP
theorem Zf8(ihE:Zp G F n)(ihA:Z7 G F n)(K:CxtS X G F sc N){c:CS}{v:Expr}(h:Zja G sc N (cE G n sc N) (cEs G n sc N) v=some c):PS X (.Expr v pos) (tS X.K (ex F c)):=by
 have no:∀ {P:Prop},(none:Ot CS)=some c->P:=fun z=>nomatch z
 cases v with
 |Call f as kw cp=>cases f with
  |Attribute o m ap=>cases o with
   |Name x p=>
    replace h:(if m = "append" then (match (generalizing:=false) as,kw with
     |[e],[]=>Zho sc N x m ap cp (cE G n sc N e)
     |_,_=>none) else og (kw.isEmpty=true/\(ap.endLine==cp.line)=true/\as.length < 20) (o2 (fun o c=>CS.act (.meth (YL m as.length G) o c)) (cE G n sc N (.Name x p)) (cEs G n sc N as)))=some c:=h
    split at h
    ·split at h
     ·exact ZiL ihE K h
     ·exact no h
    ·refine ZY h fun hc h=>ZQ (P:=fun c=>PS X _ (tS X.K (ex F c))) h fun o cs ho hcs=>?_
     cases kw with
     |cons _ _=>cases hc.1
     |nil=>exact ZF (ps_expr (QV (pass_x K.xs) K.toCxt hc.2.1 hc.2.2 (ihE X sc N K.toCxt _ o ho).pe (ihA X sc N K.toCxt as cs hcs)) rfl) Zas
   |Attribute o k p=>cases as with
    |nil=>exact no h
    |cons e es=>cases es with
     |nil=>cases kw with
      |nil=>exact Zf9 ihE K h
      |cons _ _=>exact no h
     |cons _ _=>exact no h
   |_=>exact no h
  |Name f fp=>cases kw with
   |nil=>exact ZiK ihA K h
   |cons _ _=>exact no h
  |_=>exact no h
 |_=>exact no h
omit xk
theorem QZ(ihE:Zp G F n)(ihA:Z7 G F n)(ihS:ZZ G F n)(hA:X4 G F n):Jc G F (n+1):=by
 intro xk X sc N K s c h;have no:∀ {P:Prop},(none:Ot CS)=some c->P:=fun z=>nomatch z
 cases s with
 |Assign tgs e pos=>cases tgs with
  |nil=>exact no h
  |cons t ts=>cases ts with
   |cons _ _=>cases t with
    |Attribute o k p=>cases o<;>exact no h
    |_=>exact no h
   |nil=>cases t with
    |Subscript o k p=>exact Zgb ihE K h
    |Attribute o k p=>cases o with
     |Name x q=>exact Zgj ihE K h
     |_=>exact no h
    |_=>exact Zga ihE hA K h
 |Try b hs oe fb pos=>cases hs with
  |nil=>exact no h
  |cons h0 hs=>cases oe with
   |cons _ _=>exact no h
   |nil=>cases fb with
    |cons _ _=>exact no h
    |nil=>exact Zgn ihE ihA hA K h
 |Return e pos=>cases e with
  |none=>exact no h
  |some e=>exact ZiM ihE K h
 |If e a b pos=>exact Zkd ihE ihS K h
 |For t it b oe pos=>cases oe with
  |cons _ _=>exact no h
  |nil=>exact ZY h fun hl h=>Zgg ihE ihA ihS K (K.calm hl) h
 |Expr v pos=>exact Zf8 ihE ihA K h
 |Pass pos=>
  cases (show some CS.skip=some c from h)
  exact ZF ps_pass QA
 |Break pos=>
  cases (show some CS.brk=some c from h)
  exact ZF ps_break Ze9
 |Raise a b pos=>exact Zd4 ihE K h
 |Continue pos=>
  cases (show some CS.cont=some c from h)
  exact ZF ps_continue ZcQ
 |_=>exact no h
theorem U4(ihS:Jc G F n)(ihSs:ZZ G F n):ZZ G F (n+1):=by
 intro xk X sc N K s c h;cases s with
 |nil=>
  simp only[cSs]at h;cases h;exact ZaN pss_nil QA
 |cons s r=>
  exact ZQ (P:=fun c=>PSs X _ (tS X.K (ex F c))) (show o2 CS.seq (cS G n sc N s) (cSs G n sc N r)=some c from h) fun a b ha hb=>ZaN (pss_cons (ihS X sc N K s a ha) (ihSs X sc N K r b hb)) Zfk
end
variable [ClsTab]
def Y7(G:Gs)(F:Nat->Fn):Prop:=∀ n,Zp G F n->(∀ X sc N,Cxt X G F sc N->∀ elt gens sc2 pos c,cE G (n+1) sc N (.ListComp elt gens sc2 pos)=some c->SE X F (.ListComp elt gens sc2 pos) c)/\X4 G F (n+1)
theorem Us{G:Gs}{F:Nat->Fn}(hc:Y7 G F):∀ n,(Zp G F n/\Z7 G F n/\UA G F n)/\Jc G F n/\ZZ G F n/\X4 G F n
 |0=>⟨⟨fun X sc N K e c h=>(nomatch (show(none:Ot CE)=some c from h)),fun X sc N K e c h=>(nomatch (show(none:Ot CE)=some c from h)),fun X sc N K e c h=>(nomatch (show(none:Ot CE)=some c from h))⟩,fun X sc N K e c h=>(nomatch (show(none:Ot CS)=some c from h)),fun X sc N K e c h=>(nomatch (show(none:Ot CS)=some c from h)),fun X sc N K x i p elt gens sc2 epos pos c _ h=>(nomatch (show(none:Ot CE)=some c from h))⟩
 |n+1=>by
  obtain⟨⟨hE,hA,hO⟩,hS,hSs,hCA⟩:=Us hc n;exact⟨⟨JU hE hA hO (hc n hE).1,QX hE hA,QY hE⟩,QZ hE hA hSs hCA,U4 hS hSs,(hc n hE).2⟩
def ZbZ(K:Fg)(G:Gs)(T:Nat->Ot FD)(x y:Str)(i:Nat)(f:Ad)(fd:FuncData)(pn N:Li Str):Prop:=∃ (st:Stmt) (oc:vL) (od:Ot Ad) (dV kV doc pm:vL) (an:Ot Ad) (cdv ct:vL) (osl:Array (Ot vL)) (code:CS),
  fd=PySem.W.fnOf x y (defArgs st) (defBody st) (defScope st) dV kV doc pm an cdv ct/\K.lookup f=some ⟨oc,od,.func fd,osl⟩/\PySem.W.codeIn K cdv y=true/\FnScope N pn (defScope st)/\(∀ y∈N,Loc (defScope st) y) /\
  cSs G 60 (defScope st) N (defBody st)=some code/\T i=some ⟨pn.length,N.length,code⟩
structure DefOk(K:Fg)(mg:Str->Option Value)(G:Gs)(T:Nat->Option FD)(x:Str)(i:Nat)(ds:List D)(f:Addr)(fd:FuncData)(pn N:List Str):Prop where
 ob:ZbZ K G T x x i f fd pn N
 kp:PySem.W.keepIn K (.ref f)=true
 at_:mg x=some (.ref f)
 bn:∀ m,m<=ds.length->∃ dvs us,(∀ ad H,Dens K ad H dvs (ds.drop m))/\Vals dvs us/\Binds K fd pn us
def J7(K:Fg)(mg:Str->Ot vL)(x:Str)(i:Nat)(l:Li Nat):Prop:=mg x=some (.ref (ClsTab.ca i))/\(∀ c∈exNums,PySem.W.kitOne K (.ref (ClsTab.ca c)) (.ref (ClsTab.ca i))=some (l.contains c))/\(∀ c∈l,PySem.W.exmOne K (.ref (ClsTab.ca c)) (.ref (ClsTab.ca i))=some true/\XG K (ClsTab.ca c)) /\
 (i∈exNums->∃ (fI:Ad) (fd:FuncData) (pn:Li Str),XCls K (ClsTab.ca i) fI "line"/\(∀ P w base,FnOk P w K mg base CX0 1 fI fd pn (spI (ClsTab.ca i) "line"))/\Binds K fd pn [])
structure MethOk(K:Fg)(G:Gs)(T:Nat->Option FD)(C:Addr)(x y:Str)(i:Nat)(f:Addr)(fd:FuncData)(pn N:List Str):Prop where
 ob:ZbZ K G T x y i f fd pn N
 mt:Meth K C x f
 bn:Binds K fd pn []
structure Text(Pm:Params)(K:Fg)(mg:Str->Option Value)(G:Gs)(T:Nat->Option FD):Prop where
 cst:∀ x d,G.lookup x=some (.cst d)->∃ v u,mg x=some u/\RelV v u/\∀ ad H,Den K ad H v d
 blt:∀ x,G.lookup x=some .blt->mg x=none
 dct:∀ x ks ds,G.lookup x=some (.dct ks ds)->J6 Pm K mg x ks ds
 fn:∀ x i ps ds,G.lookup x=some (.fn i ps ds)->∃ f fd pn N,DefOk K mg G T x i ds f fd pn N
 exc:∀ x i l,G.lookup x=some (.exc i l)->J7 K mg x i l
 fnq:∀ x i,G.lookup x=some (.fnq i)->∃ f fd pn N,DefOk K mg (Yb G) T x i [] f fd pn N
 cls:∀ x i ms subs,G.lookup x=some (.cls i ms subs)->(mg x=some (.ref (ClsTab.ca i))/\NewOk K (ClsTab.ca i)) /\
  ∀ m j ps,ms.lookup m=some (j,ps)->∃ y f fd pn N,MethOk K G T (ClsTab.ca i) m y j f fd pn N
variable{F:Nat->Fn}{fd:FuncData}{pn:Li Str}
section
variable {P:Program}{w:World}{K:Fg}{mg:Str->Ot vL}{base:Heap}{G:Gs}{T:Nat->Ot FD}
theorem Zel{x:Str}(h:Xz sc x=true):Vis sc x:=by
 unfold Xz at h;rw[Ba]at h;have h:=h.2;split at h
 ·rename_i q;exact .inl q
 ·rename_i q;exact .inr (.inl q)
 ·rename_i q;exact .inr (.inr q)
 ·cases h
theorem Zaq{x:Str}(h:Zq sc x=true):sc.names.lookup x=some .globalImplicit:=by
 unfold Zq at h;rw[Ba]at h;have h:=h.2;split at h
 ·rename_i q;exact q
 ·cases h
theorem Zaf{x:Str}(h:Vy sc x=true):sc.names.lookup x=some .cell\/sc.names.lookup x=some .free:=by
 unfold Vy at h;split at h
 ·rename_i q;exact .inl q
 ·rename_i q;exact .inr q
 ·cases h
theorem Zbn(h:Dens K ad H vs ds)(hl:ds.length<=N.length):EnvOk K ad H (L2.start N vs) (ds.map some++List.replicate (N.length - ds.length) none):=by
 have e:=h.length;refine⟨by unfold L2.start;simp[e],fun i d q=>?_⟩
 by_cases hi:i < ds.length
 ·rw[bF (by simpa using hi),aX,Lg hi]at q
  have q':ds[i]=d:=by simpa using q
  have g:ds[i]?=some d:=by rw[Lg hi,q']
  obtain⟨v,e1,e2⟩:=h.get g;refine⟨v,?_,e2⟩;unfold L2.start;rw[bF (by simpa[e] using hi),aX,e1]
  rfl
 ·rw[aY (by simpa using hi),dP]at q
  split at q<;>cases q
theorem ZcH{k:Nat}(hk:3<=k\/ZX G=false)(hc:Y7 G F)(gl:∀ A,Room k A->∀ y g,G.lookup y=some g->GOk P w K mg base A F y g){x y:Str}{f:Ad}{g:Fn}(hg:∀ c,T i=some c->g=fnD F c)(ob:ZbZ K G T x y i f fd pn N):FnOk P w K mg base (CX1 P w) (k+1) f fd pn (spD K g):=by
 obtain⟨st,oc,od,dV,kV,doc,pm,an,cdv,ct,osl,code,rfl,lk,hcd,S,hloc,hcode,hT⟩:=ob;have hrun:g=fnD F ⟨pn.length,N.length,code⟩:=hg _ hT;refine fn_of (k:=k) lk hcd S (fun vs H Q E h=>?_) (fun A outer s H vs Q E hr h=>?_)
 ·obtain⟨ad,es,st,d,st',_,hd,e,_⟩:=h
  rw[hrun]at e;unfold fnD at e;split at e
  ·rename_i hl
   rw[hd.length];exact hl
  ·exact Zb e
 ·obtain⟨ad,es,s0,d,st',S0,hd,e,p⟩:=h
  rw[hrun]at e;unfold fnD at e;split at e
  ·rename_i hl
   have lo:ZX G=true->3<=k:=fun z=>hk.elim id fun w=>by rw[z]at w;cases w
   have C:CxtS (xk:=⟨E⟩) (cxOf (CX1 P w) P w K mg base N y (defScope st) f cdv A outer s H E) G F (defScope st) N:=CxtS.mk (xk:=⟨E⟩) {
    hN:=rfl
    vis:=fun y hy=>Zel hy
    glb:=fun y hy=>Zaq hy
    calm:=fun z=>Option.isNone_iff_eq_none.mpr (hr.hd (lo z))
    hu:=hr.units
    gl:=gl _ hr
    cel:=fun y hy=>Zaf hy } S.nd hloc (fun _=>rfl) PassesOwn.leaving (fun _ _ _ _ z=>xs_leave z) (fun z=>hr.mono (by have:=lo z;omega)) ⟨rfl,rfl⟩ (fun _ z=>z)
   have B:PSs (cxOf (CX1 P w) P w K mg base N y (defScope st) f cdv A outer s H E) (defBody st) (tS (xk:=⟨E⟩) K (ex F code)):=by
    letI:XcK:=⟨E⟩
    exact(Us hc 60).2.2.1 _ _ _ C _ _ hcode
   have hpl:pn.length<=N.length:=by have:=congrArg List.length S.pre;rw[cG]at this;omega
   have E0':=Zbn (N:=N) hd (by rw[show es.length=pn.length from hl];exact hpl)
   refine⟨_,B,?_⟩;split at e
   ·rename_i d' st1 q
    cases e;exact Y6 (xk:=⟨E⟩) E0' S0 q p
   ·rename_i ρ st1 q
    cases e;exact Y6 (xk:=⟨E⟩) E0' S0 q fun σ1 ad1 H1 x1 S1 E1=>(p.1.later x1).at S1 .non
   ·exact Zb e
  ·exact Zb e
theorem Zdw{k:Nat}{f:Ad}:FnOk P w K mg base (CX1 P w) k f fd pn (spD K (run T 0 i)):=by
 refine⟨fun vs H Q E h=>?_,fun A outer s H args us vs Q E _ _ _ _ h=>?_⟩
 ·obtain⟨_,_,_,_,_,_,_,e,_⟩:=h;cases e
 ·obtain⟨_,_,_,_,_,_,_,e,_⟩:=h;cases e
theorem ZdX(c:FD)(h:T i=some c):run T (n+1) i=fnD (run T n) c:=by
 show(match T i with|some f=>fnD (run T n) f|none=>fun _ _=>none)=_
 rw[h]
theorem ZdV{x:Str}{g:GV}(h:(Yb G).lookup x=some g):G.lookup x=some g/\(g=.blt\/∃ i l,g=.exc i l):=by
 obtain⟨y,_,hy⟩:=dN.mp (mem_of_lookup h);split at hy
 ·rename_i q;cases hy;exact⟨q,.inl rfl⟩
 ·rename_i q;cases hy;exact⟨q,.inr ⟨_,_,rfl⟩⟩
 ·exact Zb hy
theorem ZcC{x:Str}(h:J7 K mg x i l):GOk P w K mg base A F x (.exc i l):=⟨h.1,h.2.1,h.2.2.1,fun hi=>let ⟨fI,fd,pn,a,b,c⟩:=h.2.2.2 hi;⟨fI,fd,pn,a,b P w base,c⟩⟩
variable (hc:∀ n,Y7 G (run T n)) (hq:∀ n,Y7 (Yb G) (run T n)) (hl:ZX (Yb G)=false)
include hc hq hl
theorem Zb5(X:Text w.params K mg G T):∀ (n:Nat) {x y:Str}{i:Nat}{f:Ad}{fd:FuncData}{pn N:Li Str},ZbZ K G T x y i f fd pn N->FnOk P w K mg base (CX1 P w) (2 * n+2) f fd pn (spD K (run T n i))
 |0,_,_,_,_,_,_,_,_=>Zdw
 |n+1,_,_,_,_,_,_,_,ob=>ZcH (k:=2 * n+3) (.inl (by omega)) (hc n) (fun A hr y g hg=>by
  have ih:=fun {x y:Str}{i:Nat}{f:Ad}{fd:FuncData}{pn N:Li Str} (ob:ZbZ K G T x y i f fd pn N)=>Zb5 X n ob
  cases g with
  |cst d=>exact X.cst y d hg
  |blt=>exact X.blt y hg
  |dct ks ds=>exact X.dct y ks ds hg
  |exc i l=>exact ZcC (X.exc y i l hg)
  |fnq i=>
   obtain⟨f,fd,pn,N,Dk⟩:=X.fnq y i hg;obtain⟨dvs,us,h1,h2,h3⟩:=Dk.bn 0 (bT _);refine⟨f,fd,pn,?_,hr.mono (by omega),Dk.at_,Dk.kp,?_⟩
   ·cases n with
    |zero=>exact Zdw
    |succ n=>exact ZcH (k:=0) (.inr hl) (hq n) (fun A hr y g hg=>by
      obtain⟨h1,rfl|⟨i,l,rfl⟩⟩:=ZdV hg
      ·exact X.blt y h1
      ·exact ZcC (X.exc y i l h1)) (fun c h=>ZdX c h) Dk.ob
   ·have e:dvs=[]:=by
     have:=(h1 [] (fun _=>none)).length
     simpa using this
    subst e;cases h2;exact h3
  |fn j qs es=>
   obtain⟨f,fd,pn,N,Dk⟩:=X.fn y j qs es hg;exact⟨2 * n+2,f,fd,pn,ih Dk.ob,hr.mono (by omega),Dk.at_,Dk.kp,Dk.bn⟩
  |cls i ms subs=>
   obtain⟨⟨h1,h2⟩,h4⟩:=X.cls y i ms subs hg;refine⟨h1,h2,fun m j ps hm=>?_⟩
   obtain⟨z,f,fd,pn,N,Mk⟩:=h4 m j ps hm;exact⟨2 * n+2,f,fd,pn,ih Mk.ob,hr,Mk.mt,Mk.bn⟩) (fun c h=>ZdX c h) ob
end
variable [ClsTab]
section
variable {ad:Li Ad}{H:Hp}{p:Ad}{xs ys:Li V}
theorem JE(hp:H p=some (.lst xs)){a:Ad}:Yg H a↔Yg (upd H p (.lst ys)) a:=J2 (UU hp rfl) rfl
theorem Jw{K:Fg}(hp:H p=some (.lst xs)):Keeps K ad ad H (upd H p (.lst ys)):=⟨fun h=>h.upd hp (by intro xs z;cases z),fun h=>⟨h,JE hp⟩,fun m h=>by rw[upd_ne (ne_of h hp (by intro z;rw[z]at m;cases m))];exact h⟩
theorem Den.wr{K:Fg}(hp:H p=some (.lst xs)){v:V}(h:Den K ad H v d):Den K ad (upd H p (.lst ys)) v d:=h.map (Jw hp)
theorem Dens.wr{K:Fg}(hp:H p=some (.lst xs))(h:Dens K ad H vs ds):Dens K ad (upd H p (.lst ys)) vs ds:=h.map (Jw hp)
theorem EnvOk.wr{K:Fg}(hp:H p=some (.lst xs))(h:EnvOk K ad H σ ρ):EnvOk K ad (upd H p (.lst ys)) σ ρ:=⟨h.len,fun i d e=>let ⟨v,e1,e2⟩:=h.at_ i d e;⟨v,e1,e2.wr hp⟩⟩
theorem StOk.wr{K:Fg}(S:StOk K ad H st)(hp:H p=some (.lst xs))(hn:p∉ad):StOk K ad (upd H p (.lst ys)) st:=
 S.wrG (Jw hp) hn
theorem Ext.wr{ad0:Li Ad}{H0:Hp}(x:Ext ad0 H0 ad H)(hp:H p=some (.lst xs))(h0:H0 p=none):Ext ad0 H0 ad (upd H p (.lst ys)):=by
 refine⟨x.pre,fun b u m h=>?_,fun b o h n=>?_,x.new,fun i a h=>(x.kd i a h).trans (JE hp)⟩
 ·rw[upd_ne (ne_of_none h h0)];exact x.tup b u m h
 ·rw[upd_ne (ne_of_none h h0)];exact x.keep b o h n
end
theorem VB{c:Str->NameKind->Bool}:∀ {l:Li (Str×NameKind)}{y:Str},(l.map fun(n,k)=>if c n k=true then (n,NameKind.cell) else (n,k)).lookup y=(l.lookup y).map fun k=>if c y k=true then NameKind.cell else k
 |[],_=>rfl
 | (n,k) :: r,y=>by
  have ih:=@VB c r y;rw[aP];have e:(if c n k=true then (n,NameKind.cell) else (n,k))=(n,if c n k=true then NameKind.cell else k):=by split<;>rfl
  show List.lookup y ((if c n k=true then (n,NameKind.cell) else (n,k)) :: _)=_
  rw[e,bB,bB];cases q:y==n with
  |true=>rw[beq_iff_eq.mp q];rfl
  |false=>exact ih
theorem YB{env:PySem.Env}{y:Str}:(relabel sc env).names.lookup y=(sc.names.lookup y).map fun k=>if (k==NameKind.free&&env.scope.kind==.function&&env.kindOf y==some .cell)=true then NameKind.cell else k:=
 VB (c:=fun n k=>k==NameKind.free&&env.scope.kind==.function&&env.kindOf n==some .cell)
theorem YU{y:Str}{k:NameKind}(h:sc.names.lookup y=some k)(hk:k≠.free):(relabel sc env).names.lookup y=some k:=by
 rw[YB,h];have:(k==NameKind.free)=false:=by simpa using hk
 show some (if (k==NameKind.free&&_&&_)=true then NameKind.cell else k)=some k
 rw[this,Bool.false_and,Bool.false_and,if_neg Bf]
theorem Xf{y:Str}(h:sc.names.lookup y=some .free):(relabel sc env).names.lookup y=some .cell\/(relabel sc env).names.lookup y=some .free:=by
 rw[YB,h];show(some (if _ then NameKind.cell else NameKind.free))=_\/(some (if _ then NameKind.cell else NameKind.free))=_
 split
 ·exact .inl rfl
 ·exact .inr rfl
theorem U0{sc:Scope}{y:Str}(hc:∀ p∈sc.names,p.2≠.cell)(h:(relabel sc env).names.lookup y=some .cell\/(relabel sc env).names.lookup y=some .free):sc.names.lookup y=some .free:=by
 rw[YB]at h;cases q:sc.names.lookup y with
 |none=>rw[q]at h;rcases h with h|h<;>cases h
 |some k=>
  rw[q]at h;cases k with
  |free=>rfl
  |cell=>
   have:∀ {l:Li (Str×NameKind)},l.lookup y=some .cell->∃ p∈l,p.2=.cell:=fun {l} e=>by
    induction l with
    |nil=>exact Zb e
    |cons a l ih=>
     obtain⟨n,k⟩:=a;rw[bB]at e;split at e
     ·cases e;exact⟨_,Ls,rfl⟩
     ·obtain⟨p,hp,e'⟩:=ih e;exact⟨p,Lm _ hp,e'⟩
   obtain⟨p,hp,e⟩:=this q;exact absurd e (hc p hp)
  |_=>rcases h with h|h<;>simp at h
theorem X5{env:PySem.Env}:∀ (l:Li (Str×NameKind)) (acc:Li (Str×Ad)),(∀ p∈l,p.2=.free->∃ c,env.cells.lookup p.1=some c)->
  ∃ cl,(forIn l acc fun(x:Str×NameKind) (r:Li (Str×Ad))=>(do
   if (x.2==NameKind.free)=true then
    let a <-cellOf env x.1
    pure (ForInStep.yield ((x.1,a) :: r))
   else pure (ForInStep.yield r):Sem (ForInStep (Li (Str×Ad)))))=pure cl /\
   (∀ y c,cl.lookup y=some c->acc.lookup y=some c\/((y,NameKind.free)∈l/\env.cells.lookup y=some c))/\(∀ y,(y,NameKind.free)∈l\/(acc.lookup y).isSome->(cl.lookup y).isSome)
 |[],acc,_=>⟨acc,by simp only[List.forIn_nil],fun y c h=>.inl h,fun y h=>by simpa using h⟩
 | (n,k) :: l,acc,h=>by
  by_cases hk:k=.free
  ·subst hk
   obtain⟨c0,hc0⟩:=h (n,.free) Ls rfl;obtain⟨cl,e,h1,h2⟩:=X5 (env:=env) l ((n,c0) :: acc) fun p hp=>h p (Lm _ hp)
   refine⟨cl,?_,fun y c q=>?_,fun y q=>?_⟩
   ·rw[dY]
    simp only[beq_self_eq_true,if_true];have:cellOf env n=pure c0:=by unfold cellOf;rw[hc0]
    simp only[this,pure_bind];exact e
   ·rcases h1 y c q with z|⟨z1,z2⟩
    ·rw[bB]at z
     split at z
     ·rename_i hy
      cases z;rw[beq_iff_eq.mp hy];exact .inr ⟨Ls,hc0⟩
     ·exact .inl z
    ·exact .inr ⟨Lm _ z1,z2⟩
   ·refine h2 y ?_
    rcases q with q|q
    ·rcases aM.mp q with z|z
     ·cases z
      exact .inr (by rw[bB];simp)
     ·exact .inl z
    ·refine .inr ?_
     rw[bB];split
     ·rfl
     ·exact q
  ·obtain⟨cl,e,h1,h2⟩:=X5 (env:=env) l acc fun p hp=>h p (Lm _ hp)
   refine⟨cl,?_,fun y c q=>?_,fun y q=>?_⟩
   ·rw[dY]
    have:(k==NameKind.free)=false:=by simpa using hk
    simp only[this,Bool.false_eq_true,if_false,pure_bind];exact e
   ·rcases h1 y c q with z|⟨z1,z2⟩
    ·exact .inl z
    ·exact .inr ⟨Lm _ z1,z2⟩
   ·refine h2 y ?_
    rcases q with q|q
    ·rcases aM.mp q with z|z
     ·cases z;exact absurd rfl hk
     ·exact .inl z
    ·exact .inr q
theorem Ql{sc:Scope}(h:∀ p∈sc.names,p.2=.free->∃ c,env.cells.lookup p.1=some c):∃ cl,closureFor sc env=pure cl/\(∀ y c,cl.lookup y=some c->env.cells.lookup y=some c)/\∀ y,(y,NameKind.free)∈sc.names->(cl.lookup y).isSome:=by
 obtain⟨cl,e,h1,h2⟩:=X5 (env:=env) sc.names [] h;refine⟨cl,?_,fun y c q=>?_,fun y q=>h2 y (.inl q)⟩
 ·unfold closureFor
  rw[show(fun(x:Str×NameKind) (r:Li (Str×Ad))=>_)=_ from rfl]at e
  first|exact(by simp only[e,pure_bind]) | (simp only[bind_pure]at *;exact e)|exact e
 ·rcases h1 y c q with z|⟨_,z⟩
  ·exact Zb z
  ·exact z
variable [ClsTab]
variable{R:Result->Sd->Prop}{iter:Expr}{ifs:Li Expr}
theorem Qm{s:Sd}{target:Expr}{scope:Scope}{it acc:vL}(I:Nat->Sd->Prop)(turn:∀ n s,I n s->wpAny (model prog w) A (pyNext it) (fun r s₁=>match r with
   |none=>R (.ok .next) s₁
   |some v=>wpAny (model prog w) A (letOwnedTupleGo target it v) (fun _ s₁'=>wpAny (model prog w) A (assign target env v) (fun _ s₂=>
     wpAny (model prog w) A (forIn ifs true fun c r=>if r=true then do let ok <-isTrue c env (eval c env);pure (ForInStep.yield ok) else pure (ForInStep.yield r)) (fun ok s₃=>
      if ok=true then wpAny (model prog w) A (eval elt env) (fun x s₄=>
       wpAny (model prog w) A (call (.builtin "list.append") [acc,x]) (fun _ s₅=>∃ m,m < n/\I m s₅) (notedBy (model prog w) A env fun e s'=>R (.error e) s') s₄) (notedBy (model prog w) A env fun e s'=>R (.error e) s') s₃
      else ∃ m,m < n/\I m s₃) (notedBy (model prog w) A env fun e s'=>R (.error e) s') s₂) (notedBy (model prog w) A env fun e s'=>R (.error e) s') s₁') (notedBy (model prog w) A env fun e s'=>R (.error e) s') s₁) (notedBy (model prog w) A env fun e s'=>R (.error e) s') s)(n:Nat)(h:I n s):codeAny (model prog w) A (.compLoop (.ListComp elt [⟨target,iter,ifs,0⟩] scope pos) 0 it acc env) R s:=by
 refine codeAny_loop rfl I (fun n s hI=>?_) n h
 show wpAny _ A ((compTurn (.ListComp elt [⟨target,iter,ifs,0⟩] scope pos) 0 it acc env).onRaise (fun x=>do noteFrame x env;theTreesLotGoes x)) _ _ s
 refine wpAny_noted ?_;rw[compTurn_list];refine aA (wpAny_standAt (aA (aU (turn n s hI) (fun r s₁ h₁=>?_) fun _ _ h'=>h')))
 cases r with
 |none=>exact aB h₁
 |some v=>
  refine aA (aU h₁ (fun _ s₁' h₁=>?_) fun _ _ h'=>h')
  refine aA (aU h₁ (fun _ s₂ h₂=>aA (aU h₂ (fun ok s₃ h₃=>?_) fun _ _ h'=>h')) fun _ _ h'=>h')
  cases ok with
  |false=>exact aB ⟨rfl,h₃⟩
  |true=>
   exact aA (aA (aU h₃ (fun x s₄ h₄=>aA (aU h₄ (fun _ s₅ h₅=>aB (aB ⟨rfl,h₅⟩)) fun _ _ h'=>h')) fun _ _ h'=>h'))
noncomputable def cxC(X:Cx)(N:Li Str)(env:PySem.Env)(s3:Sd)(H3:Hp)(fp:Li Ad)(pQ:Li (Ad×Obj)):Cx:=
 { X with N:=N,s₀:=s3,H₀:=H3,env:=env,outer:=X.stack,ex:=fp,fn:=fun _=>false,pn:=X.pn++pQ,xe:=fun _ _=>False }
variable{m0:Str->Ot vL}{σ':L2.St}
section
variable {X:Cx}{pQ:Li (Ad×Obj)}{σ:L2.St}{H H3:Hp}{s3:Sd}{sc2:Scope}{cl:Li (Str×Ad)}{fp:Li Ad}{N:Li Str}
theorem Zdb(I3:L2.Inv X pQ σ H3 s3){h4:Heap}(hk:sc2.kind=.function)(hcell:∀ p∈sc2.names,p.2≠.cell)(hns:h4.Ns s3.heap.objs.size m0)(up:∀ b u,s3.heap.get? b=some u->h4.get? b=some u)(c1:∀ y c,cl.lookup y=some c->X.env.cells.lookup y=some c)(c2:∀ y,sc2.names.lookup y=some .free->(cl.lookup y).isSome)(f3:∀ b∈fp,FpOk X pQ H3 b)(fb:∀ b∈fp,b < s3.heap.objs.size)(hσ:∀ (i:Nat) (y:Str) (v:V),N[i]?=some y->σ'[i]?=some (some v)->∃ j:Nat,X.N[j]?=some y/\σ[j]?=some (some v)/\sc2.names.lookup y=some .free/\(X.env.scope.names.lookup y=some .cell\/X.env.scope.names.lookup y=some .free))(hl:σ'.length=N.length) :
  L2.Inv (cxC X N (compEnvC sc2 cl s3.heap.objs.size X.env) s3 H3 fp pQ) [] σ' H3 { s3 with heap:=h4,toks:=tk } where
 ok:={
  mod:=I3.ok.mod
  kind:=hk
  glob:=I3.ok.glob
  blt:=I3.ok.blt
  above:=aD _
  inj:=fun x y c e e'=>I3.ok.inj x y c (c1 _ _ e) (c1 _ _ e')
  has:=fun x h=>by
   have e:=U0 (env:=X.env) hcell h;have:=c2 x e;cases q:cl.lookup x with
   |none=>rw[q]at this;cases this
   |some c=>exact⟨c,q⟩
  cab:=fun x c h=>nomatch h
  hd:=I3.ok.hd
  frames:=I3.ok.frames
  stk:=.inl rfl
  exf:=fun b hb=>⟨aQ (fb b hb),fun x c e=>(f3 b hb).2.2.2.2.1 x c (c1 _ _ e)⟩
  bs:=I3.bs
  bsz:=aG I3.ok.bsz I3.sz
  noex:=fun b o e hb=>by
   rcases (f3 b hb).2.2.2.1 with z|z
   ·exact I3.ok.noex b o e z
   ·exact absurd (aJ (aE e) (aG I3.ok.bsz z)) (bD _)
  exfs:=fun b hb hs=>by
   rcases aM.mp (I3.stkSub b hs) with z|z
   ·exact(f3 b hb).2.1 z
   ·exact(f3 b hb).2.2.1 z
  funs:=I3.stack
  frf:=I3.stkFree }
 os:=rfl
 bare:=I3.bare
 base:=Un.kept up
 loc:=⟨m0,hns,fun i y v e1 e2 e3=>by
  obtain⟨j,g1,g2,g3,g4⟩:=hσ i y v e1 e2;obtain⟨m,hn,hl'⟩:=I3.loc;obtain⟨u,r,l⟩:=hl' j y v g1 g2 (.inr g4);refine⟨u,r,.inr ⟨Xf g3,?_⟩⟩;rcases l with⟨z,_⟩|⟨_,c,e,z⟩
  ·have z':X.env.scope.names.lookup y=some .local:=z
   rcases g4 with w|w<;>(rw[z']at w;cases w)
  ·have q:=c2 y g3
   cases q':cl.lookup y with
   |none=>rw[q']at q;cases q
   |some c'=>
    have:=c1 _ _ q';rw[e]at this;cases this
    obtain⟨o,ho,hd⟩:=z;exact⟨c,q',o,up c o ho,hd⟩⟩
 cell:=fun y c e=>by
  obtain⟨v,o,ho,hd⟩:=I3.cell y c (c1 _ _ e);exact⟨v,o,up c o ho,hd⟩
 free:=I3.hok.fresh (aD _)
 freeC:=fun y c e=>I3.freeC y c (c1 _ _ e)
 pin:=fun p hp=>by
  have hp':p∈X.pn++pQ:=by simpa[cxC] using hp
  obtain⟨e,n,ne,nf,d⟩:=I3.pin p hp';refine⟨up _ _ e,n,aQ (aE e),fun hs=>?_,d⟩
  rcases aM.mp (I3.stkSub _ hs) with z|z
  ·exact ne z
  ·exact nf z
 hok:=I3.hok.kept up
 len:=hl
theorem Zda(I3:L2.Inv X pQ σ H3 s3){pins':Li (Ad×Obj)}{H':Hp}{s':Sd}(hC:env.locals=s3.heap.objs.size)(I':L2.Inv (cxC X N env s3 H3 fp pQ) pins' σ' H' s')(sb:Heap.SameBut s3.heap.objs.size s'.heap h')(f3:∀ b∈fp,FpOk X pQ H3 b):L2.Inv X pQ σ H' { s' with heap:=h' }:=by
 have u:Un (frs X.stack) fp H3 H' s3.heap s'.heap:=I'.base;have ne:∀ b o,s3.heap.get? b=some o->b≠s3.heap.objs.size:=fun b o e=>aQ (aE e)
 have fr:H' s3.heap.objs.size=none:=by have:=I'.free;rw[show(cxC X N env s3 H3 fp pQ).env.locals=s3.heap.objs.size from hC]at this;exact this
 refine I3.call' (s':={ s' with heap:=h' }) (ch:=fp) I'.os ⟨fun b o e n hb hx=>?_,fun b o e n hb hx=>?_,u.free,fun b o e hx=>?_,u.tups,u.frzs,u.tbls⟩ (fun b ob e=>?_) I'.bare (fun b hb=>?_)
 ·exact(sb.2 b (ne b o e)).trans (u.keep b o e n hb hx)
 ·obtain⟨sl,e1⟩:=u.slot b o e n hb hx
  exact⟨sl,(sb.2 b (ne b o e)).trans e1⟩
 ·obtain⟨o',e1⟩:=u.there b o e hx
  exact⟨o',(sb.2 b (ne b o e)).trans e1⟩
 ·refine(I'.hok b ob e).stay (fun c w' hc q=>(sb.2 c ?_).trans q) (fun _ q=>q) fun _ _ q=>q
  rintro rfl
  rcases hc with rfl|hc
  ·rw[fr]at e;cases e
  ·rw[fr]at hc;cases hc
 ·exact⟨(f3 b hb).2.2.2.1,(f3 b hb).2.1,(f3 b hb).2.2.2.2.1,(f3 b hb).2.2.2.2.2⟩
end
variable [ClsTab]
theorem VF{N:Li Str}:∀ {l:Li Str}{fr:Li Nat},XD N l=some fr->fr.length=l.length/\∀ (i:Nat) (k:Nat),fr[i]?=some k->∃ y,l[i]?=some y/\N[k]?=some y
 |[],fr,h=>by cases h;exact⟨rfl,fun i k e=>by simp at e⟩
 |x :: r,fr,h=>by
  unfold XD at h;split at h
  ·rename_i a as e1 e2
   cases h;obtain⟨h1,h2⟩:=VF e2;refine⟨by simp[h1],fun i k e=>?_⟩
   cases i with
   |zero=>simp at e;subst e;exact⟨x,rfl,Yx e1⟩
   |succ i=>exact h2 i k (by simpa using e)
  ·exact Zb h
theorem StOk.lt{a:Ad}(I:L2.Inv X pQ σ H s)(S:StOk X.K ad H st)(h:a∈ad):a < s.heap.objs.size:=by
 obtain⟨i,hi,e⟩:=List.getElem_of_mem h;rcases S.has (show ad[i]?=some a by rw[Lg hi,e]) with⟨o,q⟩|⟨o,q⟩
 ·exact I.hok.lt q
 ·exact aE (I.kIn a o q)
variable{fr:Li Nat}
theorem Zcz{K:Fg}{bs:L2.St}{b:D->Li (Ot D)}(E:EnvOk K ad H σ ρ)(hd:EnvOk K ad H bs (b d)):EnvOk K ad H (bs++fr.map fun i=>(σ[i]?).join) (YR b ρ fr d):=by
 refine⟨by simp[YR,hd.len],fun i e h=>?_⟩
 unfold YR at h;by_cases hi:i < (b d).length
 ·rw[bF hi]at h
  rw[bF (by rw[hd.len];exact hi)]
  exact hd.at_ i e h
 ·have hi:(b d).length<=i:=dG hi
  rw[aY hi,aX]at h;rw[aY (by rw[hd.len];exact hi),aX,hd.len]
  cases q:fr[i - (b d).length]? with
  |none=>rw[q]at h;cases h
  |some k=>
   rw[q]at h;have h:(ρ[k]?).join=some e:=by simpa using h
   have h2:ρ[k]?=some (some e):=by
    cases z:ρ[k]? with
    |none=>rw[z]at h;cases h
    |some o=>rw[z]at h;rw[show o=some e from h]
   obtain⟨w,e1,e2⟩:=E.at_ k e h2;exact⟨w,by simp[e1],e2⟩
def Wz(K:Fg)(tg:Expr)(xs:Li Str)(b:D->Li (Ot D))(ds:Li D):Prop:=
 ∀ X:Cx,X.K=K->X.calm=true->X.N.Nodup->(∀ (i:Nat) x,xs[i]?=some x->X.N[i]?=some x)->(∀ y∈xs,X.env.scope.names.lookup y=some .local)->∀ (pQ:Li (Ad×Obj)) (s:Sd) (os fv:L2.St) (H:Hp) (ad:Li Ad) (v:V) (u:vL) (d:D),os.length=xs.length->L2.Inv X pQ (os++fv) H s->RelV v u->Den K ad H v d->d∈ds->
  wpAny (model X.prog X.w) X.A (assign tg X.env u) (fun _ s'=>∃ bs,bs.length=xs.length/\EnvOk K ad H bs (b d)/\L2.Inv X pQ (bs++fv) H s') X.xe s
theorem Vo{K:Fg}{x:Str}{px:Pos}:Wz K (.Name x px) [x] one ds:=by
 intro X hK hc hN hx hl pQ s os fv H ad v u d ho I r dv _;obtain⟨o,rfl⟩:∃ o,os=[o]:=by match os,ho with|[o],_=>exact⟨o,rfl⟩
 have lx:=hl x Ls;have pg:PG X (.Name x px) (gName 0):=pg_name hN (hx 0 x rfl) (.inl lx) (.inr lx);refine thn (pg pQ s _ H v u (fun σ' H'=>σ'=[some v]++fv/\H'=H) I r ⟨rfl,rfl⟩) fun _ s' ⟨σ',H',I',e,e'⟩=>?_
 subst e;subst e'
 exact⟨[some v],rfl,⟨rfl,fun i e h=>by
  cases i with
  |zero=>cases h;exact⟨v,rfl,dv⟩
  |succ i=>exact nomatch (show(none:Ot (Ot D))=some (some e) from h)⟩,I'⟩
theorem Zb8{K:Fg}{x y:Str}{px py:Pos}{k:Nat}{ds:Li D}(hds:∀ d∈ds,∃ a b,d=.tup [a,b]):Wz K (.Tuple [.Name x px,.Name y py] k tp) [x,y] two ds:=by
 intro X hK hc hN hx hl pQ s os fv H ad v u d ho I r dv hd;obtain⟨o,o',rfl⟩:∃ o o',os=[o,o']:=by match os,ho with|[o,o'],_=>exact⟨o,o',rfl⟩
 obtain⟨a,b,rfl⟩:=hds d hd;have lx:=hl x Ls;have ly:=hl y (Lm _ Ls);have g1:PG X (.Name x px) (gName 0):=pg_name hN (hx 0 x rfl) (.inl lx) (.inr lx);have g2:PG X (.Name y py) (gName 1):=pg_name hN (hx 1 y rfl) (.inl ly) (.inr ly);have pg:PG X (.Tuple [.Name x px,.Name y py] k tp) _:=pg_tup hc (pgs_cons g1 (pgs_cons g2 pgs_nil))
 obtain⟨p,vs,rfl,ha,rv⟩:=dv.ofTup;cases rv with
 |cons da rv=>cases rv with
  |cons db rv=>
   cases rv;rename_i va vb;refine thn (pg pQ s _ H _ u (fun σ' H'=>σ'=[some va,some vb]++fv/\H'=H) I r ⟨p,[va,vb],rfl,by rw[hK];exact ha.sq,rfl,va,[vb],rfl,vb,[],rfl,rfl,rfl,rfl⟩) fun _ s' ⟨σ',H',I',e,e'⟩=>?_
   subst e;subst e'
   exact⟨[some va,some vb],rfl,⟨rfl,fun i e h=>by
    cases i with
    |zero=>cases h;exact⟨va,rfl,da⟩
    |succ i=>cases i with
     |zero=>cases h;exact⟨vb,rfl,db⟩
     |succ i=>exact nomatch (show(none:Ot (Ot D))=some (some e) from h)⟩,I'⟩
variable{cl:Li (Str×Ad)}{ce cc:CE}{bd:D->Li (Ot D)}{J:It}{tn:Nat->Heap->Prop}{Good:Li Ad->Hp->Prop}{ad2:Li Ad}{H2:Hp}{use:Ot (vL->Sem Unit)}{R0:vL->Sd->Prop}{st1:Za}
section
variable {X:Cx}{G:Gs}{F:Nat->Fn}{sc sc2:Scope}{N xs:Li Str}
theorem Yq(h:Xq sc sc2 xs=true):sc2.kind=.function/\(∀ p∈sc2.names,p.2≠.cell)/\(∀ x∈xs,sc2.names.lookup x=some .local)/\(∀ p∈sc2.names,p.2=.local->sc2.names.lookup p.1=some .local)/\(xs++ZL sc2).Nodup/\∀ y∈ZL sc2,Vy sc y=true/\sc2.names.lookup y=some .free:=by
 unfold Xq at h;simp only[Ba,bR,bY,cT,cR,decide_eq_false_iff_not]at h;obtain⟨⟨⟨⟨⟨h1,h2⟩,h3⟩,h4⟩,h5⟩,h6⟩:=h;exact⟨h1,h2,h3,fun p hp e=>(h4 p hp).elim (fun z=>absurd e z) id,h5,h6⟩
theorem mem_frees{y:Str}:y∈ZL sc2↔(y,NameKind.free)∈sc2.names:=by
 unfold ZL;rw[bC];constructor
 ·rintro⟨⟨n,k⟩,h,rfl⟩
  rw[dL]at h;have:k=.free:=of_decide_eq_true h.2;rw[<-this];exact h.1
 ·intro h
  exact⟨(y,.free),dL.mpr ⟨h,by simp⟩,rfl⟩
theorem mem_of_lookup{y:Str}{k:NameKind}:∀ {l:Li (Str×NameKind)},l.lookup y=some k->(y,k)∈l
 |[],h=>by cases h
 | (n,q) :: l,h=>by
  rw[bB]at h;split at h
  ·rename_i e
   cases h;rw[beq_iff_eq.mp e];exact Ls
  ·exact Lm _ (mem_of_lookup h)
theorem Zct(Kx:Cxt X G F sc N)(hsc:Xq sc sc2 xs=true){C:Ad}{s3:Sd}{H3:Hp}{fp:Li Ad}:Cxt (cxC X (xs++ZL sc2) (compEnvC sc2 cl C X.env) s3 H3 fp pQ) G F sc2 (xs++ZL sc2):=by
 obtain⟨h1,h2,h3,h4,h5,h6⟩:=Yq hsc;exact {
  hN:=rfl
  vis:=fun y hy=>by
   rcases Zel hy with z|z|z
   ·exact .inl (YU z (by intro q;cases q))
   ·exact absurd rfl (h2 _ (mem_of_lookup z))
   ·rcases Xf (env:=X.env) z with w|w
    ·exact .inr (.inl w)
    ·exact .inr (.inr w)
  glb:=fun y hy=>YU (Zaq hy) (by intro q;cases q)
  calm:=Kx.calm
  hu:=Kx.hu
  gl:=Kx.gl
  cel:=fun y hy=>by
   rcases Zaf hy with z|z
   ·exact absurd rfl (h2 _ (mem_of_lookup z))
   ·exact Xf z
  }
theorem Zcn{ok:Za->Prop}{f c:D->Za->Res}{xs:Li D}{r:Li D×Za}(h:Yh ok f c xs st=some r):ok st:=by
 unfold Yh at h;split at h
 ·split at h
  ·assumption
  ·exact Zb h
 ·split at h
  ·assumption
  ·exact Zb h
noncomputable def evB(F:Nat->Fn)(c:CE)(b:D->Li (Ot D))(ρ:Env)(fr:Li Nat):D->Za->Res:=fun d s=>ev F c (YR b ρ fr d) s
inductive CI(X:Cx)(tn:Nat->Heap->Prop)(fp:List Addr)(fv σ:L2.St)(ρ:Env)(w:Nat)(ds:List D)(go:List D->Za->Option (List D×Za))(Good:List Addr->Hp->Prop)(dd:Addr)(ad2:List Addr)(H2:Hp)(st':Za)(ys:List D)(m:Nat)(s:Shared):Prop
 |mk (i:Nat) (o0:L2.St) (H:Hp) (ad:List Addr) (st:Za) (vs:List V) (es zs:List D) (him:i+m=ds.length) (hol:o0.length=w) (I:L2.Inv X [] (o0++fv) H s) (ti:tn i s.heap) (fi:∀ b∈fp,H b=none) (En:EnvOk X.K ad H σ ρ) (S:StOk X.K ad H st) (Gd:Good ad H) (nd:dd∉ad) (hv:H dd=some (.lst vs)) (rv:Dens X.K ad H vs es) (hel:es.length<=i)
  (hcp:go (ds.drop i) st=some (zs,st')) (hys:es++zs=ys) (ex:Ext ad2 H2 ad H):CI X tn fp fv σ ρ w ds go Good dd ad2 H2 st' ys m s
theorem Zbh(hlo:ZX G=true)(Kx:Cxt X G F sc2 N)(ihE:Zp G F n)(hce:cE G n sc2 N elt=some ce)(hcc:(ifs=[]/\cc=.cst (.bl true))\/∃ e,ifs=[e]/\cE G n sc2 N e=some cc){fp:Li Ad}{it:Ad}{ok:Za->Prop}(gm:∀ ad H ad' H',Ext ad H ad' H'->Good ad H->Good ad' H')(gw:∀ ad H p xs ys,H p=some (.lst xs)->Good ad H->Good ad (upd H p (.lst ys)))(go:∀ i ad H st,Good ad H->StOk X.K ad H st->ok st->i < ds.length->J.go i H)(stop:∀ i ad H st,Good ad H->StOk X.K ad H st->ok st->ds.length=i->J.stop i H)(yl:∀ i ad H st v H',Good ad H->StOk X.K ad H st->ok st->J.yld i H v H'->i < ds.length->Ext ad H ad H'/\StOk X.K ad H' st/\∃ d,ds[i]?=some d/\Den X.K ad H' v d)(T:Turn X.prog X.w X.K tg J fp it tn)(B:Wz X.K tg xs bd ds)(hN:X.N.Nodup)(hx:∀ (i:Nat) x,xs[i]?=some x->X.N[i]?=some x)(hl:∀ y∈xs,X.env.scope.names.lookup y=some .local)(exx:X.xe=fun _ _=>False)(fpk:∀ {H:Hp},(∀ b∈fp,H b=none)->∀ b∈fp,FpOk X [] H b){fv:L2.St}(ec:∀ {ad H bs d},EnvOk X.K ad H σ ρ->EnvOk X.K ad H bs (bd d)->EnvOk X.K ad H (bs++fv) (YR bd ρ fr d)){dd:Ad}{ys:Li D}(D0:H2 dd=none)(hz:ds.length<=1000)(done:∀ s5 σ5 H ad vs,L2.Inv X [] σ5 H s5->StOk X.K ad H st'->dd∉ad->H dd=some (.lst vs)->Dens X.K ad H vs ys->Ext ad2 H2 ad H->R (.ok .next) s5){m:Nat}(h0:CI X tn fp fv σ ρ xs.length ds (Yh ok (evB F ce bd ρ fr) (evB F cc bd ρ fr)) Good dd ad2 H2 st' ys m s) :
  codeAny (model X.prog X.w) X.A (.compLoop (.ListComp elt [⟨tg,iter,ifs,0⟩] sc2 pos) 0 (.ref it) (.ref dd) X.env) R s:=by
 refine Qm _ (fun m s h=>?_) m h0
 cases h with
 |mk i o0 H ad st vs es zs him hol I ti fi En S Gd nd hv rv hel hcp hys ex=>
 have oks:=Zcn hcp;have none_of:∀ {E:vL->Sd->Prop}{α:Type}{t:Sem α}{R:α->Sd->Prop}{s0:Sd},wpAny (model X.prog X.w) X.A t R X.xe s0->wpAny (model X.prog X.w) X.A t R E s0:=fun h=>by
  rw[exx]at h;exact aU h (fun _ _ q=>q) fun _ _ q=>q.elim
 by_cases hi:i < ds.length
 ·refine thn (T.item X rfl rfl rfl (Kx.calm hlo) i [] s _ H _ I (fpk fi) ti (go i ad H st Gd S oks hi)) fun r s5 ⟨u,hr,h5'⟩=>?_
  subst hr;refine thn h5' fun _ s6 ⟨v,H',I6,r6,y6,t6,f6⟩=>?_
  obtain⟨x6,S6,d,ed,dv⟩:=yl i ad H st v H' Gd S oks y6 hi;have hd:ds.drop i=d :: ds.drop (i+1):=by
   rw[dS hi];rw[Lg hi]at ed;cases ed;rfl
  refine thn (none_of (B X rfl (Kx.calm hlo) hN hx hl _ s6 o0 _ H' ad v u _ hol (I6.pinned (fpk f6) (T.obj _ _ t6)) r6 dv (bG ed))) fun _ s7 ⟨bs,lb,Eb,I7⟩=>?_
  have En6:=En.mono x6;have En7:=ec En6 Eb
  -- behind the item's turn
  have again:∀ {H9:Hp}{s9:Sd}{ad9:Li Ad}{st9:Za}{vs9:Li V}{es9 zs9:Li D},L2.Inv X ([]++pinsAt fp s6.heap) (bs++fv) H9 s9->StOk X.K ad9 H9 st9->Good ad9 H9->dd∉ad9->H9 dd=some (.lst vs9)->Dens X.K ad9 H9 vs9 es9->es9.length<=i+1->
    Yh ok (evB F ce bd ρ fr) (evB F cc bd ρ fr) (ds.drop (i+1)) st9=some (zs9,st')->es9++zs9=ys->Ext ad2 H2 ad9 H9->EnvOk X.K ad9 H9 σ ρ->
    ∃ m',m' < m/\CI X tn fp fv σ ρ xs.length ds (Yh ok (evB F ce bd ρ fr) (evB F cc bd ρ fr)) Good dd ad2 H2 st' ys m' s9:=
   fun I9 S9 G9 n9 v9 r9 l9 c9 y9 x9 e9=>
    have pk:=fun b hb o e=>I9.pin (b,o) (cL _ (cL _ (mem_pinsAt hb e)))
    ⟨m - 1,by omega,.mk (i+1) bs _ _ _ _ _ _ (by omega) lb I9.unpinned (T.keep _ _ _ t6 fun b hb o e=>(pk b hb o e).1) (fun b hb=>let ⟨o,e,_⟩:=T.obj _ _ t6 b hb;(pk b hb o e).2.1) e9 S9 G9 n9 v9 r9 l9 c9 y9 x9⟩
  -- the tests
  have tests:∀ {k:Bool}{st2:Za},evB F cc bd ρ fr d st=some (.bl k,st2)->∀ {R:Bool->Sd->Prop}{E:vL->Sd->Prop},(∀ s8 H8 ad8,L2.Inv X ([]++pinsAt fp s6.heap) (bs++fv) H8 s8->Ext ad H' ad8 H8->StOk X.K ad8 H8 st2->R k s8)->
    wpAny (model X.prog X.w) X.A (forIn ifs true fun c r=>if r=true then do let ok <-isTrue c X.env (eval c X.env);pure (ForInStep.yield ok) else pure (ForInStep.yield r)) R E s7:=fun {k st2} q {R E} hR=>by
   rcases hcc with⟨rfl,rfl⟩|⟨e,rfl,he⟩
   ·cases q
    exact wpAny_tests_nil (hR s7 H' ad I7 (Ext.refl _ _) S6)
   ·refine wpAny_tests_one (thn (none_of ((ihE X sc2 _ Kx e cc he).pt _ s7 _ H' (fun k' H8=>k'=k/\∃ ad8,Ext ad H' ad8 H8/\StOk X.K ad8 H8 st2) I7 ⟨ad,YR bd ρ fr d,st,k,st2,En7,S6,q,fun ad' H' x S'=>⟨rfl,ad',x,S'⟩⟩)) fun k' s8 ⟨H8,I8,e8,ad8,x8,S8⟩=>?_)
    subst e8;exact hR s8 H8 ad8 I8 x8 S8
  have n8:∀ {ad8 H8},Ext ad H' ad8 H8->dd∉ad8:=fun x8 z=>((x6.trans x8).new dd z).elim nd fun w=>by rw[hv]at w;cases w
  have v8:∀ {ad8 H8},Ext ad H' ad8 H8->H8 dd=some (.lst vs):=fun x8=>(x6.trans x8).keep dd _ hv nd
  have rv6:=rv.mono x6;have ex6:=ex.trans x6;have G6:=gm _ _ _ _ x6 Gd;clear x6 En Eb ex Gd S I hv rv;rw[hd]at hcp;unfold Yh at hcp;rw[if_pos oks]at hcp;split at hcp
  ·rename_i st2 q1
   split at hcp
   ·rename_i y st3 q2
    split at hcp
    ·rename_i zs' st4 q3
     cases hcp;refine tests q1 fun s8 H8 ad8 I8 x8 S8=>?_
     rw[if_pos rfl];refine thn (none_of ((ihE X sc2 _ Kx elt ce hce).pe _ s8 _ H8 (fun v8 H9=>∃ ad9,Ext ad8 H8 ad9 H9/\StOk X.K ad9 H9 st3/\Den X.K ad9 H9 v8 y) I8 ⟨ad8,YR bd ρ fr d,st2,y,st3,En7.mono x8,S8,q2,fun v8 ad' H' x S' dn=>⟨ad',x,S',dn⟩⟩)) fun u9 s9 ⟨v9,H9,I9,r9,ad9,x9,S9,d9⟩=>?_
     have x89:=x8.trans x9;have hv9:=v8 x89;have hlen:vs.length=es.length:=rv6.length;refine thn (none_of (mt_append (X:=X) _ s9 _ H9 (.ref dd) [v9] (.ref dd) [u9] (fun _ H10=>H10=upd H9 dd (.lst (vs++[v9]))) I9 rfl (.cons r9 .nil) ⟨dd,vs,v9,rfl,rfl,hv9,Nat.lt_of_le_of_lt (show vs.length<=1000 by omega) (by decide),rfl⟩)) fun u10 s10 ⟨v10,H10,I10,r10,e10⟩=>?_
     subst e10;have nd9:=n8 x89;exact again (vs9:=vs++[v9]) (es9:=es++[y]) (zs9:=zs') I10 (S9.wr hv9 nd9) (gw _ _ _ _ _ hv9 (gm _ _ _ _ x89 G6)) nd9 upd_same (((rv6.mono x89).append (.cons d9 .nil)).wr hv9) (by rw[aI,eA];omega) q3 (by rw[<-hys,bO];rfl) ((ex6.trans x89).wr hv9 D0) ((En6.mono x89).wr hv9)
    ·exact Zb hcp
   ·exact Zb hcp
  ·rename_i st2 q1
   refine tests q1 fun s8 H8 ad8 I8 x8 S8=>?_
   rw[if_neg Bf];exact again I8 S8 (gm _ _ _ _ x8 G6) (n8 x8) (v8 x8) (rv6.mono x8) (by omega) hcp hys (ex6.trans x8) (En6.mono x8)
  ·exact Zb hcp
 ·refine thn (T.done X rfl rfl rfl (Kx.calm hlo) i [] s _ H _ I (fpk fi) ti (stop i ad H st Gd S oks (by omega))) fun r s5 ⟨hr,I5⟩=>?_
  subst hr;rw[eD (dG hi)]at hcp;unfold Yh at hcp;rw[if_pos oks]at hcp;cases hcp;rw[bU]at hys;subst hys;exact done s5 _ H ad vs I5 S nd hv rv ex
theorem Jj(hlo:ZX G=true)(Kx:Cxt X G F sc N)(ihE:Zp G F n)(hsc:Xq sc sc2 xs=true)(hfr:XD N (ZL sc2)=some fr)(hce:cE G n sc2 (xs++ZL sc2) elt=some ce)(hcc:(ifs=[]/\cc=.cst (.bl true))\/∃ e,ifs=[e]/\cE G n sc2 (xs++ZL sc2) e=some cc)(c1:∀ y c,cl.lookup y=some c->X.env.cells.lookup y=some c)(c2:∀ y,(y,NameKind.free)∈sc2.names->(cl.lookup y).isSome){fp:Li Ad}{it:Ad}{ok:Za->Prop}(gm:∀ ad H ad' H',Ext ad H ad' H'->Good ad H->Good ad' H')(gw:∀ ad H p xs ys,H p=some (.lst xs)->Good ad H->Good ad (upd H p (.lst ys)))(go:∀ i ad H st,Good ad H->StOk X.K ad H st->ok st->i < ds.length->J.go i H)(stop:∀ i ad H st,Good ad H->StOk X.K ad H st->ok st->ds.length=i->J.stop i H)(yl:∀ i ad H st v H',Good ad H->StOk X.K ad H st->ok st->J.yld i H v H'->i < ds.length->Ext ad H ad H'/\StOk X.K ad H' st/\∃ d,ds[i]?=some d/\Den X.K ad H' v d){s2 s3:Sd}{dd:Ad}{h₁:Heap}{ys:Li D}(B:Wz X.K tg xs bd ds)(T:Turn X.prog X.w X.K tg J fp it tn)(t2:tn 0 s2.heap)(f2:∀ b∈fp,FpOk X pQ H2 b)(fb:∀ b∈fp,b < dd)(E2:EnvOk X.K ad2 H2 σ ρ)(S2:StOk X.K ad2 H2 st1)(g2:Good ad2 H2)(hcomp:Yh ok (fun d s=>ev F ce (YR bd ρ fr d) s) (fun d s=>ev F cc (YR bd ρ fr d) s) ds st1=some (ys,st'))(hz:ds.length<=1000)(hp:Post X.K ad2 H2 (.lst st'.length) (st'++[(true,ys)]) Q)(hend:∀ C dd s5 H5 m',s5.heap.Ns C m'->(∀ h',Heap.SameBut C s5.heap h'->L2.Inv X pQ σ H5 { s5 with heap:=h' })->FpOk X pQ H5 C->Q (.ref dd) H5->compPost (model X.prog X.w) X.A X.xe use R0 (.ref dd) C (.ok .next) s5)  (D0:H2 dd=none) (I3:L2.Inv X pQ σ (upd H2 dd (.lst [])) s3) (z3:s3.heap.objs.size=dd+1) (nad:dd∉ad2) (hns₁:h₁.Ns s3.heap.objs.size m0) (up:∀ b u,s3.heap.get? b=some u->h₁.get? b=some u) (up0:∀ b u,s2.heap.get? b=some u->s3.heap.get? b=some u) :
  codeAny (model X.prog X.w) X.A (.compStart (.ListComp elt [⟨tg,iter,ifs,0⟩] sc2 pos) 0 (.ref it) (.ref dd) (compEnvC sc2 cl s3.heap.objs.size X.env)) (compPost (model X.prog X.w) X.A X.xe use R0 (.ref dd) s3.heap.objs.size) { s3 with heap:=h₁,toks:=tk }:=by
 obtain⟨h1,h2,h3,h4,h5,h6⟩:=Yq hsc;have f3:∀ b∈fp,FpOk X pQ (upd H2 dd (.lst [])) b:=fun b hb=>⟨by rw[upd_ne (aQ (fb b hb))];exact(f2 b hb).1,(f2 b hb).2⟩
 obtain⟨fl,fg⟩:=VF hfr;have I4:=Zdb (N:=xs++ZL sc2) (cl:=cl) (fp:=fp) (tk:=tk) (σ':=List.replicate xs.length none++fr.map fun i=>(σ[i]?).join) I3 h1 h2 hns₁ up c1 (fun y e=>c2 y (mem_of_lookup e)) f3 (fun b hb=>by rw[z3];exact Nat.lt_succ_of_lt (fb b hb)) (fun i y v e1 e2=>by
  by_cases hi:i < xs.length
  ·rw[bF (by simpa using hi),dP,if_pos hi]at e2;cases e2
  ·have hi:xs.length<=i:=dG hi
   rw[aY (by simpa using hi),aX,bQ]at e2
   rw[aY hi]at e1;cases q:fr[i - xs.length]? with
   |none=>rw[q]at e2;cases e2
   |some k=>
    rw[q]at e2;have e2:(σ[k]?).join=some v:=by simpa using e2
    have e3:σ[k]?=some (some v):=by
     cases w:σ[k]? with
     |none=>rw[w]at e2;cases e2
     |some o=>rw[w]at e2;rw[show o=some v from e2]
    obtain⟨y',g1,g2⟩:=fg _ k q;rw[e1]at g1;cases g1
    obtain⟨k1,k2⟩:=h6 y (bG e1);exact⟨k,by rw[Kx.hN];exact g2,e3,k2,Kx.cel y k1⟩) (by simp[fl])
 have K':=Zct (cl:=cl) (C:=s3.heap.objs.size) (s3:=s3) (H3:=upd H2 dd (.lst [])) (fp:=fp) (pQ:=pQ) Kx hsc;have loop:=Zbh (R:=compPost (model X.prog X.w) X.A X.xe use R0 (.ref dd) s3.heap.objs.size) (pos:=pos) (iter:=iter) hlo K' ihE hce hcc gm gw go stop yl T B h5 (fun i x e=>by show(xs++ZL sc2)[i]?=some x;rw[bF (bE.mp e).1];exact e) (fun y hy=>YU (h3 y hy) (by intro q;cases q)) rfl (fun {H} hn b hb=>⟨hn b hb,by
  show b≠s3.heap.objs.size;rw[z3];exact aQ (Nat.lt_succ_of_lt (fb b hb)),fun hs=>(aM.mp (I3.stkSub b hs)).elim (f2 b hb).2.1 (f2 b hb).2.2.1,.inl hb,fun y c e=>(f2 b hb).2.2.2.2.1 y c (c1 _ _ e),fun p hp=>(f2 b hb).2.2.2.2.2 p (by simpa[cxC] using hp)⟩) (σ:=σ) (ρ:=ρ) (fr:=fr) (fun a b=>Zcz a b) (dd:=dd) (ad2:=ad2) (H2:=H2) (st':=st') (ys:=ys) D0 hz (fun s5 σ5 H ad vs I5 S nd hv rv ex=>by
   obtain⟨m',hn,_⟩:=I5.loc;refine hend s3.heap.objs.size dd s5 H m' hn (fun h' sb=>Zda I3 rfl I5 sb f3) (I3.fpOk (aD _) I5.free) (hp (.ref dd) (ad++[dd]) H ⟨fun j a e=>XI (ex.pre j a e),ex.tup,ex.keep,fun b hb=>?_,ex.kd⟩ (S.adopt hv nd rv) (.lst ⟨by rw[<-S.len];exact ZI,UU hv rfl⟩))
   rcases bM.mp hb with z|z
   ·exact ex.new b z
   ·rw[bW.mp z];exact .inr D0)
  (.mk 0 (List.replicate xs.length none) (upd H2 dd (.lst [])) ad2 st1 [] [] ys (bX _) (bQ ..) I4 (T.keep _ _ _ t2 fun b _ o e=>up b o (up0 b o e)) (fun b hb=>(f3 b hb).1) (E2.mono (Ext.laid D0)) (S2.laid D0) (gm _ _ _ _ (Ext.laid D0) g2) nad upd_same .nil (aD _) hcomp rfl (Ext.laid D0))
 exact codeAny_compStart_list loop (T.self X.A 0 _ _ _ (T.keep _ _ _ t2 fun b _ o e=>up b o (up0 b o e)) loop)
theorem Zbg(hlo:ZX G=true)(Kx:Cxt X G F sc N)(ihE:Zp G F n)(hsc:Xq sc sc2 xs=true)(hfr:XD N (ZL sc2)=some fr)(hce:cE G n sc2 (xs++ZL sc2) elt=some ce)(hcc:(ifs=[]/\cc=.cst (.bl true))\/∃ e,ifs=[e]/\cE G n sc2 (xs++ZL sc2) e=some cc)(c1:∀ y c,cl.lookup y=some c->X.env.cells.lookup y=some c)(c2:∀ y,(y,NameKind.free)∈sc2.names->(cl.lookup y).isSome){fp:Li Ad}{it:Ad}{ok:Za->Prop}(Good:Li Ad->Hp->Prop)(gm:∀ ad H ad' H',Ext ad H ad' H'->Good ad H->Good ad' H')(gw:∀ ad H p xs ys,H p=some (.lst xs)->Good ad H->Good ad (upd H p (.lst ys)))(go:∀ i ad H st,Good ad H->StOk X.K ad H st->ok st->i < ds.length->J.go i H)(stop:∀ i ad H st,Good ad H->StOk X.K ad H st->ok st->ds.length=i->J.stop i H)(yl:∀ i ad H st v H',Good ad H->StOk X.K ad H st->ok st->J.yld i H v H'->i < ds.length->Ext ad H ad H'/\StOk X.K ad H' st/\∃ d,ds[i]?=some d/\Den X.K ad H' v d){s2:Sd}{ys:Li D}(I2:L2.Inv X pQ σ H2 s2)(B:Wz X.K tg xs bd ds)(T:Turn X.prog X.w X.K tg J fp it tn)(t2:tn 0 s2.heap)(f2:∀ b∈fp,FpOk X pQ H2 b)(E2:EnvOk X.K ad2 H2 σ ρ)(S2:StOk X.K ad2 H2 st1)(g2:Good ad2 H2)(hcomp:Yh ok (fun d s=>ev F ce (YR bd ρ fr d) s) (fun d s=>ev F cc (YR bd ρ fr d) s) ds st1=some (ys,st'))(hz:ds.length<=1000)(hp:Post X.K ad2 H2 (.lst st'.length) (st'++[(true,ys)]) Q)(hend:∀ C dd s5 H5 m',s5.heap.Ns C m'->(∀ h',Heap.SameBut C s5.heap h'->L2.Inv X pQ σ H5 { s5 with heap:=h' })->FpOk X pQ H5 C->Q (.ref dd) H5->compPost (model X.prog X.w) X.A X.xe use R0 (.ref dd) C (.ok .next) s5) :
  wpAny (model X.prog X.w) X.A (newList []) (fun acc s₃=>wpAny (model X.prog X.w) X.A (newFunctionEnv sc2 X.env.globals cl [] X.env.qual none .none (some X.env)) (fun cenv s₄=>
   codeAny (model X.prog X.w) X.A (.compStart (.ListComp elt [⟨tg,iter,ifs,0⟩] sc2 pos) 0 (.ref it) acc { cenv with scope:=relabel sc2 X.env }) (compPost (model X.prog X.w) X.A X.xe use R0 acc cenv.locals) s₄) X.xe s₃) X.xe s2:=by
 obtain⟨h1,h2,h3,h4,h5,h6⟩:=Yq hsc;have fb:∀ b∈fp,b < s2.heap.objs.size:=fun b hb=>let ⟨o,e,_⟩:=T.obj 0 _ t2 b hb;aE e
 refine wpAny_newObj_type (wpAny_newFunctionEnv h2 (by intro y hy;simp at hy) (fun h₁ hns₁ hsb₁=>?_) h1)
 dsimp only at hns₁ hsb₁ ⊢;have I3:L2.Inv X pQ σ (upd H2 s2.heap.objs.size (.lst [])) { s2 with heap:=s2.heap.push { cls:=.type "list",dict:=none,data:=.seq ([]:Li vL).toArray } }:=I2.lnew (its:=[]) (t':=s2.toks) .nil (bT _)
 have e3:s2.heap.push { cls:=.type "list",dict:=none,data:=.seq ([]:Li vL).toArray }=({ s2 with heap:=s2.heap.push { cls:=.type "list",dict:=none,data:=.seq ([]:Li vL).toArray } }:Sd).heap:=rfl
 exact Jj hlo Kx ihE hsc hfr hce hcc c1 c2 gm gw go stop yl B T t2 f2 fb E2 S2 g2 hcomp hz hp hend (I2.hok.fresh (aD _)) I3 (Heap.size_push ..) (fun z=>absurd (S2.lt I2 z) (bD _)) hns₁ (fun b u e=>hsb₁.extBut b u (aQ (aE e)) (aH _ e)) (fun b u e=>aH _ e)
end
variable [ClsTab]
def ZbU(X:Cx)(σ:L2.St)(ρ:Env)(ds:Li D)(ok:Za->Prop)(st1 st2:Za)(ys:Li D)(Q:VK)(J:It)(H1:Hp):Prop:=
 ∃ (ad1:Li Ad) (Good:Li Ad->Hp->Prop),(∀ ad H ad' H',Ext ad H ad' H'->Good ad H->Good ad' H')/\(∀ ad H p xs ys,H p=some (.lst xs)->Good ad H->Good ad (upd H p (.lst ys))) /\
  (∀ i ad H st,Good ad H->StOk X.K ad H st->ok st->i < ds.length->J.go i H)/\(∀ i ad H st,Good ad H->StOk X.K ad H st->ok st->ds.length=i->J.stop i H)/\(∀ i ad H st v H',Good ad H->StOk X.K ad H st->ok st->J.yld i H v H'->i < ds.length->Ext ad H ad H'/\StOk X.K ad H' st/\∃ d,ds[i]?=some d/\Den X.K ad H' v d) /\
  EnvOk X.K ad1 H1 σ ρ/\StOk X.K ad1 H1 st1/\Good ad1 H1/\Post X.K ad1 H1 (.lst st2.length) (st2++[(true,ys)]) Q
variable{st2:Za}
theorem Zck{n:Int}{ys:Li D}{f:Ev}(hn:n < 2 ^ 62/\-(2 ^ 62)<=n)(E:EnvOk X.K ad H σ ρ)(S:StOk X.K ad H st)(q:f ρ st=some (.int n,st1))(p:Post X.K ad H (.lst st2.length) (st2++[(true,ys)]) Q) :
  iRng1 (tCons (tE X.K f) tNil) σ H (ZbU X σ ρ ((List.range n.toNat).map fun(k:Nat)=>D.int (k:Int)) (fun _=>True) st1 st2 ys Q):=by
 refine⟨ad,ρ,st,.int n,st1,E,S,q,fun v ad1 H1 x1 S1 d1=>?_⟩
 cases d1.ofInt;refine⟨n,rfl,hn.2,hn.1,ad1,fun _ _=>True,fun _ _ _ _ _ _=>trivial,fun _ _ _ _ _ _ _=>trivial,fun i ad H st _ _ _ hi=>(show i < n.toNat by simpa using hi),fun i ad H st _ _ _ hi=>(show n.toNat<=i by simpa using dF hi),fun i ad H st v H' _ S _ y hi=>?_,E.mono x1,S1,trivial,p.later x1⟩
 cases y.1;have hi':i < n.toNat:=by simpa using hi
 refine⟨Ext.refl _ _,S,.int (i:Int),?_,?_⟩
 ·rw[aX,dZ hi'];rfl
 ·rw[y.2,Int.zero_add];exact .int _
theorem Zbc{x0:D}{ok:Za->Prop}{ys:Li D}(E:EnvOk X.K ad H σ ρ)(S:StOk X.K ad H st)(q:Zz fa fb QS ρ st=some (x0,st1))(hw:Q4 false x0 st1=some (ds,ok))(p:Post X.K ad H (.lst st2.length) (st2++[(true,ys)]) Q) :
  iRng2 (tCons (tE X.K fa) (tCons (tE X.K fb) tNil)) σ H (ZbU X σ ρ ds ok st1 st2 ys Q):=by
 unfold Zz at q;split at q
 ·rename_i da s1 qa
  split at q
  ·rename_i db s2 qb
   unfold QS at q;split at q
   ·rename_i a b
    split at q
    ·rename_i hr
     cases q;cases hw;unfold ZP at hr;simp only[bR]at hr;have hN:ZJ a b 1=(b - a).toNat:=by
      unfold ZJ;rw[if_pos (by decide)]
      split
      ·rw[cX];omega
      ·omega
     have hl:((ZG a b 1).map D.int).length=(b - a).toNat:=by unfold ZG;rw[aF,aF,bK,hN]
     refine⟨ad,ρ,st,.int a,s1,E,S,qa,fun v ad1 H1 x1 S1 d1=>?_⟩
     cases d1.ofInt;refine⟨ad1,ρ,s1,.int b,_,E.mono x1,S1,qb,fun w ad2 H2 x2 S2 d2=>?_⟩
     cases d2.ofInt;refine⟨a,b,rfl,⟨by omega,by omega,by omega,by omega⟩,ad2,fun _ _=>True,fun _ _ _ _ _ _=>trivial,fun _ _ _ _ _ _ _=>trivial,fun i ad H st _ _ _ hi=>(show i < (b - a).toNat by omega),fun i ad H st _ _ _ hi=>(show(b - a).toNat<=i by omega),fun i ad H st v H' _ S _ y hi=>?_,E.mono (x1.trans x2),S2,trivial,p.later (x1.trans x2)⟩
     cases y.1;have hi':i < ZJ a b 1:=by omega
     refine⟨Ext.refl _ _,S,.int (a+(i:Int)),?_,?_⟩
     ·unfold ZG
      rw[aX,aX,dZ hi'];show some (D.int (a+(i:Int) * 1))=_;rw[Int.mul_one]
     ·rw[y.2];exact .int _
    ·exact Zb q
   ·exact Zb q
  ·exact Zb q
 ·exact Zb q
theorem Zcl{z:Str}{ys:Li D}{f:Ev}(ha:z.cps.all (fun c=>decide (c < 128))=true)(E:EnvOk X.K ad H σ ρ)(S:StOk X.K ad H st)(q:f ρ st=some (.str z,st1))(p:Post X.K ad H (.lst st2.length) (st2++[(true,ys)]) Q) :
  ZjB (tE X.K f) σ H (ZbU X σ ρ ((chS z).map D.str) (fun _=>True) st1 st2 ys Q):=by
 refine⟨ad,ρ,st,.str z,st1,E,S,q,fun v ad1 H1 x1 S1 d1=>?_⟩
 cases d1;have hl:((chS z).map D.str).length=z.cps.size:=by simp[chS]
 refine⟨z,rfl,ha,ad1,fun _ _=>True,fun _ _ _ _ _ _=>trivial,fun _ _ _ _ _ _ _=>trivial,fun i ad H st _ _ _ hi=>(show i < z.cps.size by omega),fun i ad H st _ _ _ hi=>(show z.cps.size<=i by omega),fun i ad H st v H' _ S _ y hi=>?_,E.mono x1,S1,trivial,p.later x1⟩
 obtain⟨rfl,c,hc,rfl⟩:=y;refine⟨Ext.refl _ _,S,.str ⟨#[c]⟩,?_,.str _⟩;unfold chS;rw[aX,aX,Array.getElem?_toList,hc];rfl
theorem Q6{xs ys:Li D}(h:i < (Q5 xs ys).length):∃ a b,xs[i]?=some a/\ys[i]?=some b/\(Q5 xs ys)[i]?=some (.tup [a,b]):=by
 unfold Q5 at h ⊢
 rw[aF,dA]at h;have h1:i < xs.length:=by omega
 have h2:i < ys.length:=by omega
 refine⟨xs[i],ys[i],Lg h1,Lg h2,?_⟩;rw[aX,Lg (by rw[dA];omega),List.getElem_zip]
 rfl
theorem Zeo{xs ys:Li D}:∀ d∈Q5 xs ys,∃ a b,d=.tup [a,b]:=fun d h=>by
 obtain⟨p,_,rfl⟩:=bC.mp h;exact⟨_,_,rfl⟩
theorem Zcm{x:D}{ok:Za->Prop}{ys:Li D}{f:Ev}(E:EnvOk X.K ad H σ ρ)(S:StOk X.K ad H st)(q:f ρ st=some (x,st1))(hw:VX x st1=some (ds,ok))(p:Post X.K ad H (.lst st2.length) (st2++[(true,ys)]) Q) :
  ZhP X.K (tA X.K f) σ H (ZbU X σ ρ ds ok st1 st2 ys Q):=by
 unfold VX at hw;split at hw
 ·rename_i l zs
  split at hw
  ·rename_i c hc
   cases hw;refine⟨ad,ρ,st,_,st1,E,S,q,fun vs ad1 H1 x1 S1 d1=>?_⟩
   obtain⟨v1,v2,rfl,dv1,dv2⟩:∃ v1 v2,vs=[v1,v2]/\Den X.K ad1 H1 v1 (.lst l)/\Den X.K ad1 H1 v2 (.tup zs):=by
    cases d1 with
    |cons h1 d1=>
     cases d1 with
     |cons h2 d1=>cases d1;exact⟨_,_,rfl,h1,h2⟩
   obtain⟨a,rfl,ha⟩:=dv1.ofLst;obtain⟨b,ws,rfl,hb,rw0⟩:=dv2.ofTup;obtain⟨us,ru,squ⟩:=S1.list ha (show st1[l]?=some (c.1,c.2) from hc);refine⟨a,b,rfl,⟨us,squ⟩,⟨ws,hb.sq⟩,ad1,fun ad H=>LA ad H l a/\TupAt X.K H b ws/\Dens X.K ad H ws zs,fun _ _ _ _ x g=>⟨g.1.mono x,g.2.1.mono x,g.2.2.mono x⟩,fun _ _ _ _ _ e g=>⟨⟨g.1.1,fun z=>g.1.2 ((JE e).mpr z)⟩,g.2.1.upd e (by intro xs z;cases z),g.2.2.wr e⟩,fun i ad H st g S e hi=>?_,fun i ad H st g S e hi=>?_,fun i ad H st v H' g S e y hi=>?_,E.mono x1,S1,⟨ha,hb,rw0⟩,p.later x1⟩
   ·obtain⟨us,ru,squ⟩:=S.list g.1 (show st[l]?=some (c.1,c.2) from e)
    obtain⟨p1,p2,e1,e2,_⟩:=Q6 hi;obtain⟨w1,f1,_⟩:=ru.get e1;obtain⟨w2,f2,_⟩:=g.2.2.get e2;exact⟨us,ws,w1,w2,squ,g.2.1.sq,f1,f2⟩
   ·obtain⟨us,ru,squ⟩:=S.list g.1 (show st[l]?=some (c.1,c.2) from e)
    refine⟨us,ws,squ,g.2.1.sq,?_⟩;rw[ru.length,g.2.2.length,<-hi];unfold Q5;rw[aF,dA];exact aD _
   ·obtain⟨us,ru,squ⟩:=S.list g.1 (show st[l]?=some (c.1,c.2) from e)
    obtain⟨p1,p2,e1,e2,e3⟩:=Q6 hi;obtain⟨w1,f1,g1⟩:=ru.get e1;obtain⟨w2,f2,g2⟩:=g.2.2.get e2;obtain⟨T,y1,y2,rfl,hT,rfl,h1,h2⟩:=y;have z:=h1 us squ;rw[f1]at z;cases z
    have z:=h2 ws g.2.1.sq;rw[f2]at z;cases z
    exact⟨Ext.laid hT,S.laid hT,_,e3,.tup (.inl upd_same) (.cons (g1.mono (Ext.laid hT)) (.cons (g2.mono (Ext.laid hT)) .nil))⟩
  ·exact Zb hw
 ·exact Zb hw
theorem ZbR{x:D}{ds:Li D}{ok:Za->Prop}(h:VX x st=some (ds,ok)):∀ d∈ds,∃ a b,d=.tup [a,b]:=by
 unfold VX at h;split at h
 ·split at h
  ·cases h;exact Zeo
  ·exact Zb h
 ·exact Zb h
theorem ZbN{xs:Li Str}(h:tgN tg=some xs):(∃ x px,tg=.Name x px/\xs=[x])\/∃ x y px py k tp,tg=.Tuple [.Name x px,.Name y py] k tp/\xs=[x,y]:=by
 unfold tgN at h;split at h
 ·cases h;exact .inl ⟨_,_,rfl,rfl⟩
 ·rename_i es k tp
  have nm:∀ {e:Expr}{x:Str},nmE e=some x->∃ p,e=.Name x p:=X8;cases es with
  |nil=>exact Zb h
  |cons a es=>cases es with
   |nil=>exact Zb h
   |cons b es=>cases es with
    |cons _ _=>exact Zb h
    |nil=>
     refine ZQ (P:=fun xs=>_\/∃ x y px py k' tp',Expr.Tuple [a,b] k tp=.Tuple [.Name x px,.Name y py] k' tp'/\xs=[x,y]) h fun x y hx hy=>?_
     obtain⟨px,rfl⟩:=nm hx;obtain⟨py,rfl⟩:=nm hy;exact .inr ⟨x,y,px,py,k,tp,rfl,rfl⟩
 ·exact Zb h
inductive CSh(G:Gs)(n:Nat)(sc:Scope)(N:List Str)(elt:Expr)(sc2:Scope):List Comprehension->CE->Prop
 |mk {tg it:Expr}{ifs:List Expr}{xs:List Str}{fr:List Nat}{r:Option (Option Bool)}{ci ce cc:CE} (htg:tgN tg=some xs) (hsc:Xq sc sc2 xs=true) (hfr:XD N (ZL sc2)=some fr) (hi:itC G sc it (cE G n sc N) xs=some (r,ci)) (hce:cE G n sc2 (xs++ZL sc2) elt=some ce) (hcc:(ifs=[]/\cc=.cst (.bl true))\/∃ e,ifs=[e]/\cE G n sc2 (xs++ZL sc2) e=some cc):CSh G n sc N elt sc2 [⟨tg,it,ifs,0⟩] (mkC r fr ci ce cc)
theorem ZeX{G:Gs}(h:cE G (n+1) sc N (.ListComp elt gens sc2 pos)=some c):CSh G n sc N elt sc2 gens c:=by
 replace h:=ZY (show og (ZX G=true) (Zah G sc sc2 N (cE G n sc N) (cE G n sc2) elt gens)=some c from h) fun _ z=>z
 replace h:Zah G sc sc2 N (cE G n sc N) (cE G n sc2) elt gens=some c:=h;have no:∀ {P:Prop},(none:Ot CE)=some c->P:=fun z=>nomatch z
 cases gens with
 |nil=>exact no h
 |cons g gs=>
  obtain⟨tg,it,ifs,k⟩:=g;cases k with
  |negSucc _=>cases gs<;>exact no h
  |ofNat m=>cases m with
   |succ _=>cases gs<;>exact no h
   |zero=>cases gs with
    |cons _ _=>exact no h
    |nil=>
     replace h:(match tgN tg with
      |none=>none
      |some xs=>og (Xq sc sc2 xs=true) (o3 (fun fr p (q:CE×CE)=>mkC p.1 fr p.2 q.1 q.2) (XD N (ZL sc2)) (itC G sc it (cE G n sc N) xs) (o2 Prod.mk (cE G n sc2 (xs++ZL sc2) elt) (ifC (cE G n sc2 (xs++ZL sc2)) ifs))))=some c:=h
     cases htg:tgN tg with
     |none=>rw[htg]at h;cases h
     |some xs=>
      rw[htg]at h;refine ZY h fun hsc h=>WM (P:=CSh G n sc N elt sc2 _) h fun fr p q hfr hi hq=>ZQ (P:=fun q:CE×CE=>CSh G n sc N elt sc2 _ (mkC p.1 fr p.2 q.1 q.2)) hq fun ce cc hce hcc=>.mk htg hsc hfr hi hce ?_
      cases ifs with
      |nil=>cases hcc;exact .inl ⟨rfl,rfl⟩
      |cons a l=>cases l with
       |nil=>exact .inr ⟨a,rfl,hcc⟩
       |cons _ _=>exact Zb hcc
inductive CR(b:D->List (Option D))(w:D->Za->Option (List D×(Za->Prop)))(fr:List Nat)(fi fe fc:Ev)(ρ:Env)(st:Za):D->Za->Prop
 |mk {x:D}{st1 st2:Za}{ds ys:List D}{ok:Za->Prop} (q1:fi ρ st=some (x,st1)) (q2:w x st1=some (ds,ok)) (hz:ds.length<=1000) (q3:Yh ok (fun d s=>fe (YR b ρ fr d) s) (fun d s=>fc (YR b ρ fr d) s) ds st1=some (ys,st2)):CR b w fr fi fe fc ρ st (.lst st2.length) (st2++[(true,ys)])
theorem XN{b:D->Li (Ot D)}{w:D->Za->Ot (Li D×(Za->Prop))}{fi:Ev}(e:Vr b w fr fi fe fc ρ st=some (d,st')):CR b w fr fi fe fc ρ st d st':=by
 unfold Vr at e;split at e
 ·split at e
  ·split at e
   ·split at e
    ·cases e;exact .mk ‹_› ‹_› ‹_› ‹_›
    ·exact Zb e
   ·exact Zb e
  ·exact Zb e
 ·exact Zb e
inductive CIt(X:Cx)(pQ:List (Addr×Obj))(s:Shared)(σ:L2.St)(ρ:Env)(tg it:Expr)(xs:List Str)(F:Nat->Fn)(fr:List Nat)(ce cc:CE)(Q:VK):Prop
 |mk {bd:D->List (Option D)}{ds:List D}{ok:Za->Prop}{st1 st2:Za}{ys:List D} (B:Wz X.K tg xs bd ds) (hz:ds.length<=1000) (q3:Yh ok (fun d s=>ev F ce (YR bd ρ fr d) s) (fun d s=>ev F cc (YR bd ρ fr d) s) ds st1=some (ys,st2)) (hp:Zj it=true) (pi:wpAny (model X.prog X.w) X.A (eval it X.env) (fun v s1=>wpAny (model X.prog X.w) X.A (pyIter v) (PIE X pQ σ tg (ZbU X σ ρ ds ok st1 st2 ys Q)) X.xe s1) X.xe s):CIt X pQ s σ ρ tg it xs F fr ce cc Q
theorem UR{f:α->β}{o:Ot α}{b:β}(h:o.map f=some b):∃ a,o=some a/\f a=b:=by
 cases o with
 |none=>exact Zb h
 |some a=>exact⟨a,rfl,by cases h;rfl⟩
theorem ZeW{G:Gs}(ihE:Zp G F n)(Kx:Cxt X G F sc N){xs:Li Str}{r:Ot (Ot Bool)}{ci:CE}(htg:tgN tg=some xs)(hi:itC G sc it (cE G n sc N) xs=some (r,ci))(I:L2.Inv X pQ σ H s)(E:EnvOk X.K ad H σ ρ)(S:StOk X.K ad H st)(e:ev F (mkC r fr ci ce cc) ρ st=some (d,st'))(p:Post X.K ad H d st' Q):CIt X pQ s σ ρ tg it xs F fr ce cc Q:=by
 rcases ZbN htg with⟨x,px,rfl,rfl⟩|⟨x,y,px,py,k,tp,rfl,rfl⟩
 ·replace hi:(match YA G sc it with
   |some a=>(cE G n sc N a).map fun c=>(some (some true),c)
   |none=>match (fnA G sc "range" it).bind Zej with
    |some p=>o2 (fun x y=>(some (some false),.rng2 x y)) (cE G n sc N p.1) (cE G n sc N p.2)
    |none=>(cE G n sc N it).map fun c=>(some (some false),c))=some (r,ci):=hi
  split at hi
  ·rename_i a ha
   obtain⟨ca,q,hi⟩:=UR hi;cases hi;obtain⟨hp,pi⟩:=QQ (tg:=.Name x px) Kx ha (Zh q) (ihE X sc N Kx a _ q).pe;cases XN e with
   |@mk x0 st1 st2 ds ys ok q1 q2 hz q3=>
    refine .mk Vo hz q3 hp (pi pQ s σ H _ I ?_);cases x0 with
    |int k=>
     have q2:(match (if k < 2 ^ 62/\-(2 ^ 62)<=k then some ((List.range k.toNat).map fun(k:Nat)=>D.int (k:Int)) else none) with
      |some xs=>some (xs,fun _=>True)
      |none=>none)=some (ds,ok):=q2
     by_cases hk:k < 2 ^ 62/\-(2 ^ 62)<=k
     ·rw[if_pos hk]at q2
      cases q2;exact Zck hk E S q1 p
     ·rw[if_neg hk]at q2
      cases q2
    |_=>exact Zb q2
  ·split at hi
   ·rename_i p hp2
    refine ZQ (P:=fun u:Ot (Ot Bool)×CE=>u=(r,ci)->CIt X pQ s σ ρ (.Name x px) it [x] F fr ce cc Q) hi (fun ca cb qa qb hu=>?_) rfl
    cases hu;obtain⟨as,h1,h2⟩:=aO.mp hp2;obtain⟨pp,pos,rfl,hg,hm⟩:=Vt Kx h1;obtain⟨a,b⟩:=p;obtain rfl:as=[a,b]:=by
     cases as with
     |nil=>exact Zb h2
     |cons a0 as=>cases as with
      |nil=>exact Zb h2
      |cons b0 as=>cases as with
       |nil=>cases h2;rfl
       |cons _ _=>exact Zb h2
    cases XN e with
    |@mk x0 st1 st2 ds ys ok q1 q2 hz q3=>
     refine .mk Vo hz q3 rfl (pi_range2 hg hm (pa2 (Zh qa) (Zh qb) (ihE X sc N Kx a _ qa).pe (ihE X sc N Kx b _ qb).pe) (by rw[Zc (Zh qa),Zc (Zh qb)];rfl) (Zc (Zh qb)) pQ s σ H _ I (Zbc E S q1 q2 p))
   ·obtain⟨ca,q,hi⟩:=UR hi
    cases hi;cases XN e with
    |@mk x0 st1 st2 ds ys ok q1 q2 hz q3=>
     refine .mk Vo hz q3 (Zh q) ?_;cases x0 with
     |str z=>
      have q2:(if z.cps.all (fun c=>decide (c < 128))=true then some ((chS z).map D.str,fun _=>True) else none)=some (ds,ok):=q2
      by_cases ha:z.cps.all (fun c=>decide (c < 128))=true
      ·rw[if_pos ha]at q2
       cases q2;exact Zik (ihE X sc N Kx it _ q).pe pQ s σ H _ I (Zcl ha E S q1 p)
      ·rw[if_neg ha]at q2
       cases q2
     |dct ks vs=>
      have no:∀ {v:V}{ad1:Li Ad}{H1:Hp},Den X.K ad1 H1 v (.dct ks vs)->False:=fun {v ad1 H1} d1=>by cases d1
      exact thn ((ihE X sc N Kx it _ q).pe pQ s σ H (fun _ _=>False) I ⟨ad,ρ,st,_,st1,E,S,q1,fun v ad1 H1 x1 S1 d1=>no d1⟩) fun v s1 ⟨x,H1,I1,r1,z⟩=>z.elim
     |_=>exact Zb q2
 ·replace hi:(match (fnA G sc "zip" it).bind Zej with
   |some p=>o2 (fun x y=>(some none,CE.aC x (.aC y .aN))) (cE G n sc N p.1) (cE G n sc N p.2)
   |none=>(cE G n sc N it).map fun c=>(none,c))=some (r,ci):=hi
  split at hi
  ·rename_i pr hp2
   refine ZQ (P:=fun u:Ot (Ot Bool)×CE=>u=(r,ci)->CIt X pQ s σ ρ (.Tuple [.Name x px,.Name y py] k tp) it [x,y] F fr ce cc Q) hi (fun ca cb qa qb hu=>?_) rfl
   cases hu;obtain⟨as,h1,h2⟩:=aO.mp hp2;obtain⟨pp,pos,rfl,hg,hm⟩:=Vt Kx h1;rw[Zgv h2];cases XN e with
   |mk q1 q2 hz q3=>
    have PA0:PA X [pr.1,pr.2] (tA X.K (ev F (.aC ca (.aC cb .aN)))):=VG (pa_cons (ihE X sc N Kx _ _ qa).pe (VG (pa_cons (ihE X sc N Kx _ _ qb).pe (VG pa_nil Vx) (Zc (Zh qb))) WI) (Zc (Zh qa))) WI;exact .mk (Zb8 (ZbR q2)) hz q3 rfl (ZdK hg hm PA0 (by rw[aT,aT,Zh qa,Zh qb];rfl) pQ s σ H _ I (Zcm E S q1 q2 p))
  ·obtain⟨ca,q,hi⟩:=UR hi
   cases hi;cases e
theorem Zai{G:Gs}(ihE:Zp G F n)(Kx:Cxt X G F sc N)(h:cE G (n+1) sc N (.ListComp elt gens sc2 pos)=some c)(I:L2.Inv X pQ σ H s)(hq:tE X.K (ev F c) σ H Q)(hend:∀ C dd s5 H5 m',s5.heap.Ns C m'->(∀ h',Heap.SameBut C s5.heap h'->L2.Inv X pQ σ H5 { s5 with heap:=h' })->FpOk X pQ H5 C->Q (.ref dd) H5->compPost (model X.prog X.w) X.A X.xe use R0 (.ref dd) C (.ok .next) s5) :
  ∃ tg it ifs,gens=[⟨tg,it,ifs,0⟩]/\∀ pos',wpAny (model X.prog X.w) X.A (comprehension (.ListComp elt [⟨tg,it,ifs,0⟩] sc2 pos) sc2 X.env pos' (newList []) false (eval it X.env) use) R0 X.xe s:=by
 have hlo:ZX G=true:=ZY (show og (ZX G=true) (Zah G sc sc2 N (cE G n sc N) (cE G n sc2) elt gens)=some c from h) fun z _=>z
 cases ZeX h with
 |@mk tg it ifs xs fr r ci ce cc htg hsc hfr hi hce hcc=>
  obtain⟨h1,h2,h3,h4,h5,h6⟩:=Yq hsc;obtain⟨ad,ρ,st,d,st',E,S,e,p⟩:=hq;obtain⟨cl,ec,c1,c2⟩:=Ql (env:=X.env) (sc:=sc2) (fun y hy hf=>by
   have hm:(y.1,NameKind.free)∈sc2.names:=by rw[<-hf];exact hy
   exact I.ok.has y.1 (Kx.cel y.1 (h6 y.1 (mem_frees.mpr hm)).1))
  refine⟨tg,it,ifs,rfl,fun pos'=>?_⟩
  cases ZeW ihE Kx htg hi I E S e p with
  |mk B hz q3 hp pi=>
   refine wpAny_comprehension_free (use:=use) rfl (ZT hp) ec h1 h4 (thn pi fun v s1 h1'=>thn h1' fun itv s2 h2'=>?_)
   obtain⟨ita,fp,tn,J,H2,rfl,I2,T,t2,f2,ad1,Good,gm,gw,go,stop,yl,E2,S2,g2,p2⟩:=h2';exact Zbg hlo Kx ihE hsc hfr hce hcc c1 c2 Good gm gw go stop yl I2 B T t2 f2 E2 S2 g2 q3 hz p2 hend
theorem Zaj{G:Gs}:Y7 G F:=by
 intro n ihE;refine⟨fun X sc N Kx elt gens sc2 pos c h=>SE.of ?_,fun X sc N K y i p elt gens sc2 epos pos c hi h hsw=>?_⟩
 ·intro pQ s σ H Q I hq
  obtain⟨tg,it,ifs,rfl,go⟩:=Zai ihE Kx h I hq (use:=none) (R0:=EP X pQ σ Q) fun C dd s5 H5 m' hn hI _ q=>⟨m',hn,fun h' sb=>⟨.ref dd,H5,hI h' sb,rfl,q⟩⟩
  rw[eval_ListComp];exact go _
 ·intro pQ s σ H D I hq
  obtain⟨tg,it,ifs,rfl,go⟩:=Zai ihE K.toCxt h I hq (use:=some (assign (.Name y p) X.env)) (R0:=fun _ s'=>SP X pQ D .next s') fun C dd s5 H5 m' hn hI fo q=>by
   have I5:=hI s5.heap (Heap.SameBut.refl _ _);show wpAny _ X.A (assign (.Name y p) X.env (.ref dd)) _ _ s5;refine wpAny_assign_Name (store_ok2 (v:=.ref dd) I5 (by rw[K.hN];exact K.nd) (by rw[K.hN];exact Yx hi) (K.loc _ (Vc hi)) rfl (fun s6 I6 ⟨a,sb,ha⟩=>?_) (.inl (K.fn _)))
   have ne:C≠a:=by
    rcases ha with z|z
    ·rw[z];exact fo.2.1
    ·exact fun w=>fo.2.2.2.2.1 _ _ z w.symm
   exact⟨m',hn.sameBut sb ne,fun h3 sb3=>⟨_,H5,I6.turned (t':=s6.toks) (fun b o hb e=>sb3.extBut b o hb e) fo.1 fo.2.1 fo.2.2.2.1 fo.2.2.2.2.1 fo.2.2.2.2.2,q⟩⟩
  rw[exec_Assign_Name_used _ _ _ _ hsw];refine aA (wpAny_standAt (aA ?_));show wpAny _ X.A (do let _ <-comprehension (.ListComp elt [⟨tg,it,ifs,0⟩] sc2 epos) sc2 X.env _ (newList []) false (eval it X.env) (some (assign (.Name y p) X.env))) _ _ s
  exact aA (aU (go _) (fun _ s' hq=>aB (aB hq)) fun _ _ e=>e)
end Dp


namespace Dp
open PySem

inductive P where
 |non|bl (b:Bool)|int (i:Int)|str (x:Str)|tup (xs:List P)|lst (m:Bool) (xs:List P)|dct (ks:List Str) (vs:List P)|obj (i:Nat)|kt (ks:List Str)|dic (m:Bool) (xs:List P)

mutual
noncomputable def noL:P->Bool
 |.tup xs=>Zh9 xs
 |.lst _ _=>false
 |.dic _ _=>false
 |.dct _ vs=>Zh9 vs
 |_=>true
noncomputable def Zh9:Li P->Bool
 |[]=>true
 |x :: xs=>noL x&&Zh9 xs
end
mutual
noncomputable def ofD:D->Ot P
 |.non=>some .non
 |.bl b=>some (.bl b)
 |.int i=>some (.int i)
 |.str x=>some (.str x)
 |.tup xs=>(QL xs).map .tup
 |.kt ks=>some (.kt ks)
 |_=>none
noncomputable def QL:Li D->Ot (Li P)
 |[]=>some []
 |x :: xs=>match ofD x,QL xs with
  |some y,some ys=>some (y :: ys)
  |_,_=>none
end
noncomputable def scP:P->Ot Sc
 |.non=>some .non
 |.bl b=>some (.bl b)
 |.int i=>some (.int i)
 |.str x=>some (.str x)
 |_=>none
noncomputable def ZhJ(xs ys:Li P):Ot Bool:=if (xs.isEmpty||ys.isEmpty)=true then some (xs.isEmpty&&ys.isEmpty) else none
noncomputable def ZkK(xs:Li P):P->Ot Bool
 |.lst _ ys=>ZhJ xs ys
 |_=>none
noncomputable def eqP(x y:P):Ot Bool:=match x with
 |.tup _=>none
 |.lst _ xs=>ZkK xs y
 |x=>(o2 ZcA (scP x) (scP y)).join
noncomputable def Zg2(xs:Li P)(j:Int):Ot P:=match xs with
 |[x]=>if j<=1000/\-1000<=j then some (.tup (List.replicate j.toNat x)) else none
 |_=>none
noncomputable def Zg1(m:Bool)(xs:Li P)(j:Int):Ot P:=match m,xs with
 |true,[x]=>if j<=1000/\-1000<=j then some (.lst true (List.replicate j.toNat x)) else none
 |_,_=>none
noncomputable def W4(op:Operator)(x y:P):Ot P:=
 match x,y with
 |.int i,.int j=>match Jh op i j with
  |some k=>some (.int k)
  |none=>none
 |.tup xs,.int j=>if WW op=true then Zg2 xs j else none
 |.lst _ xs,.lst _ ys=>if XZ op=true/\xs.length+ys.length<=Ze then some (.lst true (xs++ys)) else none
 |.lst m xs,.int j=>if WW op=true then Zg1 m xs j else none
 |.str x,.str y=>if XZ op=true/\x.length+y.length<=Ze then some (.str (x++y)) else none
 |_,_=>none
noncomputable def inP:Int->Li P->Ot Bool
 |_,[]=>some false
 |k,.int i :: r=>(inP k r).map fun b=>decide (i=k)||b
 |_,_=>none
noncomputable def Zc3:Str->Li P->Ot Bool
 |_,[]=>some false
 |k,.str i :: r=>(Zc3 k r).map fun b=>decide (i=k)||b
 |_,_=>none
noncomputable def ZdE(f:Int->Int->Bool):P->P->Ot Bool
 |.int i,.int j=>some (f i j)
 |_,_=>none
noncomputable def ltP(x y:P):Ot Bool:=ZdE (fun i j=>decide (i < j)) x y
noncomputable def ZjL(x y:P):Ot Bool:=ltP x y
noncomputable def ZhT(x y:P):Ot Bool:=match x,y with
 |.int k,.tup xs=>inP k xs
 |.str k,.tup xs=>Zc3 k xs
 |.str k,.kt ks=>some (ks.contains k)
 |.str k,.str x=>some (QK x k)
 |_,_=>none
noncomputable def niP(x y:P):Ot Bool:=match y with
 |.dct _ _=>none
 |y=>(ZhT x y).map not
noncomputable def ZkO:P->Ot Bool
 |.non=>some true
 |.int _=>some false
 |.str _=>some false
 |.bl _=>some false
 |.tup _=>some false
 |.lst _ _=>some false
 |.dct _ _=>none
 |.obj _=>none
 |.kt _=>none
 |.dic _ _=>none
noncomputable def ZkM(b:Bool):P->Ot Bool
 |.bl a=>some (a==b)
 |_=>none
noncomputable def ZhX(x:P):P->Ot Bool
 |.non=>ZkO x
 |.bl b=>ZkM b x
 |_=>none
noncomputable def ZhE(op:CmpOp)(x y:P):Ot Bool:=
 match op with
 |.Lt=>ZjL x y
 |.LtE=>ZdE (fun i j=>decide (i<=j)) x y
 |.Gt=>ZdE (fun i j=>decide (j < i)) x y
 |.GtE=>ZdE (fun i j=>decide (j<=i)) x y
 |.Eq=>eqP x y
 |.NotEq=>(eqP x y).map not
 |.In=>ZhT x y
 |.NotIn=>niP x y
 |.Is=>ZhX x y
 |.IsNot=>(ZhX x y).map not
noncomputable def atP(xs:Li P)(i:Int):Ot P:=(ixN xs.length i).bind fun j=>xs[j]?
noncomputable def ixP:P->P->Ot P
 |.tup xs,.int i=>atP xs i
 |.lst _ xs,.int i=>atP xs i
 |.str x,.int i=>if x.length<=Ze then atP ((chS x).map .str) i else none
 |_,_=>none
noncomputable def UG(xs:Li P)(lo hi:Ot Int):Li P:=(xs.drop (sIx xs.length 0 lo)).take (sIx xs.length xs.length hi - sIx xs.length 0 lo)
noncomputable def Yf(x:P)(lo hi:Ot Int):Ot P:=
 match x with
 |.tup xs=>if sIx xs.length 0 lo=0/\sIx xs.length xs.length hi=xs.length then some (.tup xs) else some (.tup (UG xs lo hi))
 |.lst _ xs=>some (.lst true (UG xs lo hi))
 |.str x=>if x.length<=Ze then some (.str (WF x lo hi)) else none
 |_=>none
noncomputable def VP:P->P->P->Ot P
 |x,.non,.non=>Yf x none none
 |x,.int i,.non=>Yf x (some i) none
 |x,.non,.int j=>Yf x none (some j)
 |x,.int i,.int j=>Yf x (some i) (some j)
 |_,_,_=>none
noncomputable def Jy:P->Ot P
 |.tup xs=>some (.int xs.length)
 |.lst _ xs=>some (.int xs.length)
 |.str x=>if x.length<=Ze then some (.int x.length) else none
 |_=>none
noncomputable def ZhY(T:Ty):P->Ot Bool
 |.int _=>some (decide (T=.int))
 |.bl _=>some (decide (T=.int)||decide (T=.bool))
 |.str _=>some (decide (T=.str))
 |.tup _=>some (decide (T=.tuple))
 |.non=>some false
 |_=>none
noncomputable def Zdd(T:Ty)(p:P):Ot P:=(ZhY T p).map .bl
noncomputable def ZjP:P->Ot P
 |.int i=>some (.int (-i))
 |_=>none
noncomputable def ZfE:P->Ot P
 |.bl k=>some (.bl (!k))
 |_=>none
noncomputable def Xh(op:CmpOp)(x y:P):Ot P:=(ZhE op x y).map .bl
noncomputable def Zdm:P->Ot P
 |.tup xs=>some (.lst true xs)
 |_=>none
noncomputable def V5:P->P->Ot P
 |x,.tup xs=>if xs.length < 1000 then some (.tup (x :: xs)) else none
 |_,_=>none
noncomputable def ZdF:P->Ot P
 |.int i=>some (.int i)
 |_=>none

noncomputable def Zkk:P->P->Ot P
 |.str x,.tup [.str y]=>if y.length=1/\x.length<=Ze then some (.lst true ((XJ x y).map .str)) else none
 |_,_=>none

noncomputable def Zch(g:Li P->Ot P)(ds:Li D):P->Ot P
 |.tup xs=>match QL ds with
  |some es=>g (xs++es)
  |none=>none
 |_=>none
noncomputable def U7:P->Ot P
 |.tup xs=>some (.tup xs)
 |.lst _ xs=>some (.tup xs)
 |_=>none
noncomputable def Js:P->Ot P
 |.int i=>some (.int i)
 |.bl true=>some (.int 1)
 |.bl false=>some (.int 0)
 |.str x=>(match Wn x with
  |some i=>some (.int i)
  |none=>none)
 |_=>none
noncomputable def Zea:P->Ot P
 |.int i=>if ZM i=true then some (.str (Str.ofString (toString i))) else none
 |_=>none
noncomputable def W2:Li P->Ot (Li Str)
 |[]=>some []
 |.str x :: r=>(W2 r).map (x :: ·)
 |_=>none
noncomputable def WK(ps:Li P):Ot P:=match W2 ps with
 |some xs=>if (W5 xs).length<=Ze then some (.str ⟨(W5 xs).toArray⟩) else none
 |none=>none
noncomputable def WJ(s:Str)(ps:Li P):Ot P:=match W2 ps with
 |some xs=>if (Z6 s xs).length<=Ze then some (.str ⟨(Xv s xs).toArray⟩) else none
 |none=>none
noncomputable def Uf:P->P->Ot P
 |.str s,.lst _ ps=>if s.length=0 then WK ps else WJ s ps
 |_,_=>none
noncomputable def ZdW:P->P->Ot P
 |.int a,.int b=>if ZP a b 1=true then some (.dct [] [.int a,.int b]) else none
 |_,_=>none
noncomputable def Vk:P->P->Ot P
 |.str x,.tup [.str y]=>some (.bl (stW x y))
 |_,_=>none
noncomputable def Zh8:P->P->Ot P
 |.int i,.int j=>some (.int (if j < i then j else i))
 |_,_=>none
noncomputable def Zh7:P->P->Ot P
 |.int i,.int j=>some (.int (if j > i then j else i))
 |_,_=>none
noncomputable def JB(ks:Li Str)(ds:Li D):P->Ot P
 |.str k=>(YZ ks ds k).bind ofD
 |_=>none
noncomputable def Xn:Li P->Ot (Li Bool)
 |[]=>some []
 |.bl b :: r=>(Xn r).map (b :: ·)
 |_=>none
noncomputable def WO(f:Li Bool->Bool):P->Ot P
 |.lst _ xs=>match Xn xs with
  |some bs=>some (.bl (f bs))
  |none=>none
 |_=>none

noncomputable def Xe(n:Int):Li P:=(List.range n.toNat).map fun(k:Nat)=>P.int (k:Int)
noncomputable def Jv(rng:Bool)(x:P):Ot (Li P):=
 match rng,x with
 |true,.int n=>if n < 2 ^ 62/\-(2 ^ 62)<=n then some (Xe n) else none
 |_,_=>none
noncomputable def Yv(f c:P->Ot P):Li P->Ot (Li P)
 |[]=>some []
 |x :: xs=>match c x with
  |some (.bl true)=>match f x with
   |some y=>match Yv f c xs with
    |some ys=>some (y :: ys)
    |none=>none
   |none=>none
  |some (.bl false)=>Yv f c xs
  |_=>none
noncomputable def Xi(rng:Bool)(x:P):Ot (Li P):=match Jv rng x with
 |some xs=>some xs
 |none=>match rng,x with
  |false,.str x=>if x.cps.all (fun c=>decide (c < 128))=true then some ((chS x).map .str) else none
  |false,.dct [] [.int a,.int b]=>some ((ZG a b 1).map .int)
  |_,_=>none
noncomputable abbrev ZH:=Li (Ot P)
noncomputable abbrev PEv:=ZH->Ot P
noncomputable def pq1(fa:PEv)(g:P->Ot P):PEv:=fun π=>match fa π with
 |some x=>g x
 |none=>none
noncomputable def pq2(fa fb:PEv)(g:P->P->Ot P):PEv:=fun π=>match fa π with
 |some x=>match fb π with
  |some y=>g x y
  |none=>none
 |none=>none
noncomputable def pq3(fa fb fc:PEv)(g:P->P->P->Ot P):PEv:=fun π=>match fa π with
 |some x=>match fb π with
  |some y=>match fc π with
   |some z=>g x y z
   |none=>none
  |none=>none
 |none=>none
noncomputable def VH(fc ft ff:PEv):PEv:=fun π=>match fc π with
 |some (.bl true)=>ft π
 |some (.bl false)=>ff π
 |_=>none
noncomputable def YG(i:Nat):PEv:=fun π=>match π[i]? with
 |some (some p)=>some p
 |_=>none
noncomputable def Y1(π:ZH)(fr:Li Nat)(p:P):ZH:=some p :: fr.map fun i=>(π[i]?).join
noncomputable def Zil(p:P):Li (Ot P):=[some p]
noncomputable def JL:P->Li (Ot P)
 |.tup [a,b]=>[some a,some b]
 |_=>[]

noncomputable def ZaZ(xs ys:Li P):Li P:=(xs.zip ys).map fun p=>.tup [p.1,p.2]
noncomputable def WR:P->Ot (Li P)
 |.tup [.lst _ xs,.tup ys]=>some (ZaZ xs ys)
 |_=>none
noncomputable def X0(b:P->Li (Ot P))(π:ZH)(fr:Li Nat)(p:P):ZH:=b p++fr.map fun i=>(π[i]?).join
noncomputable def Xd(b:P->Li (Ot P))(w:P->Ot (Li P))(fr:Li Nat)(fi fe fc:PEv):PEv:=fun π=>match fi π with
 |some x=>match w x with
  |some xs=>if xs.length<=1000 then
    match Yv (fun p=>fe (X0 b π fr p)) (fun p=>fc (X0 b π fr p)) xs with
    |some ys=>some (.lst true ys)
    |none=>none
   else none
  |none=>none
 |none=>none
noncomputable def pe(F:Nat->Li P->Ot P):CE->PEv
 |.var i=>YG i
 |.cst d=>fun _=>ofD d
 |.bin op a b=>pq2 (pe F a) (pe F b) (W4 op)
 |.neg a=>pq1 (pe F a) ZjP
 |.cmp op a b=>pq2 (pe F a) (pe F b) (Xh op)
 |.not a=>pq1 (pe F a) ZfE
 |.and a b=>VH (pe F a) (pe F b) (fun _=>some (.bl false))
 |.or a b=>VH (pe F a) (fun _=>some (.bl true)) (pe F b)
 |.ife c a b=>VH (pe F c) (pe F a) (pe F b)
 |.tupE a=>pe F a
 |.lstE a=>pq1 (pe F a) Zdm
 |.aN=>fun _=>some (.tup [])
 |.aC a r=>pq2 (pe F a) (pe F r) V5
 |.ix a b=>pq2 (pe F a) (pe F b) ixP
 |.slice a lo hi=>pq3 (pe F a) (pe F lo) (pe F hi) VP
 |.nop=>fun _=>some .non
 |.part a=>pq1 (pe F a) ZdF
 |.call f a ds=>pq1 (pe F a) (Zch (F f) ds)
 |.len a=>pq1 (pe F a) Jy
 |.tOf a=>pq1 (pe F a) U7
 |.intOf a=>pq1 (pe F a) Js
 |.min a b=>pq2 (pe F a) (pe F b) Zh8
 |.max a b=>pq2 (pe F a) (pe F b) Zh7
 |.isi T a=>pq1 (pe F a) (Zdd T)
 |.look ks ds a=>pq1 (pe F a) (JB ks ds)
 |.all a=>pq1 (pe F a) (WO fun l=>l.all id)
 |.comp rng fr it elt cnd=>Xd Zil (Xi rng) fr (pe F it) (pe F elt) (pe F cnd)
 |.comp2 fr it elt cnd=>Xd JL WR fr (pe F it) (pe F elt) (pe F cnd)
 |.tix o a=>pq2 (pe F o) (pe F a) Zkk
 |.strOf a=>pq1 (pe F a) Zea
 |.joinE a b=>pq2 (pe F a) (pe F b) Uf
 |.starts a b=>pq2 (pe F a) (pe F b) Vk
 |.rng2 a b=>pq2 (pe F a) (pe F b) ZdW
 |_=>fun _=>none
inductive PFl where
 |nx (π:ZH)|rt (p:P)
noncomputable abbrev PEx:=ZH->Ot PFl
noncomputable def Ym(π:ZH)(i:Nat)(p:P):ZH:=π.set i (some p)
noncomputable def ZdP(f g:PEx):PEx:=fun π=>match f π with
 |some (.nx π')=>g π'
 |r=>r
noncomputable def ZdO(f:PEv):PEx:=fun π=>match f π with
 |some d=>some (.rt d)
 |none=>none
noncomputable def ZdQ(i:Nat)(f:PEv):PEx:=fun π=>match f π with
 |some p=>some (.nx (Ym π i p))
 |none=>none
noncomputable def ZdL(c:PEv)(f g:PEx):PEx:=fun π=>match c π with
 |some (.bl true)=>f π
 |some (.bl false)=>g π
 |_=>none
noncomputable def ZdJ(it:PEv):PEx:=fun π=>match it π with
 |some (.tup [.lst _ [],.tup _])=>some (.nx π)
 |_=>none
noncomputable def px(F:Nat->Li P->Ot P)(M:Li Nat):CS->PEx
 |.skip=>fun π=>some (.nx π)
 |.seq a b=>ZdP (px F M a) (px F M b)
 |.ret e=>ZdO (pe F e)
 |.set i e=>ZdQ i (pe F e)
 |.ite c a b=>ZdL (pe F c) (px F M a) (px F M b)
 |.forP _ _ it _=>ZdJ (pe F it)
 |_=>fun _=>none
noncomputable def fnP(F:Nat->Li P->Ot P)(f:FD):Li P->Ot P:=fun ds=>
 if ds.length=f.ps then
  match px F [] f.body (ds.map some++List.replicate (f.ns - ds.length) none) with
  |some (.rt d)=>some d
  |some (.nx _)=>some .non
  |_=>none
 else none
noncomputable def Zf(T:Nat->Ot FD):Nat->Nat->Li P->Ot P
 |0,_=>fun _=>none
 |n+1,i=>match T i with
  |some f=>fnP (Zf T n) f
  |none=>fun _=>none
abbrev Fz:=Nat->Prop
mutual
inductive Rel(fz:Fz)(st:Za):P->D->Prop where
 |non:Rel fz st .non .non
 |bl (b:Bool):Rel fz st (.bl b) (.bl b)
 |int (i:Int):Rel fz st (.int i) (.int i)
 |str (x:Str):Rel fz st (.str x) (.str x)
 |tup {ps:List P}{ds:List D} (r:Rels fz st ps ds):Rel fz st (.tup ps) (.tup ds)
 |lst {j:Nat}{m:Bool}{ps:List P}{ds:List D} (hz:fz j) (h:st[j]?=some (m,ds)) (r:Rels fz st ps ds):Rel fz st (.lst m ps) (.lst j)
 |dct {ps:List P}{ds:List D} (r:Rels fz st ps ds):Rel fz st (.dct [] ps) (.dct [] ds)
 |obj (i:Nat):Rel fz st (.obj i) (.obj i)
 |kt (ks:List Str):Rel fz st (.kt ks) (.kt ks)
 |dic {j:Nat}{m:Bool}{ps:List P}{ds:List D} (hz:fz j) (h:st[j]?=some (m,ds)) (r:Rels fz st ps ds):Rel fz st (.dic m ps) (.dic j)
inductive Rels(fz:Fz)(st:Za):List P->List D->Prop where
 |nil:Rels fz st [] []
 |cons {p:P}{d:D}{ps:List P}{ds:List D} (h:Rel fz st p d) (r:Rels fz st ps ds):Rels fz st (p :: ps) (d :: ds)
end
variable{p:P}{d:D}{ps:Li P}{ds:Li D}
section
variable {fz fz':Fz}{st st':Za}
theorem Rel.mono(h1:∀ i,fz i->fz' i)(h2:∀ i,fz i->st'[i]?=st[i]?)(h:Rel fz st p d):Rel fz' st' p d:=
 Rel.rec (motive_1:=fun p d _=>Rel fz' st' p d) (motive_2:=fun ps ds _=>Rels fz' st' ps ds) .non .bl .int .str (fun _ r=>.tup r) (fun hz h _ r=>.lst (h1 _ hz) (by rw[h2 _ hz];exact h) r) (fun _ r=>.dct r) .obj .kt (fun hz h _ r=>.dic (h1 _ hz) (by rw[h2 _ hz];exact h) r) .nil (fun _ _ a b=>.cons a b) h
theorem Rels.mono(h1:∀ i,fz i->fz' i)(h2:∀ i,fz i->st'[i]?=st[i]?)(h:Rels fz st ps ds):Rels fz' st' ps ds:=
 Rels.rec (motive_1:=fun _ _ _=>True) (motive_2:=fun ps ds _=>Rels fz' st' ps ds) trivial (fun _=>trivial) (fun _=>trivial) (fun _=>trivial) (fun _ _=>trivial) (fun _ _ _ _=>trivial) (fun _ _=>trivial) (fun _=>trivial) (fun _=>trivial) (fun _ _ _ _=>trivial) .nil (fun a _ _ b=>.cons (a.mono h1 h2) b) h
theorem Rels.length:∀ {ps:Li P}{ds:Li D},Rels fz st ps ds->ps.length=ds.length
 |_,_,.nil=>rfl
 |_,_,.cons _ r=>congrArg (·+1) (Rels.length r)
theorem Rels.get:∀ {ps:Li P}{ds:Li D}{i:Nat}{p:P},Rels fz st ps ds->ps[i]?=some p->∃ d,ds[i]?=some d/\Rel fz st p d
 |_,_,_,_,.nil,e=>by simp at e
 |_,_,0,_,.cons h _,e=>by simp at e;subst e;exact⟨_,rfl,h⟩
 |_,_,i+1,p,.cons _ r,e=>by
  obtain⟨v,h1,h2⟩:=Rels.get (i:=i) (p:=p) r (by simpa using e)
  exact⟨v,by simpa using h1,h2⟩
theorem Rels.append:∀ {ps qs:Li P}{ds es:Li D},Rels fz st ps ds->Rels fz st qs es->Rels fz st (ps++qs) (ds++es)
 |_,_,_,_,.nil,s=>s
 |_,_,_,_,.cons h r,s=>.cons h (Rels.append r s)
theorem Rels.take:∀ {ps:Li P}{ds:Li D} (n:Nat),Rels fz st ps ds->Rels fz st (ps.take n) (ds.take n)
 |_,_,0,_=>.nil
 |_,_,_+1,.nil=>.nil
 |_,_,n+1,.cons h r=>.cons h (Rels.take n r)
theorem Rels.drop:∀ {ps:Li P}{ds:Li D} (n:Nat),Rels fz st ps ds->Rels fz st (ps.drop n) (ds.drop n)
 |_,_,0,r=>r
 |_,_,_+1,.nil=>.nil
 |_,_,n+1,.cons _ r=>Rels.drop n r
theorem Rels.rep(h:Rel fz st p d):∀ n:Nat,Rels fz st (List.replicate n p) (List.replicate n d)
 |0=>.nil
 |n+1=>.cons h (Rels.rep h n)
mutual
theorem Rel.ofConst:∀ {d:D}{p:P},ofD d=some p->Rel fz st p d
 |.non,p,h=>by cases h;exact .non
 |.bl b,p,h=>by cases h;exact .bl b
 |.int i,p,h=>by cases h;exact .int i
 |.str x,p,h=>by cases h;exact .str x
 |.tup xs,p,h=>by
  have h:(QL xs).map P.tup=some p:=h;cases q:QL xs with
  |none=>rw[q]at h;cases h
  |some ys=>rw[q]at h;cases h;exact .tup (Rels.ofConst q)
 |.lst _,p,h=>by cases h
 |.dct _ _,p,h=>by cases h
 |.obj _,p,h=>by cases h
 |.kt ks,p,h=>by cases h;exact .kt ks
theorem Rels.ofConst:∀ {ds:Li D}{ps:Li P},QL ds=some ps->Rels fz st ps ds
 |[],ps,h=>by cases h;exact .nil
 |d :: ds,ps,h=>by
  have h:(match ofD d,QL ds with
   |some y,some ys=>some (y :: ys)
   |_,_=>none)=some ps:=h
  split at h
  ·rename_i y ys h1 h2
   cases h;exact .cons (Rel.ofConst h1) (Rels.ofConst h2)
  ·exact Zb h
end
end
def Bd(fz:Fz)(st:Za):Prop:=∀ i,fz i->i < st.length
structure Next(fz:Fz)(st:Za)(fz':Fz)(st':Za):Prop where
 old:∀ i,i < st.length->st'[i]?=st[i]?
 len:st.length<=st'.length
 sub:∀ i,fz i->fz' i
 new:∀ i,fz' i->fz i\/st.length<=i
 bd:Bd fz' st'
variable{α:Type}{m:Bool}
section
variable {fz fz' fz1 fz2:Fz}{st st' st1 st2:Za}
theorem Next.refl(b:Bd fz st):Next fz st fz st:=⟨fun _ _=>rfl,aD _,fun _ h=>h,fun _ h=>.inl h,b⟩
theorem Next.trans(x:Next fz st fz1 st1)(y:Next fz1 st1 fz2 st2):Next fz st fz2 st2:=
 ⟨fun i h=>(y.old i (aJ h x.len)).trans (x.old i h),aG x.len y.len,fun i h=>y.sub i (x.sub i h),fun i h=>(y.new i h).elim (x.new i) fun z=>.inr (aG x.len z),y.bd⟩
theorem Rel.next(b:Bd fz st)(x:Next fz st fz' st')(r:Rel fz st p d):Rel fz' st' p d:=r.mono x.sub fun i h=>x.old i (b i h)
theorem Rels.next{p:Li P}{d:Li D}(b:Bd fz st)(x:Next fz st fz' st')(r:Rels fz st p d):Rels fz' st' p d:=r.mono x.sub fun i h=>x.old i (b i h)
theorem Zkh{l:Li α}{x:α}:(l++[x])[l.length]?=some x:=by simp
theorem JM(b:Bd fz st):Next fz st (fun i=>fz i\/i=st.length) (st++[(m,ds)]):=
 ⟨fun i h=>by rw[bF h],by simp,fun _ h=>.inl h,fun i h=>h.elim .inl fun z=>.inr (by omega),fun i h=>by
  rcases h with h|h
  ·have:=b i h;simp;omega
  ·simp;omega⟩
theorem QO(b:Bd fz st)(r:Rels fz st ps ds):Rel (fun i=>fz i\/i=st.length) (st++[(m,ds)]) (.lst m ps) (.lst st.length):=
 .lst (.inr rfl) Zkh (r.next b (JM b))
end
abbrev Gives(fz:Fz)(st:Za)(r:Res)(p:P):Prop:=∃ d st' fz',r=some (d,st')/\Next fz st fz' st'/\Rel fz' st' p d
def Op1(o:D->Za->Res)(O:P->Ot P):Prop:=∀ fz st x dx p,Bd fz st->Rel fz st x dx->O x=some p->Gives fz st (o dx st) p
def Op2(o:D->D->Za->Res)(O:P->P->Ot P):Prop:=∀ fz st x y dx dy p,Bd fz st->Rel fz st x dx->Rel fz st y dy->O x y=some p->Gives fz st (o dx dy st) p
def Op3(o:D->D->D->Za->Res)(O:P->P->P->Ot P):Prop:=∀ fz st x y z dx dy dz p,Bd fz st->Rel fz st x dx->Rel fz st y dy->Rel fz st z dz->O x y z=some p->Gives fz st (o dx dy dz st) p
abbrev Makes(fz:Fz)(st:Za)(r:Res)(m:Bool)(ps:Li P):Prop:=∃ ds,r=some (.lst st.length,st++[(m,ds)])/\Rels fz st ps ds
def ZkF(o:D->Za->Res)(O:P->Ot P):Prop:=∀ fz st x dx m ps,Bd fz st->Rel fz st x dx->O x=some (.lst m ps)->Makes fz st (o dx st) m ps
variable{st:Za}
theorem Gives.same{fz:Fz}(b:Bd fz st)(r:Rel fz st p d):Gives fz st (some (d,st)) p:=⟨d,st,fz,rfl,Next.refl b,r⟩
theorem Makes.gives{fz:Fz}{r:Res}(b:Bd fz st)(h:Makes fz st r m ps):Gives fz st r (.lst m ps):=by
 obtain⟨ds,e,rr⟩:=h;exact⟨_,_,_,e,JM b,QO b rr⟩
variable{k:Bool}{lo hi:Ot Int}
section
theorem ZaF{fz:Fz}(r:Rels fz st ps ds):ps.isEmpty=ds.isEmpty:=by cases r<;>rfl
theorem Zd5{fz:Fz}(r:Rel fz st p d):scP p=scD d:=by cases r<;>rfl
theorem Ze0{fz:Fz}{qs:Li P}{es:Li D}(r:Rels fz st ps ds)(s:Rels fz st qs es):ZhJ ps qs=Zbo ds es:=by
 unfold ZhJ Zbo;rw[ZaF r,ZaF s]
theorem ZcB{fz:Fz}{q:P}{e:D}(r:Rel fz st p d)(s:Rel fz st q e)(h:eqP p q=some k):eqS st d e=some k:=by
 have tail:(o2 ZcA (scP p) (scP q)).join=some k->(o2 ZcA (scD d) (scD e)).join=some k:=by
  rw[Zd5 r,Zd5 s];exact id
 cases r with
 |tup r=>exact Zb h
 |@lst j m ps ds hz hs r=>
  cases s with
  |@lst j' m' qs es hz' hs' r'=>
   have g:(o2 (fun(c d:Z5)=>Zbo c.2 d.2) st[j]? st[j']?).join=some k:=by
    rw[hs,hs'];show Zbo ds es=some k;rw[<-Ze0 r r'];exact h
   exact g
  |_=>exact Zb h
 |_=>exact tail h
theorem Zc5{fz:Fz}{st:Za}{i:Int}:∀ {ps:Li P}{ds:Li D}{k:Bool},Rels fz st ps ds->inP i ps=some k->Xy i ds=some k
 |_,_,_,.nil,h=>h
 |p :: ps,d :: ds,k,.cons a r,h=>by
  cases a with
  |int j=>
   have h:(inP i ps).map (fun b=>decide (j=i)||b)=some k:=h
   show(Xy i ds).map (fun b=>decide (j=i)||b)=some k
   cases q:inP i ps with
   |none=>rw[q]at h;cases h
   |some k'=>rw[q]at h;rw[Zc5 r q];exact h
  |_=>exact Zb h
theorem Zau{fz:Fz}{st:Za}{i:Str}:∀ {ps:Li P}{ds:Li D}{k:Bool},Rels fz st ps ds->Zc3 i ps=some k->YS i ds=some k
 |_,_,_,.nil,h=>h
 |p :: ps,d :: ds,k,.cons a r,h=>by
  cases a with
  |str j=>
   have h:(Zc3 i ps).map (fun b=>decide (j=i)||b)=some k:=h
   show(YS i ds).map (fun b=>decide (j=i)||b)=some k
   cases q:Zc3 i ps with
   |none=>rw[q]at h;cases h
   |some k'=>rw[q]at h;rw[Zau r q];exact h
  |_=>exact Zb h
theorem Jf{fz:Fz}{i:Int}(r:Rels fz st ps ds)(h:atP ps i=some p):∃ d,atD ds i=some d/\Rel fz st p d:=by
 unfold atP at h;unfold atD;rw[<-r.length];cases q:ixN ps.length i with
 |none=>rw[q]at h;cases h
 |some j=>
  rw[q]at h;exact r.get h
theorem Zak{fz:Fz}(r:Rels fz st ps ds):Rels fz st (UG ps lo hi) (Zbi ds lo hi):=by
 unfold UG Zbi;rw[<-r.length];exact(r.drop _).take _
end
variable{x y:P}{dx dy:D}
section
theorem Zj0:Op1 ZfC ZjP:=by
 intro fz st x dx p b r h;cases r<;>first | (cases h;exact .same b (.int _))|cases h
theorem Zj1:Op1 JH ZfE:=by
 intro fz st x dx p b r h;cases r<;>first | (cases h;exact .same b (.bl _))|cases h
theorem Zif:Op1 QM ZdF:=by
 intro fz st x dx p b r h;cases r<;>first | (cases h;exact .same b (.int _))|cases h
theorem ZjV:Op1 Zc6 Js:=by
 intro fz st x dx p b r h;cases r with
 |bl k=>cases k<;>(cases h;exact .same b (.int _))
 |int i=>cases h;exact .same b (.int _)
 |str x=>
  have h:(match Wn x with
   |some i=>some (P.int i)
   |none=>none)=some p:=h
  have z:Zc6 (.str x) st=(match Wn x with
   |some i=>some (D.int i,st)
   |none=>none):=rfl
  rw[z];cases q:Wn x with
  |none=>rw[q]at h;cases h
  |some i=>rw[q]at h;cases h;exact .same b (.int _)
 |_=>exact Zb h
theorem Zih:Op1 Q1 Zea:=by
 intro fz st x dx p b r h;cases r with
 |int i=>
  have h:(if ZM i=true then some (P.str (Str.ofString (toString i))) else none)=some p:=h
  split at h
  ·rename_i c
   cases h;rw[show Q1 (.int i) st=some (.str (Str.ofString (toString i)),st) from if_pos c];exact .same b (.str _)
  ·exact Zb h
 |_=>exact Zb h
theorem WQ{fz:Fz}{st:Za}:∀ {ps:Li P}{ds:Li D},Rels fz st ps ds->∀ {xs:Li Str},W2 ps=some xs->W1 ds=some xs
 |_,_,.nil,xs,h=>h
 |_,_,.cons a r,xs,h=>by
  cases a with
  |str x=>
   obtain⟨zs,h1,h2⟩:=cZ.mp (show(W2 _).map (x :: ·)=some xs from h);show(W1 _).map (x :: ·)=some xs;rw[WQ r h1,<-h2];rfl
  |_=>exact Zb h
theorem Zic:Op2 Ue Uf:=by
 intro fz st x y dx dy p b r s h;cases r with
 |str x=>
  cases s with
  |@lst k m ps ds hz hs r=>
   have h:(if x.length=0 then WK ps else WJ x ps)=some p:=h
   have z:Ue (.str x) (.lst k) st=(if x.length=0 then Zax ds st else Zaw x ds st):=by unfold Ue;simp only[hs]
   rw[z];split at h
   ·rename_i c
    rw[if_pos c];unfold WK at h;split at h
    ·rename_i xs q
     split at h
     ·rename_i c2
      cases h;unfold Zax;rw[WQ r q];simp only;rw[if_pos c2];exact .same b (.str _)
     ·exact Zb h
    ·exact Zb h
   ·rename_i c
    rw[if_neg c];unfold WJ at h;split at h
    ·rename_i xs q
     split at h
     ·rename_i c2
      cases h;unfold Zaw;rw[WQ r q];simp only;rw[if_pos c2];exact .same b (.str _)
     ·exact Zb h
    ·exact Zb h
  |_=>exact Zb h
 |_=>exact Zb h
theorem Zig:Op2 QS ZdW:=by
 intro fz st x y dx dy p b r s h;cases r with
 |int i=>
  cases s with
  |int j=>
   have h:(if ZP i j 1=true then some (P.dct [] [.int i,.int j]) else none)=some p:=h
   split at h
   ·rename_i c
    cases h;rw[show QS (.int i) (.int j) st=some (.dct [] [.int i,.int j],st) from if_pos c];exact .same b (.dct (.cons (.int _) (.cons (.int _) .nil)))
   ·exact Zb h
  |_=>exact Zb h
 |_=>exact Zb h
theorem Zdz:Op2 Vj Vk:=by
 intro fz st x y dx dy p b r s h;cases r with
 |str x=>
  cases s with
  |tup r=>cases r with
   |nil=>exact Zb h
   |cons a r=>cases r with
    |cons _ _=>cases a<;>cases h
    |nil=>cases a with
     |str y=>cases h;exact .same b (.bl _)
     |_=>exact Zb h
  |_=>exact Zb h
 |_=>exact Zb h
theorem Zid:Op1 XV Jy:=by
 intro fz st x dx p b r h;cases r with
 |@tup ps ds r=>
  cases h;rw[r.length];exact .same b (.int _)
 |@lst j m ps ds hz hs r=>
  cases h;have e:XV (.lst j) st=some (.int ds.length,st):=by unfold XV Zbz;simp only[hs]
  rw[e,r.length];exact .same b (.int _)
 |str x=>
  have h:(if x.length<=Ze then some (P.int x.length) else none)=some p:=h
  split at h
  ·rename_i c
   cases h;have e:XV (.str x) st=some (.int x.length,st):=by
    unfold XV Zbz;simp only;rw[if_pos c]
   rw[e];exact .same b (.int _)
  ·exact Zb h
 |_=>exact Zb h
theorem ZjW(T:Ty):Op1 (Ju T) (Zdd T):=by
 intro fz st x dx p b r h;obtain⟨k,e,rfl⟩:=cZ.mp (show(ZhY T x).map P.bl=some p from h);have z:ZhY T x=Zfs T dx:=by cases r<;>rfl
 rw[z]at e;unfold Ju;rw[e];exact .same b (.bl k)
theorem Zjv:ZkF JD Zdm:=by
 intro fz st x dx m ps b r h;cases r with
 |@tup ps ds r=>cases h;exact⟨ds,rfl,r⟩
 |_=>exact Zb h
theorem ZjX:Op1 JD Zdm:=by
 intro fz st x dx p b r h;cases r with
 |@tup ps ds r=>cases h;exact(Zjv fz st _ _ true ps b (.tup r) rfl).gives b
 |_=>exact Zb h
theorem ZfI:Op1 XL U7:=by
 intro fz st x dx p b r h;cases r with
 |@tup ps ds r=>cases h;exact .same b (.tup r)
 |@lst j m ps ds hz hs r=>
  cases h;have e:XL (.lst j) st=some (.tup ds,st):=by unfold XL;simp only[hs]
  rw[e];exact .same b (.tup r)
 |_=>exact Zb h

theorem Zib:Op2 Xr V5:=by
 intro fz st x y dx dy p b r s h;cases s with
 |@tup ps ds s=>
  have h:(if ps.length < 1000 then some (P.tup (x :: ps)) else none)=some p:=h
  split at h
  ·rename_i c
   cases h;have e:Xr dx (.tup ds) st=some (.tup (dx :: ds),st):=by unfold Xr;simp only;rw[s.length]at c;rw[if_pos c]
   rw[e];exact .same b (.tup (.cons r s))
  ·exact Zb h
 |_=>exact Zb h
theorem ZjZ:Op2 Zfy Zh8:=by
 intro fz st x y dx dy p b r s h;cases r with
 |int i=>
  cases s with
  |int j=>cases h;exact .same b (.int _)
  |_=>exact Zb h
 |_=>exact Zb h
theorem ZjY:Op2 Zfw Zh7:=by
 intro fz st x y dx dy p b r s h;cases r with
 |int i=>
  cases s with
  |int j=>cases h;exact .same b (.int _)
  |_=>exact Zb h
 |_=>exact Zb h
theorem Wx{fz:Fz}{st:Za}:∀ l:Li Str,Rels fz st (l.map P.str) (l.map D.str)
 |[]=>.nil
 |k :: l=>.cons (.str _) (Wx l)
theorem Zk5:Op2 ixR ixP:=by
 intro fz st x y dx dy p b r s h;cases r with
 |@tup ps ds r=>
  cases s with
  |int j=>
   obtain⟨d,e,q⟩:=Jf r h;have e:ixR (.tup ds) (.int j) st=some (d,st):=by unfold ixR ixD;simp only[e]
   rw[e];exact .same b q
  |_=>exact Zb h
 |@lst k m ps ds hz hs r=>
  cases s with
  |int j=>
   obtain⟨d,e,q⟩:=Jf r h;have e:ixR (.lst k) (.int j) st=some (d,st):=by unfold ixR ixD;simp only[hs,e]
   rw[e];exact .same b q
  |_=>exact Zb h
 |str x=>
  cases s with
  |int j=>
   have h:(if x.length<=Ze then atP ((chS x).map .str) j else none)=some p:=h
   split at h
   ·rename_i c
    obtain⟨d,e,q⟩:=Jf (Wx (fz:=fz) (st:=st) (chS x)) h;have e:ixR (.str x) (.int j) st=some (d,st):=by
     unfold ixR ixD;simp only;rw[if_pos c,e]
    rw[e];exact .same b q
   ·exact Zb h
  |_=>exact Zb h
 |_=>exact Zb h
theorem Vg{f:Int->Int->Bool}{fz:Fz}(r:Rel fz st x dx)(s:Rel fz st y dy)(h:ZdE f x y=some k):JI f dx dy=some k:=by
 cases r with
 |int i=>
  cases s with
  |int j=>exact h
  |_=>exact Zb h
 |_=>exact Zb h
theorem Zh6{fz:Fz}(r:Rel fz st x dx)(s:Rel fz st y dy)(h:ltP x y=some k):ltD dx dy=some k:=by
 exact Vg r s h
theorem Zfv{fz:Fz}(r:Rel fz st x dx)(s:Rel fz st y dy)(h:ZjL x y=some k):ltS st dx dy=some k:=by
 exact Zh6 r s h
theorem UT{a b:Ot Bool}{f:Bool->Bool}{k:Bool}(h:∀ k,a=some k->b=some k)(e:a.map f=some k):b.map f=some k:=by
 cases q:a with
 |none=>rw[q]at e;cases e
 |some k'=>rw[h k' q];rw[q]at e;exact e
theorem Zat{fz:Fz}(r:Rel fz st x dx)(s:Rel fz st y dy)(h:ZhT x y=some k):inS st dx dy=some k:=by
 cases r with
 |int i=>
  cases s with
  |tup rr=>exact Zc5 rr h
  |_=>exact Zb h
 |str z=>
  cases s with
  |tup rr=>exact Zau rr h
  |str w=>exact h
  |kt ks=>exact h
  |_=>exact Zb h
 |_=>exact Zb h
theorem Zav{fz:Fz}(r:Rel fz st x dx)(s:Rel fz st y dy)(h:ZhX x y=some k):isD dx dy=some k:=by
 cases s with
 |non=>cases r<;>first|exact h|cases h
 |bl b=>cases r<;>first|exact h|cases h
 |_=>exact Zb h
theorem Zj2:Op2 Zec Zkk:=by
 intro fz st x y dx dy p b r s h;cases r with
 |str z=>
  cases s with
  |@tup ps ds s=>
   cases s with
   |nil=>exact Zb h
   |cons a s=>
    cases s with
    |cons _ _=>cases a<;>cases h
    |nil=>
     cases a with
     |str k=>
      have h:(if k.length=1/\z.length<=Ze then some (P.lst true ((XJ z k).map .str)) else none)=some p:=h
      split at h
      ·rename_i c
       cases h;have e:Zec (.str z) (.tup [.str k]) st=some (.lst st.length,st++[(true,(XJ z k).map .str)]):=if_pos c;exact Makes.gives b ⟨_,e,Wx _⟩
      ·exact Zb h
     |_=>exact Zb h
  |_=>exact Zb h
 |_=>exact Zb h
theorem Zie(ks:Li Str)(ds:Li D):Op1 (Ug ks ds) (JB ks ds):=by
 intro fz st x dx p b r h;cases r with
 |str k=>
  have h:(YZ ks ds k).bind ofD=some p:=h;cases q:YZ ks ds k with
  |none=>rw[q]at h;cases h
  |some d=>
   rw[q]at h;have e:Ug ks ds (.str k) st=some (d,st):=by unfold Ug;simp only[q]
   rw[e];exact .same b (Rel.ofConst h)
 |_=>exact Zb h
theorem V2{fz:Fz}{st:Za}:∀ {ps:Li P}{ds:Li D}{bs:Li Bool},Rels fz st ps ds->Xn ps=some bs->Xl ds=some bs
 |_,_,_,.nil,h=>h
 |p :: ps,d :: ds,bs,.cons a r,h=>by
  cases a with
  |bl b=>
   have h:(Xn ps).map (b :: ·)=some bs:=h;show(Xl ds).map (b :: ·)=some bs;cases q:Xn ps with
   |none=>rw[q]at h;cases h
   |some l=>rw[q]at h;rw[V2 r q];exact h
  |_=>exact Zb h
theorem ZfG(f:Li Bool->Bool):Op1 (WN f) (WO f):=by
 intro fz st x dx p b r h;cases r with
 |@lst j m ps ds hz hs r=>
  unfold WO at h;simp only at h;split at h
  ·rename_i bs q
   cases h;have e:WN f (.lst j) st=some (.bl (f bs),st):=by unfold WN;simp only[hs,V2 r q]
   rw[e];exact .same b (.bl _)
  ·exact Zb h
 |_=>exact Zb h
theorem ZjU(op:CmpOp):Op2 (Xp op) (Xh op):=by
 intro fz st x y dx dy p b r s h;have h:(ZhE op x y).map P.bl=some p:=h;cases q:ZhE op x y with
 |none=>rw[q]at h;cases h
 |some k=>
  rw[q]at h;cases h
  have e:X6 op dx dy st=some k:=by
   cases op with
   |Lt=>exact Zfv r s q
   |LtE=>exact Vg r s q
   |Gt=>exact Vg r s q
   |GtE=>exact Vg r s q
   |Eq=>exact ZcB r s q
   |NotEq=>exact UT (fun k=>ZcB r s) q
   |In=>exact Zat r s q
   |NotIn=>
    replace q:niP x y=some k:=q;show niS st dx dy=some k;cases s with
    |dct _=>exact Zb q
    |_=>exact UT (fun k=>Zat r (by constructor<;>assumption)) q
   |Is=>exact Zav r s q
   |IsNot=>exact UT (fun k=>Zav r s) q
  have e2:Xp op dx dy st=some (.bl k,st):=by unfold Xp;rw[e]
  rw[e2];exact .same b (.bl k)
theorem ZeM{op:Operator}{fz:Fz}(b:Bd fz st)(r:Rel fz st x dx)(s:Rel fz st y dy)(h:W4 op x y=some p):(∃ d,UC op dx dy st=some (d,st)/\Rel fz st p d/\∀ m ps,p≠.lst m ps)\/∃ ps,p=.lst true ps/\Makes fz st (UC op dx dy st) true ps:=by
 cases r with
 |@lst ja ma pa da hz hs rr=>
  cases s with
  |@lst jb mb pb db hz' hs' rr'=>
   have h:(if XZ op=true/\pa.length+pb.length<=Ze then some (P.lst true (pa++pb)) else none)=some p:=h
   split at h
   ·rename_i c
    cases h;refine .inr ⟨_,rfl,_,?_,rr.append rr'⟩;show(if XZ op=true then Zbd ja jb st else none)=_
    unfold Zbd;rw[if_pos c.1,hs,hs'];exact if_pos (by rw[<-rr.length,<-rr'.length];exact c.2)
   ·exact Zb h
  |int j=>
   have h:(if WW op=true then Zg1 ma pa j else none)=some p:=h
   split at h
   ·rename_i c
    cases ma with
    |false=>exact Zb h
    |true=>cases rr with
     |nil=>exact Zb h
     |@cons p0 _ _ _ a rr=>cases rr with
      |cons _ _=>exact Zb h
      |nil=>
       have h:(if j<=1000/\-1000<=j then some (P.lst true (List.replicate j.toNat p0)) else none)=some p:=h
       split at h
       ·rename_i c2
        cases h;refine .inr ⟨_,rfl,_,?_,Rels.rep a _⟩;show(if WW op=true then ZfV ja j st else none)=_
        unfold ZfV;rw[if_pos c,hs];exact if_pos c2
       ·exact Zb h
   ·exact Zb h
  |_=>exact Zb h
 |@tup pa da r1=>cases s with
  |int j=>
   have h:(if WW op=true then Zg2 pa j else none)=some p:=h
   split at h
   ·rename_i c
    cases r1 with
    |nil=>exact Zb h
    |@cons p0 d0 _ _ a r1=>cases r1 with
     |cons _ _=>exact Zb h
     |nil=>
      have h:(if j<=1000/\-1000<=j then some (P.tup (List.replicate j.toNat p0)) else none)=some p:=h
      split at h
      ·rename_i c2
       cases h;exact .inl ⟨_,(if_pos c).trans (if_pos c2),.tup (Rels.rep a _),fun _ _ z=>nomatch z⟩
      ·exact Zb h
   ·exact Zb h
  |_=>exact Zb h
 |int i=>cases s with
  |int j=>
   have h:(match Jh op i j with
    |some k=>some (P.int k)
    |none=>none)=some p:=h
   have z:UC op (.int i) (.int j) st=(match Jh op i j with
    |some k=>some (D.int k,st)
    |none=>none):=rfl
   rw[z];cases q:Jh op i j with
   |none=>rw[q]at h;cases h
   |some k=>rw[q]at h;cases h;exact .inl ⟨_,rfl,.int _,fun _ _ z=>nomatch z⟩
  |_=>exact Zb h
 |str x=>cases s with
  |str y=>
   have h:(if XZ op=true/\x.length+y.length<=Ze then some (P.str (x++y)) else none)=some p:=h
   split at h
   ·rename_i c
    cases h;exact .inl ⟨_,if_pos c,.str _,fun _ _ z=>nomatch z⟩
   ·exact Zb h
  |_=>exact Zb h
 |_=>exact Zb h
theorem ZjT(op:Operator):Op2 (UC op) (W4 op):=by
 intro fz st x y dx dy p b r s h;rcases ZeM b r s h with⟨d,e,rp,_⟩|⟨qs,e,mk⟩
 ·rw[e];exact .same b rp
 ·cases e;exact mk.gives b
theorem Zgq{fz:Fz}(b:Bd fz st)(r:Rel fz st x dx)(h:Yf x lo hi=some p):(∃ d,Ye dx lo hi st=some (d,st)/\Rel fz st p d/\∀ m ps,p≠.lst m ps)\/∃ ps,p=.lst true ps/\Makes fz st (Ye dx lo hi st) true ps:=by
 cases r with
 |@tup ps ds r=>
  have h:(if sIx ps.length 0 lo=0/\sIx ps.length ps.length hi=ps.length then some (P.tup ps) else some (P.tup (UG ps lo hi)))=some p:=h
  split at h
  ·rename_i c
   cases h;refine .inl ⟨_,?_,.tup r,fun _ _ z=>nomatch z⟩
   unfold Ye;simp only;rw[if_pos (by rw[<-r.length];exact c)]
  ·rename_i c
   cases h;refine .inl ⟨_,?_,.tup (Zak r),fun _ _ z=>nomatch z⟩
   unfold Ye;simp only;rw[if_neg (by rw[<-r.length];exact c)]
 |@lst j m ps ds hz hs r=>
  cases h;refine .inr ⟨_,rfl,_,?_,Zak r⟩;unfold Ye;simp only[hs]
 |str x=>
  have h:(if x.length<=Ze then some (P.str (WF x lo hi)) else none)=some p:=h
  split at h
  ·rename_i c
   cases h;exact .inl ⟨_,if_pos c,.str _,fun _ _ z=>nomatch z⟩
  ·exact Zb h
 |_=>exact Zb h
theorem ZiO{fz:Fz}{z:P}{dx dz:D}(s1:Rel fz st y dy)(s2:Rel fz st z dz)(h:VP x y z=some p):∃ lo hi,Yf x lo hi=some p/\∀ dx,Wc dx dy dz st=Ye dx lo hi st:=by
 unfold VP at h;split at h
 ·cases s1;cases s2;exact⟨_,_,h,fun _=>rfl⟩
 ·cases s1;cases s2;exact⟨_,_,h,fun _=>rfl⟩
 ·cases s1;cases s2;exact⟨_,_,h,fun _=>rfl⟩
 ·cases s1;cases s2;exact⟨_,_,h,fun _=>rfl⟩
 ·exact Zb h
theorem ZfH:Op3 Wc VP:=by
 intro fz st x y z dx dy dz p b r s1 s2 h;obtain⟨lo,hi,h0,e⟩:=ZiO (dx:=dx) s1 s2 h;rw[e];rcases Zgq b r h0 with⟨d,e1,rr,_⟩|⟨ps,rfl,mk⟩
 ·rw[e1];exact .same b rr
 ·exact mk.gives b
end
noncomputable abbrev PFn:=Nat->Li P->Ot P
def WS(F:Nat->Fn)(G:PFn):Prop:=∀ i ps p,G i ps=some p->∀ fz st ds,Bd fz st->Rels fz st ps ds->Gives fz st (F i ds st) p
def EnvAll(fz:Fz)(st:Za)(π:ZH)(ρ:Env):Prop:=∀ (i:Nat) (p:P),π[i]?=some (some p)->∃ d,ρ[i]?=some (some d)/\Rel fz st p d
theorem EnvAll.next{fz fz':Fz}{st':Za}{π:ZH}{ρ:Env}(b:Bd fz st)(x:Next fz st fz' st')(h:EnvAll fz st π ρ):EnvAll fz' st' π ρ:=fun i p e=>
 let ⟨d,e1,r⟩:=h i p e;⟨d,e1,r.next b x⟩
def SEP(f:Ev)(g:PEv):Prop:=∀ π p,g π=some p->∀ fz st ρ,Bd fz st->EnvAll fz st π ρ->Gives fz st (f ρ st) p
variable{rng:Bool}{xs:Li P}{bd:D->Li (Ot D)}{gw:P->Ot (Li P)}{dw:D->Za->Ot (Li D×(Za->Prop))}{fr:Li Nat}{gi ge:PEv}
section
variable {f fa fb fc:Ev}{g ga gb gc:PEv}
theorem s1{o:D->Za->Res}{O:P->Ot P}(h:SEP f g)(k:Op1 o O):SEP (Zo f o) (pq1 g O):=by
 intro π p e fz st ρ b E;unfold pq1 at e;split at e
 ·rename_i x q
  obtain⟨d,st1,fz1,e1,n1,r1⟩:=h π x q fz st ρ b E;obtain⟨d2,st2,fz2,e2,n2,r2⟩:=k fz1 st1 x d p n1.bd r1 e;exact⟨d2,st2,fz2,by unfold Zo;rw[e1];exact e2,n1.trans n2,r2⟩
 ·exact Zb e
theorem s2{o:D->D->Za->Res}{O:P->P->Ot P}(ha:SEP fa ga)(hb:SEP fb gb)(k:Op2 o O):SEP (Zz fa fb o) (pq2 ga gb O):=by
 intro π p e fz st ρ b E;unfold pq2 at e;split at e
 ·rename_i x q
  split at e
  ·rename_i y q'
   obtain⟨d,st1,fz1,e1,n1,r1⟩:=ha π x q fz st ρ b E;obtain⟨d2,st2,fz2,e2,n2,r2⟩:=hb π y q' fz1 st1 ρ n1.bd (E.next b n1);obtain⟨d3,st3,fz3,e3,n3,r3⟩:=k fz2 st2 x y d d2 p n2.bd (r1.next n1.bd n2) r2 e;exact⟨d3,st3,fz3,by unfold Zz;rw[e1];simp only[e2];exact e3,(n1.trans n2).trans n3,r3⟩
  ·exact Zb e
 ·exact Zb e
theorem s3{o:D->D->D->Za->Res}{O:P->P->P->Ot P}(ha:SEP fa ga)(hb:SEP fb gb)(hc:SEP fc gc)(k:Op3 o O):SEP (JS fa fb fc o) (pq3 ga gb gc O):=by
 intro π p e fz st ρ b E;unfold pq3 at e;split at e
 ·rename_i x q
  split at e
  ·rename_i y q'
   split at e
   ·rename_i z q''
    obtain⟨d,st1,fz1,e1,n1,r1⟩:=ha π x q fz st ρ b E;obtain⟨d2,st2,fz2,e2,n2,r2⟩:=hb π y q' fz1 st1 ρ n1.bd (E.next b n1);obtain⟨d3,st3,fz3,e3,n3,r3⟩:=hc π z q'' fz2 st2 ρ n2.bd (E.next b (n1.trans n2));obtain⟨d4,st4,fz4,e4,n4,r4⟩:=k fz3 st3 x y z d d2 d3 p n3.bd (r1.next n1.bd (n2.trans n3)) (r2.next n2.bd n3) r3 e;exact⟨d4,st4,fz4,by unfold JS;rw[e1];simp only[e2,e3];exact e4,((n1.trans n2).trans n3).trans n4,r4⟩
   ·exact Zb e
  ·exact Zb e
 ·exact Zb e
theorem sC(h:∀ fz st,Rel fz st p d):SEP (evC d) (fun _=>some p):=by
 intro π q e fz st ρ b E;cases e;exact .same b (h fz st)
theorem ZdY(hc:SEP fc gc)(ha:SEP fa ga)(hb:SEP fb gb):SEP (Yi fc fa fb) (VH gc ga gb):=by
 intro π p e fz st ρ b E;unfold VH at e;split at e
 ·rename_i q
  obtain⟨d,st1,fz1,e1,n1,r1⟩:=hc π _ q fz st ρ b E;cases r1;obtain⟨d2,st2,fz2,e2,n2,r2⟩:=ha π p e fz1 st1 ρ n1.bd (E.next b n1);exact⟨d2,st2,fz2,by unfold Yi;rw[e1];exact e2,n1.trans n2,r2⟩
 ·rename_i q
  obtain⟨d,st1,fz1,e1,n1,r1⟩:=hc π _ q fz st ρ b E;cases r1;obtain⟨d2,st2,fz2,e2,n2,r2⟩:=hb π p e fz1 st1 ρ n1.bd (E.next b n1);exact⟨d2,st2,fz2,by unfold Yi;rw[e1];exact e2,n1.trans n2,r2⟩
 ·exact Zb e
theorem Zlt(i:Nat):SEP (ZV i) (YG i):=by
 intro π p e fz st ρ b E;unfold YG at e;split at e
 ·rename_i q
  cases e;obtain⟨d,e1,r⟩:=E i _ q;exact⟨d,st,fz,by unfold ZV;rw[e1],Next.refl b,r⟩
 ·exact Zb e
theorem Rel.mk{fz:Fz}{st st2:Za}{p:P}{d:D}(r:Rel fz st p d):Wr (some (d,st2))=some (d,st2):=by cases r<;>rfl
theorem Zka{F:Fn}{G:Li P->Ot P}(hF:∀ ps p,G ps=some p->∀ fz st es,Bd fz st->Rels fz st ps es->Gives fz st (F es st) p):Op1 (Qj F ds) (Zch G ds):=by
 intro fz st x dx p b r h;cases r with
 |@tup ps es r=>
  have h:(match QL ds with
   |some es=>G (ps++es)
   |none=>none)=some p:=h
  split at h
  ·rename_i qs q
   obtain⟨d,st',fz',e1,n1,r1⟩:=hF _ p h fz st (es++ds) b (r.append (Rels.ofConst q));exact⟨d,st',fz',by show Wr (F (es++ds) st)=_;rw[e1];exact r1.mk,n1,r1⟩
  ·exact Zb h
 |_=>exact Zb h
theorem ZbK{fz:Fz}(n:Nat):Rels fz st ((List.range n).map fun(k:Nat)=>P.int (k:Int)) ((List.range n).map fun(k:Nat)=>D.int (k:Int)):=by
 generalize List.range n=l
 induction l with
 |nil=>exact .nil
 |cons a l ih=>exact .cons (.int _) ih
theorem Zbv{fz:Fz}(r:Rel fz st x dx)(h:Jv rng x=some xs):∃ ds,UO rng dx=some ds/\Rels fz st xs ds:=by
 cases rng with
 |true=>
  cases r with
  |int n=>
   have h:(if n < 2 ^ 62/\-(2 ^ 62)<=n then some (Xe n) else none)=some xs:=h
   split at h
   ·rename_i c
    cases h;refine⟨_,by unfold UO;simp only;rw[if_pos c],ZbK _⟩
   ·exact Zb h
  |_=>exact Zb h
 |false=>
  cases r<;>cases h
theorem Uc{fz:Fz}{st:Za}:∀ (l:Li Int),Rels fz st (l.map P.int) (l.map D.int)
 |[]=>.nil
 |i :: l=>.cons (.int i) (Uc l)
theorem ZbQ{fz:Fz}(b:Bd fz st)(r:Rel fz st x dx)(h:Xi rng x=some xs):∃ ds ok,Q4 rng dx st=some (ds,ok)/\Rels fz st xs ds/\∀ fz' st',Next fz st fz' st'->ok st':=by
 unfold Xi at h;split at h
 ·rename_i ys q
  cases h;obtain⟨ds,e,rr⟩:=Zbv r q;exact⟨ds,_,by unfold Q4;rw[e],rr,fun _ _ _=>trivial⟩
 ·split at h
  ·rename_i x _
   split at h
   ·rename_i c
    cases h;cases r;refine⟨(chS x).map D.str,fun _=>True,?_,Wx _,fun _ _ _=>trivial⟩
    unfold Q4 UO;simp only;rw[if_pos c]
   ·cases h
  ·cases h
   cases r with
   |dct r=>cases r with
    |cons r1 r=>cases r with
     |cons r2 r=>
      cases r;cases r1;cases r2
      exact⟨_,fun _=>True,rfl,Uc _,fun _ _ _=>trivial⟩
  ·cases h
theorem Q7{fz:Fz}{st:Za}:∀ {xs ys:Li P}{ds es:Li D},Rels fz st xs ds->Rels fz st ys es->Rels fz st (ZaZ xs ys) (Q5 ds es)
 |_,_,_,_,.nil,_=>.nil
 |_,_,_,_,.cons _ _,.nil=>.nil
 |_,_,_,_,.cons a r,.cons b s=>.cons (.tup (.cons a (.cons b .nil))) (Q7 r s)
theorem ZbS{fz:Fz}(b:Bd fz st)(r:Rel fz st x dx)(h:WR x=some xs):∃ ds ok,VX dx st=some (ds,ok)/\Rels fz st xs ds/\∀ fz' st',Next fz st fz' st'->ok st':=by
 unfold WR at h;split at h
 ·cases h
  cases r with
  |tup r=>cases r with
   |cons a r=>cases r with
    |cons c r=>
     cases r;cases a with
     |@lst j m _ ds hz hs ra=>cases c with
      |@tup _ es rc=>exact⟨Q5 ds es,fun s=>s[j]?=some (_,ds),by unfold VX;simp only[hs],Q7 ra rc,fun fz' st' n=>(n.old j (b j hz)).trans hs⟩
 ·cases h
def Qa(gb:P->Li (Ot P))(bd:D->Li (Ot D)):Prop:=∀ fz st x d,Rel fz st x d->(gb x).length=(bd d).length/\EnvAll fz st (gb x) (bd d)
theorem ZfK:Qa Zil one:=fun fz st x d r=>⟨rfl,fun i p e=>by
 cases i with
 |zero=>cases e;exact⟨d,rfl,r⟩
 |succ i=>exact nomatch (show(none:Ot (Ot P))=some (some p) from e)⟩
theorem Zgw:Qa JL two:=fun fz st x d r=>by
 have no:∀ {l:Li (Ot D)},EnvAll fz st [] l:=fun i p e=>nomatch (show(none:Ot (Ot P))=some (some p) from e)
 cases r with
 |tup r=>cases r with
  |nil=>exact⟨rfl,no⟩
  |cons a r=>cases r with
   |nil=>exact⟨rfl,no⟩
   |cons b r=>cases r with
    |cons c r=>exact⟨rfl,no⟩
    |nil=>exact⟨rfl,fun i p e=>by
     cases i with
     |zero=>cases e;exact⟨_,rfl,a⟩
     |succ i=>cases i with
      |zero=>cases e;exact⟨_,rfl,b⟩
      |succ i=>exact nomatch (show(none:Ot (Ot P))=some (some p) from e)⟩
 |_=>exact⟨rfl,no⟩
theorem Vs{gb:P->Li (Ot P)}{bd:D->Li (Ot D)}(hb:Qa gb bd){ok:Za->Prop}{fe fc:Ev}{ge gc:PEv}(he:SEP fe ge)(hc:SEP fc gc){fr:Li Nat}{π:ZH}{ρ:Env}:∀ {xs:Li P}{ds:Li D}{ys:Li P}{fz:Fz}{st:Za},Bd fz st->EnvAll fz st π ρ->Rels fz st xs ds->(∀ fz' st',Next fz st fz' st'->ok st')->
   Yv (fun p=>ge (X0 gb π fr p)) (fun p=>gc (X0 gb π fr p)) xs=some ys->∃ es st' fz',Yh ok (fun d s=>fe (YR bd ρ fr d) s) (fun d s=>fc (YR bd ρ fr d) s) ds st=some (es,st')/\Next fz st fz' st'/\Rels fz' st' ys es
 |_,_,ys,fz,st,b,E,.nil,hok,h=>by cases h;exact⟨[],st,fz,if_pos (hok _ _ (Next.refl b)),Next.refl b,.nil⟩
 |x :: xs,d :: ds,ys,fz,st,b,E,.cons a r,hok,h=>by
  have ok0:=hok _ _ (Next.refl b);obtain⟨hl,hbe⟩:=hb fz st x d a;have E1:EnvAll fz st (X0 gb π fr x) (YR bd ρ fr d):=by
   intro i p e;unfold X0 at e;unfold YR;by_cases hi:i < (gb x).length
   ·rw[bF hi]at e
    rw[bF (by rw[<-hl];exact hi)]
    exact hbe i p e
   ·have hi:(gb x).length<=i:=dG hi
    rw[aY hi,aX]at e;rw[aY (by rw[<-hl];exact hi),aX,<-hl]
    cases q:fr[i - (gb x).length]? with
    |none=>rw[q]at e;cases e
    |some k=>
     rw[q]at e;have e:(π[k]?).join=some p:=by simpa using e
     have e2:π[k]?=some (some p):=by
      cases q2:π[k]? with
      |none=>rw[q2]at e;cases e
      |some o=>rw[q2]at e;rw[show o=some p from e]
     obtain⟨d',e3,r3⟩:=E k p e2;exact⟨d',by simp[e3],r3⟩
  unfold Yv at h;split at h
  ·rename_i q
   split at h
   ·rename_i y q1
    split at h
    ·rename_i zs q2
     cases h;obtain⟨dc,st1,fz1,e1,n1,r1⟩:=hc _ _ q fz st _ b E1;cases r1;obtain⟨dy,st2,fz2,e2,n2,r2⟩:=he _ _ q1 fz1 st1 _ n1.bd (E1.next b n1);obtain⟨es,st3,fz3,e3,n3,r3⟩:=Vs hb he hc n2.bd (E.next b (n1.trans n2)) (r.next b (n1.trans n2)) (fun _ _ n=>hok _ _ ((n1.trans n2).trans n)) q2
     refine⟨dy :: es,st3,fz3,?_,(n1.trans n2).trans n3,.cons (r2.next n2.bd n3) r3⟩;unfold Yh;rw[if_pos ok0];simp only[e1,e2,e3]
    ·exact Zb h
   ·exact Zb h
  ·rename_i q
   obtain⟨dc,st1,fz1,e1,n1,r1⟩:=hc _ _ q fz st _ b E1;cases r1;obtain⟨es,st3,fz3,e3,n3,r3⟩:=Vs hb he hc n1.bd (E.next b n1) (r.next b n1) (fun _ _ n=>hok _ _ (n1.trans n)) h
   refine⟨es,st3,fz3,?_,n1.trans n3,r3⟩;unfold Yh;rw[if_pos ok0];simp only[e1];exact e3
  ·exact Zb h
theorem ZiB{gb:P->Li (Ot P)}(hb:Qa gb bd)(hw:∀ {fz:Fz}{st:Za}{x:P}{dx:D}{xs:Li P},Bd fz st->Rel fz st x dx->gw x=some xs->∃ ds ok,dw dx st=some (ds,ok)/\Rels fz st xs ds/\∀ fz' st',Next fz st fz' st'->ok st'){fi fe:Ev}(hi:SEP fi gi)(he:SEP fe ge)(hc:SEP fc gc){π:ZH}(e:Xd gb gw fr gi ge gc π=some p){fz:Fz}{st:Za}{ρ:Env}(b:Bd fz st)(E:EnvAll fz st π ρ) :
  ∃ ps ds st1 fz1,p=.lst true ps/\Vr bd dw fr fi fe fc ρ st=some (.lst st1.length,st1++[(true,ds)])/\Next fz st fz1 st1/\Rels fz1 st1 ps ds:=by
 unfold Xd at e;split at e
 ·rename_i x q
  split at e
  ·rename_i xs q1
   split at e
   ·rename_i c
    split at e
    ·rename_i ys q2
     cases e;obtain⟨d,st1,fz1,e1,n1,r1⟩:=hi π x q fz st ρ b E;obtain⟨ds,ok,e2,r2,hok⟩:=hw n1.bd r1 q1;obtain⟨es,st3,fz3,e3,n3,r3⟩:=Vs hb he hc (fr:=fr) n1.bd (E.next b n1) r2 hok q2;refine⟨ys,es,st3,fz3,rfl,?_,n1.trans n3,r3⟩;unfold Vr;simp only[e1,e2];rw[if_pos (by rw[<-r2.length];exact c)]
     simp only[e3]
    ·exact Zb e
   ·exact Zb e
  ·exact Zb e
 ·exact Zb e
theorem Zg4{gb:P->Li (Ot P)}(hb:Qa gb bd)(hw:∀ {fz:Fz}{st:Za}{x:P}{dx:D}{xs:Li P},Bd fz st->Rel fz st x dx->gw x=some xs->∃ ds ok,dw dx st=some (ds,ok)/\Rels fz st xs ds/\∀ fz' st',Next fz st fz' st'->ok st'){fi fe:Ev}(hi:SEP fi gi)(he:SEP fe ge)(hc:SEP fc gc):SEP (Vr bd dw fr fi fe fc) (Xd gb gw fr gi ge gc):=by
 intro π p e fz st ρ b E;obtain⟨ps,ds,st1,fz1,rfl,e1,n1,r1⟩:=ZiB hb hw hi he hc e b E;exact⟨_,_,_,e1,n1.trans (JM n1.bd),QO n1.bd r1⟩
end
theorem sN{f:Ev}:SEP f fun _=>none:=fun _ _ e=>nomatch e
theorem Zd{F:Nat->Fn}{G:PFn}(hF:WS F G):∀ e:CE,SEP (ev F e) (pe G e)
 |.var i=>Zlt i
 |.cst d=>by
  intro π p e fz st ρ b E;exact .same b (Rel.ofConst e)
 |.bin op a b=>s2 (Zd hF a) (Zd hF b) (ZjT op)
 |.neg a=>s1 (Zd hF a) Zj0
 |.cmp op a b=>s2 (Zd hF a) (Zd hF b) (ZjU op)
 |.not a=>s1 (Zd hF a) Zj1
 |.and a b=>ZdY (Zd hF a) (Zd hF b) (sC fun _ _=>.bl false)
 |.or a b=>ZdY (Zd hF a) (sC fun _ _=>.bl true) (Zd hF b)
 |.ife c a b=>ZdY (Zd hF c) (Zd hF a) (Zd hF b)
 |.tupE a=>Zd hF a
 |.lstE a=>s1 (Zd hF a) ZjX
 |.aN=>sC fun _ _=>.tup .nil
 |.aC a r=>s2 (Zd hF a) (Zd hF r) Zib
 |.ix a b=>s2 (Zd hF a) (Zd hF b) Zk5
 |.slice a lo hi=>s3 (Zd hF a) (Zd hF lo) (Zd hF hi) ZfH
 |.nop=>sC fun _ _=>.non
 |.part a=>s1 (Zd hF a) Zif
 |.call f a ds=>s1 (Zd hF a) (Zka (hF f))
 |.len a=>s1 (Zd hF a) Zid
 |.tOf a=>s1 (Zd hF a) ZfI
 |.intOf a=>s1 (Zd hF a) ZjV
 |.min a b=>s2 (Zd hF a) (Zd hF b) ZjZ
 |.max a b=>s2 (Zd hF a) (Zd hF b) ZjY
 |.isi T a=>s1 (Zd hF a) (ZjW T)
 |.look ks ds a=>s1 (Zd hF a) (Zie ks ds)
 |.all a=>s1 (Zd hF a) (ZfG _)
 |.comp rng fr it elt cnd=>Zg4 ZfK ZbQ (Zd hF it) (Zd hF elt) (Zd hF cnd)
 |.comp2 fr it elt cnd=>Zg4 Zgw ZbS (Zd hF it) (Zd hF elt) (Zd hF cnd)
 |.tix o a=>s2 (Zd hF o) (Zd hF a) Zj2
 |.strOf a=>s1 (Zd hF a) Zih
 |.joinE a b=>s2 (Zd hF a) (Zd hF b) Zic
 |.starts a b=>s2 (Zd hF a) (Zd hF b) Zdz
 |.rng2 a b=>s2 (Zd hF a) (Zd hF b) Zig
 |.listOf ..=>sN
 |.rs ..=>sN
 |.inv ..=>sN
 |.tupR ..=>sN
 |.dget ..=>sN
 |.inR ..=>sN
 |.any ..=>sN
 |.compT ..=>sN
 |.lstR ..=>sN
 |.new ..=>sN
 |.meth ..=>sN
 |.isc ..=>sN
 |.dict ..=>sN
 |.dnew=>sN
 |.srt ..=>sN
variable{i:Nat}
theorem Zs{l:Li α}{x:α}(h:l[i]?=some x):i < l.length:=(bE.mp h).1
theorem Zgp{l:Li (Ot α)}{k:Nat}{x y:α}(h:(l.set i (some x))[k]?=some (some y)):(k=i/\y=x/\i < l.length)\/(k≠i/\l[k]?=some (some y)):=by
 rw[dD]at h;split at h
 ·rename_i e
  subst e;split at h
  ·rename_i hl
   cases h;exact .inl ⟨rfl,rfl,hl⟩
  ·exact Zb h
 ·rename_i e
  exact .inr ⟨fun z=>e z.symm,h⟩
def Zg9(fz:Fz)(st:Za)(π:ZH)(ρ:Env):Prop:=π.length=ρ.length/\EnvAll fz st π ρ
def Zi9(fz:Fz)(st:Za):PFl->Fl->Prop
 |.nx π,.nx ρ=>Zg9 fz st π ρ
 |.rt p,.rt d=>Rel fz st p d
 |_,_=>False
def SX(f:Ex)(g:PEx):Prop:=∀ π r,g π=some r->∀ fz st ρ,Bd fz st->Zg9 fz st π ρ->∃ r' st' fz',f ρ st=some (r',st')/\Next fz st fz' st'/\Zi9 fz' st' r r'
section
variable {F:Nat->Fn}{G:PFn}{f1 f2:Ex}{g1 g2:PEx}
theorem xN{f:Ex}:SX f fun _=>none:=fun _ _ e=>nomatch e
theorem Zkw(h1:SX f1 g1)(h2:SX f2 g2):SX (Y4 f1 f2) (ZdP g1 g2):=by
 intro π r e fz st ρ b E;unfold ZdP at e;cases q:g1 π with
 |none=>rw[q]at e;cases e
 |some r1=>
  rw[q]at e;obtain⟨r',st1,fz1,e1,n1,R1⟩:=h1 π r1 q fz st ρ b E;cases r1 with
  |nx π1=>
   cases r' with
   |nx ρ1=>
    obtain⟨r2,st2,fz2,e2,n2,R2⟩:=h2 π1 r e fz1 st1 ρ1 n1.bd R1;exact⟨r2,st2,fz2,by unfold Y4;rw[e1];exact e2,n1.trans n2,R2⟩
   |_=>exact R1.elim
  |rt p=>
   cases e;cases r' with
   |rt d=>exact⟨_,st1,fz1,by unfold Y4;rw[e1],n1,R1⟩
   |_=>exact R1.elim
theorem Zkv(hF:WS F G)(e:CE):SX (JQ (ev F e)) (ZdO (pe G e)):=by
 intro π r h fz st ρ b E;unfold ZdO at h;split at h
 ·rename_i p q
  cases h;obtain⟨d,st1,fz1,e1,n1,r1⟩:=Zd hF e π p q fz st ρ b E.2;exact⟨.rt d,st1,fz1,by unfold JQ;rw[e1],n1,r1⟩
 ·exact Zb h
theorem Zkx(hF:WS F G)(i:Nat)(e:CE):SX (VO i (ev F e)) (ZdQ i (pe G e)):=by
 intro π r h fz st ρ b E;unfold ZdQ at h;split at h
 ·rename_i p q
  cases h;obtain⟨d,st1,fz1,e1,n1,r1⟩:=Zd hF e π p q fz st ρ b E.2;refine⟨.nx (Zi ρ i d),st1,fz1,by unfold VO;rw[e1],n1,?_⟩
  unfold Zi;refine⟨(bI ..).trans (E.1.trans (bI ..).symm),fun k x hk=>?_⟩
  rw[dD];rcases Zgp hk with⟨rfl,rfl,hl⟩|⟨hn,hk⟩
  ·rw[if_pos rfl,if_pos (E.1 ▸ hl)]
   exact⟨d,rfl,r1⟩
  ·rw[if_neg (Ne.symm hn)]
   exact E.2.next b n1 k x hk
 ·exact Zb h
theorem Zku(hF:WS F G)(c:CE)(h1:SX f1 g1)(h2:SX f2 g2):SX (W7 (ev F c) f1 f2) (ZdL (pe G c) g1 g2):=by
 intro π r h fz st ρ b E;have go:∀ {k:Bool}{f:Ex}{g:PEx},SX f g->pe G c π=some (.bl k)->g π=some r->(∀ s',ev F c ρ st=some (.bl k,s')->W7 (ev F c) f1 f2 ρ st=f ρ s')->∃ r' st' fz',W7 (ev F c) f1 f2 ρ st=some (r',st')/\Next fz st fz' st'/\Zi9 fz' st' r r':=fun hs q h hi=>by
  obtain⟨d,st1,fz1,e1,n1,r1⟩:=Zd hF c π _ q fz st ρ b E.2;cases r1;obtain⟨r',st2,fz2,e2,n2,R⟩:=hs π r h fz1 st1 ρ n1.bd ⟨E.1,E.2.next b n1⟩;exact⟨r',st2,fz2,(hi _ e1).trans e2,n1.trans n2,R⟩
 unfold ZdL at h;split at h
 ·exact go h1 (by assumption) h fun s' e=>by unfold W7;rw[e]
 ·exact go h2 (by assumption) h fun s' e=>by unfold W7;rw[e]
 ·exact Zb h
theorem ZiZ(hF:WS F G){j:Nat}{e:CE}:SX (Vu i j (ev F e) f1) (ZdJ (pe G e)):=by
 intro π r h fz st ρ b E;unfold ZdJ at h;split at h
 ·rename_i q
  cases h;obtain⟨d,st1,fz1,e1,n1,r1⟩:=Zd hF e π _ q fz st ρ b E.2;cases r1 with
  |tup r1=>cases r1 with
   |cons a r1=>cases r1 with
    |cons c r1=>
     cases r1;cases a with
     |lst hz hs ra=>cases c with
      |tup rc=>
       cases ra;refine⟨.nx ρ,st1,fz1,?_,n1,E.1,E.2.next b n1⟩;unfold Vu;rw[e1];simp only[hs];exact if_pos hs
 ·exact Zb h
end
theorem Y5{F:Nat->Fn}{G:PFn}(hF:WS F G){M:Li Nat}:∀ s:CS,SX (ex F s) (px G M s)
 |.skip=>fun π r h fz st ρ b E=>by cases h;exact⟨.nx ρ,st,fz,rfl,Next.refl b,E⟩
 |.seq a b=>Zkw (Y5 hF a) (Y5 hF b)
 |.ret e=>Zkv hF e
 |.set i e=>Zkx hF i e
 |.ite c a b=>Zku hF c (Y5 hF a) (Y5 hF b)
 |.forP i j it b=>ZiZ hF
 |.app ..=>xN
 |.ext ..=>xN
 |.put ..=>xN
 |.for1 ..=>xN
 |.for3 ..=>xN
 |.forE ..=>xN
 |.set2 ..=>xN
 |.for4 ..=>xN
 |.for2 ..=>xN
 |.whl ..=>xN
 |.brk=>xN
 |.cont=>xN
 |.stop=>xN
 |.set3 ..=>xN
 |.act ..=>xN
 |.dput ..=>xN
 |.app2 ..=>xN
theorem Rels.back{fz:Fz}(r:Rels fz st ps ds){ws:ZH}{us:Env}(h:EnvAll fz st ws us):EnvAll fz st (ps.map some++ws) (ds.map some++us):=by
 induction ps generalizing ds with
 |nil=>cases r;exact h
 |cons p ps ih=>cases r with
  |cons a r=>exact fun i q e=>match i with
   |0=>by cases e;exact⟨_,rfl,a⟩
   |i+1=>ih r i q e
theorem ZhN{F:Nat->Fn}{G:PFn}(hF:WS F G)(f:FD)(e:fnP G f ps=some p){fz:Fz}(b:Bd fz st)(r:Rels fz st ps ds):Gives fz st (fnD F f ds st) p:=by
 unfold fnP at e;split at e
 ·rename_i hl
  have hl':ds.length=f.ps:=r.length.symm.trans hl;have E:Zg9 fz st (ps.map some++List.replicate (f.ns - ps.length) none) (ds.map some++List.replicate (f.ns - ds.length) none):=⟨by simp only[aI,aF,bQ];rw[r.length],r.back fun i q e=>by
   have:=bG e;cases eF this⟩
  unfold fnD;rw[if_pos hl'];split at e
  ·rename_i q
   cases e;obtain⟨r',st',fz',e1,n1,R⟩:=Y5 hF f.body _ _ q fz st _ b E;cases r' with
   |rt d=>exact⟨d,st',fz',by rw[e1],n1,R⟩
   |_=>exact R.elim
  ·rename_i q
   cases e;obtain⟨r',st',fz',e1,n1,R⟩:=Y5 hF f.body _ _ q fz st _ b E;cases r' with
   |nx ρ=>exact⟨.non,st',fz',by rw[e1],n1,.non⟩
   |_=>exact R.elim
  ·exact Zb e
 ·exact Zb e
theorem QT{T:Nat->Ot FD}{n:Nat}{f:FD}(q:T i=some f):run T (n+1) i=fnD (run T n) f:=by
 show(match T i with|some f=>fnD (run T n) f|none=>fun _ _=>none)=_
 rw[q]
theorem Uk{T:Nat->Ot FD}{n:Nat}{f:FD}(q:T i=some f):Zf T (n+1) i=fnP (Zf T n) f:=by
 show(match T i with|some f=>fnP (Zf T n) f|none=>fun _=>none)=_
 rw[q]
theorem U2(T:Nat->Ot FD):∀ n,WS (run T n) (Zf T n)
 |0=>fun _ _ _ e=>nomatch e
 |n+1=>fun i ps p e fz st ds b r=>by
  cases q:T i with
  |none=>
   rw[show Zf T (n+1) i=fun _=>none by show(match T i with|some f=>fnP (Zf T n) f|none=>fun _=>none)=_;rw[q]]at e
   cases e
  |some f=>
   rw[Uk q]at e;rw[QT q];exact ZhN (U2 T n) f e b r
end Dp



namespace Dp
open PySem PySem.Spec PyProof.Rows L2
variable [ClsTab]
theorem ZkW{α:Type}:∀ {us:Li α},us.length=0->us=[]
 |[],_=>rfl
theorem ZjH{α:Type}:∀ {us:Li α},us.length=1->∃ a,us=[a]
 |[a],_=>⟨a,rfl⟩
theorem ZkX{α:Type}:∀ {us:Li α},us.length=2->∃ a b,us=[a,b]
 |[a,b],_=>⟨a,b,rfl⟩
theorem ZkY{α:Type}:∀ {us:Li α},us.length=3->∃ a b c,us=[a,b,c]
 |[a,b,c],_=>⟨a,b,c,rfl⟩
theorem ZkZ{α:Type}:∀ {us:Li α},us.length=4->∃ a b c d,us=[a,b,c,d]
 |[a,b,c,d],_=>⟨a,b,c,d,rfl⟩
theorem Zk0{α:Type}:∀ {us:Li α},us.length=5->∃ a b c d e,us=[a,b,c,d,e]
 |[a,b,c,d,e],_=>⟨a,b,c,d,e,rfl⟩
theorem Zk1{α:Type}:∀ {us:Li α},us.length=6->∃ a b c d e f,us=[a,b,c,d,e,f]
 |[a,b,c,d,e,f],_=>⟨a,b,c,d,e,f,rfl⟩
def X3(K:Fg)(G:Gs)(T:Nat->Ot FD)(C:Ad):Li (Str×Nat×Nat)->Prop
 |[]=>True
 | (m,j,_) :: r=>(∃ y f fd pn N,MethOk K G T C m y j f fd pn N)/\X3 K G T C r
def YF(Pm:Params)(K:Fg)(mg:Str->Ot vL)(G:Gs)(T:Nat->Ot FD):Gs->Prop
 |[]=>True
 | (x,.cst d) :: r=>(∃ v u,mg x=some u/\RelV v u/\∀ ad H,Den K ad H v d)/\YF Pm K mg G T r
 | (x,.blt) :: r=>mg x=none/\YF Pm K mg G T r
 | (x,.dct ks ds) :: r=>J6 Pm K mg x ks ds/\YF Pm K mg G T r
 | (x,.fn i _ ds) :: r=>(∃ f fd pn N,DefOk K mg G T x i ds f fd pn N)/\YF Pm K mg G T r
 | (x,.exc i l) :: r=>J7 K mg x i l/\YF Pm K mg G T r
 | (x,.fnq i) :: r=>(∃ f fd pn N,DefOk K mg (Yb G) T x i [] f fd pn N)/\YF Pm K mg G T r
 | (x,.cls i ms _) :: r=>((mg x=some (.ref (ClsTab.ca i))/\NewOk K (ClsTab.ca i))/\X3 K G T (ClsTab.ca i) ms)/\YF Pm K mg G T r
section
variable {P:Program}{w:World}{K:Fg}{mg:Str->Ot vL}{base:Heap}{G:Gs}{T:Nat->Ot FD}
def Zha(Pm:Params)(K:Fg)(mg:Str->Ot vL)(G:Gs)(T:Nat->Ot FD)(x:Str):GV->Prop
 |.cst d=>∃ v u,mg x=some u/\RelV v u/\∀ ad H,Den K ad H v d
 |.blt=>mg x=none
 |.dct ks ds=>J6 Pm K mg x ks ds
 |.fn i _ ds=>∃ f fd pn N,DefOk K mg G T x i ds f fd pn N
 |.exc i l=>J7 K mg x i l
 |.fnq i=>∃ f fd pn N,DefOk K mg (Yb G) T x i [] f fd pn N
 |.cls i ms _=>(mg x=some (.ref (ClsTab.ca i))/\NewOk K (ClsTab.ca i))/\X3 K G T (ClsTab.ca i) ms
theorem Yk{Pm:Params}:∀ {l:Gs}{x:Str}{g:GV},YF Pm K mg G T l->l.lookup x=some g->Zha Pm K mg G T x g
 |[],_,_,_,h=>by cases h
 | (y,v) :: r,x,g,a,h=>by
  have tl:YF Pm K mg G T r/\Zha Pm K mg G T y v:=by
   cases v with
   |cst d=>exact⟨a.2,a.1⟩
   |blt=>exact⟨a.2,a.1⟩
   |dct ks ds=>exact⟨a.2,a.1⟩
   |fn i ps ds=>exact⟨a.2,a.1⟩
   |cls i ms subs=>exact⟨a.2,a.1⟩
   |exc i l=>exact⟨a.2,a.1⟩
   |fnq i=>exact⟨a.2,a.1⟩
  rw[bB]at h;cases e:x==y with
  |true=>
   rw[e]at h;cases h;rw[beq_iff_eq.mp e];exact tl.2
  |false=>
   rw[e]at h;exact Yk tl.1 h
theorem QH{C:Ad}:∀ {l:Li (Str×Nat×Nat)},X3 K G T C l->∀ m j ps,l.lookup m=some (j,ps)->∃ y f fd pn N,MethOk K G T C m y j f fd pn N
 |[],_,_,_,_,h=>by cases h
 | (m',j',ps') :: r,a,m,j,ps,h=>by
  rw[bB]at h;cases e:m==m' with
  |true=>
   rw[e]at h;cases h;rw[beq_iff_eq.mp e];exact a.1
  |false=>
   rw[e]at h;exact QH a.2 m j ps h
theorem Zgt{Pm:Params}(h:YF Pm K mg G T G):Text Pm K mg G T:=
 ⟨fun _ _ e=>Yk h e,fun _ e=>Yk h e,fun _ _ _ e=>Yk h e,fun _ _ _ _ e=>Yk h e,fun _ _ _ e=>Yk h e,fun _ _ e=>Yk h e,fun x i ms subs e=>by
  have g:Zha Pm K mg G T x (.cls i ms subs):=Yk h e;exact⟨g.1,QH g.2⟩⟩
theorem ZiQ{H:Hp}{a:Ad}{ns:Li Int}{n i:Nat}(hO:Only H)(hS:SqL K H a (ns.map V.int))(h:∃ st',run T n i [.lst 0] [(false,ns.map .int)]=some (.bl true,st')):spD K (run T n i) [.ref a] H (fun v _=>v=.bl true) fun _ _ _=>False:=by
 obtain⟨st',e⟩:=h;have ds:∀ ns:Li Int,Dens K [a] H (ns.map V.int) (ns.map D.int):=fun ns=>by
  induction ns with
  |nil=>exact .nil
  |cons n l ih=>exact .cons (.int n) ih
 have nT:¬Yg H a:=fun⟨o',q,m⟩=>by
  rcases hO a with z|⟨o,xs,z⟩<;>(rw[q]at z;cases z)
  cases m
 refine⟨[a],[.lst 0],[(false,ns.map .int)],.bl true,st',⟨rfl,fun i j b c d _ _ h3 _=>?_,fun i c hc=>?_⟩,.cons (.lst ⟨rfl,nT⟩) .nil,e,fun v ad' H' x S h=>h.ofBl,trivial⟩
 ·cases i with
  |zero=>simp at h3
  |succ i=>simp at h3
 ·cases i with
  |succ i=>simp at hc
  |zero=>
   have hc:(false,ns.map D.int)=c:=by simpa using hc
   subst hc;refine⟨a,rfl,.l nT (ds ns) (.inr ⟨rfl,?_⟩)⟩;rcases hS with(h|⟨o,h⟩)|⟨o,its,n,h1,h2,h3,h4,h5,h6⟩
   ·rcases hO a with z|⟨o,xs,z⟩
    ·rw[h]at z;cases z
    ·rw[h]at z;cases z
   ·exact .inl ⟨o,h⟩
   ·exact .inr ⟨o,its,n,⟨h1,h2⟩,⟨h3,h4⟩,h5,h6⟩
end
noncomputable abbrev fnS(x y:Str)(s:Stmt)(dV kV dc pm:vL)(an:Ot Ad)(cd ct:vL):FuncData:=PySem.W.fnOf x y (defArgs s) (defBody s) (defScope s) dV kV dc pm an cd ct
inductive FnAt(K:Fg)(x:Str)(s:Stmt):Prop
 |mk {f:Addr}{oc kV dc pm cd ct:Value}{od an:Option Addr}{sl:Array (Option Value)} (a:PySem.W.nsIn K mainGlobals x=some (some (.ref f))) (l:K.lookup f=some ⟨oc,od,.func (PySem.W.fnOf x x (defArgs s) (defBody s) (defScope s) .none kV dc pm an cd ct),sl⟩) (e:PySem.W.codeIn K cd x=true) (k:PySem.W.keepIn K (.ref f)=true):FnAt K x s
inductive FnAtE(K:Fg)(x:Str)(s:Stmt)(v:Int):Prop
 |mk {f E:Addr}{eo:Obj}{en:Nat}{et:Tok}{oc kV dc pm cd ct:Value}{od an:Option Addr}{sl:Array (Option Value)} (a:PySem.W.nsIn K mainGlobals x=some (some (.ref f))) (l:K.lookup f=some ⟨oc,od,.func (PySem.W.fnOf x x (defArgs s) (defBody s) (defScope s) (.ref E) kV dc pm an cd ct),sl⟩) (e:PySem.W.codeIn K cd x=true) (k:PySem.W.keepIn K (.ref f)=true) (d:K.lookup E=some eo) (g:eo.data=.seq #[.int v et] en):FnAtE K x s v
inductive MtAt(K:Fg)(C:Addr)(x y:Str)(s:Stmt):Prop
 |mk {f:Addr}{oc kV dc pm cd ct:Value}{od an:Option Addr}{sl:Array (Option Value)} (m:PySem.W.findIn K (.ref C) x=some (some (.ref f))) (l:K.lookup f=some ⟨oc,od,.func (PySem.W.fnOf x y (defArgs s) (defBody s) (defScope s) .none kV dc pm an cd ct),sl⟩) (e:PySem.W.codeIn K cd y=true) (k:PySem.W.keepIn K (.ref f)=true) (i:PySem.W.isFn K (.ref f)=true):MtAt K C x y s
structure ClsAt(K:Fg)(x:Str)(C:Addr):Prop where
 ya:PySem.W.nsIn K mainGlobals x=some (some (.ref C))
 yb:PySem.W.makesIn K C=true
 yd:PySem.W.keepIn K (.ref C)=true
 ye:PySem.W.plainGet K C Str.empty=true
 yf:PySem.W.hasDictIn K C=true
 yg:PySem.W.plainOver K C=true
 yh:PySem.W.findIn K (.ref C) "__setattr__"=some (some (.builtin "object.__setattr__"))
 n1:PySem.W.findIn K (.ref C) "takes"=some none
 n2:PySem.W.findIn K (.ref C) "names"=some none
 n3:PySem.W.findIn K (.ref C) "rows"=some none
 n4:PySem.W.findIn K (.ref C) "aims"=some none
variable{C:Ad}
theorem ClsAt.new{K:Fg}{x:Str}(F:ClsAt K x C):NewOk K C:=⟨F.yb,F.yd,⟨F.ye,F.yf,F.yg,F.yh⟩,fun f hf=>by
 have hf:((f == "takes")||((f == "names")||((f == "rows")||((f == "aims")||false))))=true:=hf;rw[cQ,cT,cT,cT,beq_iff_eq,beq_iff_eq,beq_iff_eq,beq_iff_eq]at hf;rcases hf with rfl|rfl|rfl|rfl
 ·exact F.n1
 ·exact F.n2
 ·exact F.n3
 ·exact F.n4⟩
abbrev WA(G:Gs)(s:Stmt)(N ps:Li Str)(c:CS):Prop:=FnScope N ps (defScope s)/\(∀ y∈N,L2.Loc (defScope s) y)/\cSs G 60 (defScope s) N (defBody s)=some c
section
variable {K:Fg}{fd:FuncData}{ps:Li Str}
theorem bd1(hl:ps.length=1)(h:∀ a,bindArgs fd ⟨[a],[]⟩=pure (ps.zip [a])):Binds K fd ps []:=.all fun us e=>by obtain⟨_,rfl⟩:=ZjH (e.trans hl);exact h _
theorem bd2(hl:ps.length=2)(h:∀ a b,bindArgs fd ⟨[a,b],[]⟩=pure (ps.zip [a,b])):Binds K fd ps []:=.all fun us e=>by obtain⟨_,_,rfl⟩:=ZkX (e.trans hl);exact h _ _
theorem bd3(hl:ps.length=3)(h:∀ a b c,bindArgs fd ⟨[a,b,c],[]⟩=pure (ps.zip [a,b,c])):Binds K fd ps []:=.all fun us e=>by obtain⟨_,_,_,rfl⟩:=ZkY (e.trans hl);exact h _ _ _
theorem bd4(hl:ps.length=4)(h:∀ a b c d,bindArgs fd ⟨[a,b,c,d],[]⟩=pure (ps.zip [a,b,c,d])):Binds K fd ps []:=.all fun us e=>by obtain⟨_,_,_,_,rfl⟩:=ZkZ (e.trans hl);exact h _ _ _ _
theorem bd5(hl:ps.length=5)(h:∀ a b c d k,bindArgs fd ⟨[a,b,c,d,k],[]⟩=pure (ps.zip [a,b,c,d,k])):Binds K fd ps []:=.all fun us e=>by obtain⟨_,_,_,_,_,rfl⟩:=Zk0 (e.trans hl);exact h _ _ _ _ _
theorem bd6(hl:ps.length=6)(h:∀ a b c d k l,bindArgs fd ⟨[a,b,c,d,k,l],[]⟩=pure (ps.zip [a,b,c,d,k,l])):Binds K fd ps []:=.all fun us e=>by obtain⟨_,_,_,_,_,_,rfl⟩:=Zk1 (e.trans hl);exact h _ _ _ _ _ _
theorem bd0(hl:ps.length=0)(h:bindArgs fd ⟨[],[]⟩=pure []):Binds K fd ps []:=.all fun us e=>by rw[ZkW (e.trans hl),List.zip_nil_right];exact h
end
section
variable {Pm:Params}{K:Fg}{mg:Str->Ot vL}{G:Gs}{T:Nat->Ot FD}{h:Heap}{x y:Str}{i p:Nat}{s:Stmt}{N ps:Li Str}{c:CS}{r:Gs}
theorem gD(X:K.In h)(G0:h.Ns mainGlobals mg)(F:FnAt K x s)(q:WA G s N ps c)(hT:T i=some ⟨ps.length,N.length,c⟩)(t:YF Pm K mg G T r)(hb:∀ kV dc pm an cd ct,Binds K (fnS x x s .none kV dc pm an cd ct) ps []:=by first|exact fun _ _ _ _ _ _=>bd1 rfl fun _=>rfl|exact fun _ _ _ _ _ _=>bd2 rfl fun _ _=>rfl|exact fun _ _ _ _ _ _=>bd3 rfl fun _ _ _=>rfl|exact fun _ _ _ _ _ _=>bd4 rfl fun _ _ _ _=>rfl|exact fun _ _ _ _ _ _=>bd5 rfl fun _ _ _ _ _=>rfl|exact fun _ _ _ _ _ _=>bd6 rfl fun _ _ _ _ _ _=>rfl|exact fun _ _ _ _ _ _=>bd0 rfl rfl):YF Pm K mg G T ((x,.fn i p []) :: r):=by
 cases F with
 |mk a l e k=>exact⟨⟨_,_,ps,N,⟨s,_,_,_,_,_,_,_,_,_,_,c,rfl,l,e,q.1,q.2.1,q.2.2,hT⟩,k,PySem.W.mg_of X G0 a,fun m hm=>⟨[],[],fun _ _=>by rw[List.drop_nil];exact .nil,.nil,hb _ _ _ _ _ _⟩⟩,t⟩

theorem gM{r:Li (Str×Nat×Nat)}(F:MtAt K C x y s)(q:WA G s N ps c)(hT:T i=some ⟨ps.length,N.length,c⟩)(t:X3 K G T C r)(hb:∀ kV dc pm an cd ct,Binds K (fnS x y s .none kV dc pm an cd ct) ps []:=by first|exact fun _ _ _ _ _ _=>bd1 rfl fun _=>rfl|exact fun _ _ _ _ _ _=>bd2 rfl fun _ _=>rfl|exact fun _ _ _ _ _ _=>bd3 rfl fun _ _ _=>rfl|exact fun _ _ _ _ _ _=>bd4 rfl fun _ _ _ _=>rfl|exact fun _ _ _ _ _ _=>bd5 rfl fun _ _ _ _ _=>rfl|exact fun _ _ _ _ _ _=>bd6 rfl fun _ _ _ _ _ _=>rfl|exact fun _ _ _ _ _ _=>bd0 rfl rfl):X3 K G T C ((x,i,p) :: r):=by
 cases F with
 |mk m l e k j=>exact⟨⟨y,_,_,ps,N,⟨s,_,_,_,_,_,_,_,_,_,_,c,rfl,l,e,q.1,q.2.1,q.2.2,hT⟩,⟨m,j,k⟩,hb _ _ _ _ _ _⟩,t⟩
theorem gC{subs:Li Nat}{ms:Li (Str×Nat×Nat)}(X:K.In h)(G0:h.Ns mainGlobals mg)(hC:ClsTab.ca i=C)(F:ClsAt K x C)(hm:X3 K G T C ms)(t:YF Pm K mg G T r):YF Pm K mg G T ((x,.cls i ms subs) :: r):=by
 subst hC;exact⟨⟨⟨PySem.W.mg_of X G0 F.ya,F.new⟩,hm⟩,t⟩
theorem gB(X:K.In h)(G0:h.Ns mainGlobals mg)(z:PySem.W.nsIn K mainGlobals x=some none)(t:YF Pm K mg G T r):YF Pm K mg G T ((x,.blt) :: r):=⟨PySem.W.mg_none_of X G0 z,t⟩
theorem gI{v:Int}{k:Tok}(X:K.In h)(G0:h.Ns mainGlobals mg)(g:PySem.W.nsIn K mainGlobals x=some (some (.int v k)))(t:YF Pm K mg G T r):YF Pm K mg G T ((x,.cst (.int v)) :: r):=⟨⟨.int v,_,PySem.W.mg_of X G0 g,⟨_,rfl⟩,fun _ _=>.int _⟩,t⟩
theorem gQ(X:K.In h)(G0:h.Ns mainGlobals mg)(F:FnAt K x s)(q:WA (Yb G) s N ps c)(hT:T i=some ⟨ps.length,N.length,c⟩)(hl:ps.length=1)(hb:∀ kV dc pm an cd ct a,bindArgs (fnS x x s .none kV dc pm an cd ct) ⟨[a],[]⟩=pure (ps.zip [a]))(t:YF Pm K mg G T r):YF Pm K mg G T ((x,.fnq i) :: r):=by
 cases F with
 |mk a l e k=>exact⟨⟨_,_,ps,N,⟨s,_,_,_,_,_,_,_,_,_,_,c,rfl,l,e,q.1,q.2.1,q.2.2,hT⟩,k,PySem.W.mg_of X G0 a,fun m hm=>⟨[],[],fun _ _=>by rw[List.drop_nil];exact .nil,.nil,bd1 hl (hb _ _ _ _ _ _)⟩⟩,t⟩
inductive XAt(K:Fg)(y:Str)(s:Stmt)(C:Addr):Prop
 |mk {fI B1 B2 N:Addr}{nm q:Str}{bs:List Value}{sn:List Str}{sub:List Value}{ab:Bool}{col:Option Bool}{dd ofd an:Option Addr}{k0 k1 k2 k3 k5:Option Value}{ofc kV dc pm cd ct:Value}{ofs:Array (Option Value)}
  (l:K.lookup C=some (excClassObj nm q C N bs [.ref B1,.ref B2,.type "ValueError",.type "Exception",.type "BaseException",.type "object"] true sn sub ab col dd k0 k1 k2 k3 k5 "ValueError.__new__"))
  (sa:PySem.W.findIn K (.ref C) "__setattr__"=some (some (.builtin "object.__setattr__"))) (na:PySem.W.findIn K (.ref C) "line"=some none) (ini:PySem.W.findIn K (.ref C) "__init__"=some (some (.ref fI))) (kp:PySem.W.keepIn K (.ref C)=true)
  (ga:PySem.W.findIn K (.ref C) "__getattribute__"=some (some (.builtin "BaseException.__getattribute__"))) (gn:PySem.W.findIn K (.ref C) "__getattr__"=some none) (gc:PySem.W.findIn K (.ref C) "__class__"=some (some (.builtin "object.__class__")))
  (gs:PySem.W.specialIn K (.builtin "object.__class__") "__get__"=some (some (.builtin "getset_descriptor.__get__"))) (gt:PySem.W.takesIn K (.builtin "object.__class__")=some true) (gm:PySem.W.mroIn K C (.type "object")=some true) (gd:PySem.W.hasDictIn K C=true)
  (li:K.lookup fI=some ⟨ofc,ofd,.func (PySem.W.fnOf "__init__" y (defArgs s) (defBody s) (defScope s) .none kV dc pm an cd ct),ofs⟩) (ci:PySem.W.codeIn K cd y=true) (ic:ofc=.type "function") (kv:PySem.W.kitOne K (.ref C) (.type "ValueError")=some true):XAt K y s C
theorem XAt.g(h:XAt K y s C):XG K C:=by
 cases h with
 |@mk fI B1 B2 N nm q bs sn sub ab col dd ofd an k0 k1 k2 k3 k5 ofc kV dc pm cd ct ofs l sa na ini kp ga gn gc gs gt gm gd li ci ic kv=>exact⟨⟨⟨_,_,_,_,_,_,_,_,_,_,_,_,_,_,_,_,_,_,l,⟨[B1,B2],rfl⟩,F.attrBase_ValueError⟩,ga,gn,gc,gs,gt,gm,gd⟩,na,kv⟩
def Zi2(s:Stmt)(a0 a1:Str):Prop:=(∃ p1 p2 p3 p4,defBody s=[.Assign [.Attribute (.Name a0 p1) "line" p2] (.Name a1 p3) p4])/\FnScope [a0,a1] [a0,a1] (defScope s)/\(Vis (defScope s) a0/\Vis (defScope s) a1)/\((a0==("__debug__":Str))=false/\(a1==("__debug__":Str))=false)/\((a0==("__classdict__":Str))=false/\(a1==("__classdict__":Str))=false) /\
 ∀ z kV dc pm an cd ct a b,bindArgs (PySem.W.fnOf "__init__" z (defArgs s) (defBody s) (defScope s) .none kV dc pm an cd ct) ⟨[a,b],[]⟩=pure [(a0,a),(a1,b)]
theorem XAt.ra{a0 a1:Str}(h:XAt K y s C)(hi:Zi2 s a0 a1):∃ (fI:Ad) (fd:FuncData) (pn:Li Str),XCls K C fI "line"/\(∀ P w base,FnOk P w K mg base CX0 1 fI fd pn (spI C "line"))/\Binds K fd pn []:=by
 cases h with
 |@mk fI B1 B2 N nm q bs sn sub ab col dd ofd an k0 k1 k2 k3 k5 ofc kV dc pm cd ct ofs l sa na ini kp ga gn gc gs gt gm gd li ci ic kv=>
  obtain⟨⟨p1,p2,p3,p4,hb⟩,S,⟨v0,v1⟩,⟨d0,d1⟩,⟨g0,g1⟩,bn⟩:=hi;have xc:XCls K C fI "line":=⟨⟨_,_,_,_,_,_,_,_,_,_,_,_,_,_,_,_,_,_,_,_,l,⟨[B1,B2],rfl⟩,F.excBase_ValueError,F.store_ValueError⟩,sa,na,ini,⟨_,li,ic⟩,kp⟩;have bn:=bn y kV dc pm an cd ct;rw[hb]at li bn;exact⟨fI,_,[a0,a1],xc,fun P w base=>init_x xc li ci S v0 v1 d0 d1 g0 g1,bd2 rfl bn⟩
theorem gX{C1 C2:Ad}{l:Li Nat}(X:K.In h)(G0:h.Ns mainGlobals mg)(hC:ClsTab.ca i=C)(h1:ClsTab.ca 224=C1)(h2:ClsTab.ca 226=C2)(ya:PySem.W.nsIn K mainGlobals x=some (some (.ref C)))(k1:PySem.W.kitOne K (.ref C1) (.ref C)=some (l.contains 224))(k2:PySem.W.kitOne K (.ref C2) (.ref C)=some (l.contains 226))(e:∀ c∈l,PySem.W.exmOne K (.ref (ClsTab.ca c)) (.ref C)=some true/\XG K (ClsTab.ca c))(ra:i∈exNums->∃ (fI:Ad) (fd:FuncData) (pn:Li Str),XCls K (ClsTab.ca i) fI "line"/\(∀ P w base,FnOk P w K mg base CX0 1 fI fd pn (spI (ClsTab.ca i) "line"))/\Binds K fd pn [])(t:YF Pm K mg G T r):YF Pm K mg G T ((x,.exc i l) :: r):=by
 subst hC;subst h1;subst h2;refine⟨⟨PySem.W.mg_of X G0 ya,fun c hc=>?_,e,ra⟩,t⟩
 rcases aM.mp hc with rfl|hc
 ·exact k1
 ·rcases aM.mp hc with rfl|hc
  ·exact k2
  ·cases hc
theorem gL{fa:Ad}{z:Str}(X:K.In h)(G0:h.Ns mainGlobals mg)(hfa:mg x=some (.ref fa))(F:FnAt K x s)(q:WA G s N [z] c)(hT:T i=some ⟨1,N.length,c⟩)(hb:∀ kV dc pm an cd ct u,bindArgs (fnS x x s .none kV dc pm an cd ct) ⟨[u],[]⟩=pure [(z,u)]):∃ (fd:FuncData) (N:Li Str),(∀ (s:Sd) (u:vL),BindsTo s fd ⟨[u],[]⟩ [(z,u)])/\DefOk K mg G T x i [] fa fd [z] N:=by
 cases F with
 |@mk f _ _ _ _ _ _ _ _ _ a l e k=>
  have e':=hfa.symm.trans (PySem.W.mg_of X G0 a);have e':fa=f:=by cases e';rfl
  rw[e'];exact⟨_,N,fun _ u=>.of_eq (hb _ _ _ _ _ _ u),⟨s,_,_,_,_,_,_,_,_,_,_,c,rfl,l,e,q.1,q.2.1,q.2.2,hT⟩,k,PySem.W.mg_of X G0 a,fun m hm=>⟨[],[],fun _ _=>by rw[List.drop_nil];exact .nil,.nil,.all fun us hl=>by obtain⟨u,rfl⟩:=ZjH hl;exact hb _ _ _ _ _ _ u⟩⟩
end
omit [ClsTab] in
theorem Zby{l:PySem.W.OpenLaw}{q:Program}{loose:Li Str}{XP:(Str->Ot vL)->Heap->Prop}{YP:World->Heap->Prop}{d:DefRec}{K:Params->Fg}{G:Gs}{T:Nat->Ot FD}{n i:Nat}{x:Str}(hn:l.most=some 63)(hdf:d.params.defaults=[])(hr:Room (2 * n+2) callerA)(hY:∀ (w:World) (h:Heap),YP w h->(K w.params).In h)(hc:∀ [ClsTab] n,Y7 G (run T n))(hq:∀ [ClsTab] n,Y7 (Yb G) (run T n))(hlq:ZX (Yb G)=false)(F:∀ (w:World) (mg:Str->Ot vL) (fa:Ad) (h:Heap),(K w.params).In h->h.Ns mainGlobals mg->mg d.name=some (.ref fa)->
   ∃ _:ClsTab,Text w.params (K w.params) mg G T/\∃ (fd:FuncData) (N:Li Str),(∀ (s:Sd) (u:vL),BindsTo s fd ⟨[u],[]⟩ [(x,u)])/\DefOk (K w.params) mg G T d.name i [] fa fd [x] N)(L:∀ ns:Li Int,ns.length<=63->∃ st',run T n i [.lst 0] [(false,ns.map .int)]=some (.bl true,st')) :
  PySem.W.WalkO q loose XP YP l.row.toRowW d [] (fun f vs=>PySem.call f vs):=
 L2.walk_of (n:=63) (k:=2 * n+2) (x:=x) (CX:=fun w=>CX1 l.prog w) (sp:=fun w vs H Q E=>∀ c:ClsTab,@spD c (K w.params) (run T n i) vs H Q E) hn (by decide) hdf hr hY
  (fun w mg fa h KX G0 hmg=>by
   obtain⟨c,X,fd,N,hb,Dk⟩:=F w mg fa h KX G0 hmg;refine⟨fd,hb,fun base _ _=>?_⟩
   have fo:=Zb5 (P:=l.prog) (w:=w) (base:=base) (fun n=>hc n) (fun n=>hq n) hlq X n Dk.ob
   exact⟨fun vs H Q E z=>fo.len vs H Q E (z c),fun A outer s H args us vs Q E a1 a2 a3 a4 z=>fo.run A outer s H args us vs Q E a1 a2 a3 a4 (z c)⟩)
  (fun w H a ns hl hO hS c=>ZiQ hO hS (L ns hl)) fun _ _ _ _ _ ⟨_,_,_,_,_,_,_,_,z⟩=>z

end Dp


namespace Dp
open PySem
theorem Wq:∀ {l m:Li Char},l.map Char.toNat=m.map Char.toNat->l=m
 |[],[],_=>rfl
 |[],_ :: _,h=>by cases h
 |_ :: _,[],h=>by cases h
 |a :: l,b :: m,h=>by
  rw[aP,aP]at h
  injection h with h1 h2
  have:a=b:=by
   apply Char.ext
   apply UInt32.toNat_inj.mp
   exact h1
  rw[this,Wq h2]
@[simp] theorem ZlD{a b:String}:(Str.ofString a=Str.ofString b)=(a=b):=by
 apply propext
 constructor
 ·intro h
  rw[Str.ofString_eq_toList,Str.ofString_eq_toList]at h
  injection h with h
  have h2:=congrArg Array.toList h;simp only[cU]at h2;exact String.toList_inj.mp (Wq h2)
 ·intro h;rw[h]
variable{p:Prop}{f':PEv}{ds:Li D}{fr:Li Nat}{m':Bool}{n k:Nat}{o:Ot P}
section
variable {F:PFn}{π:ZH}{a b c lo hi it elt cnd:CE}{M:Li Nat}
noncomputable def Yw(c:Ot P)(x y:Ot P):Ot P:=match c with
 |some (.bl true)=>x
 |some (.bl false)=>y
 |_=>none
@[simp] theorem Zjk{k:Bool}{x y:Ot P}:Yw (some (.bl k)) x y=if k=true then x else y:=by cases k<;>rfl
@[simp] theorem Zjd{α β:Type}[Decidable p]{u v:Ot α}{f:α->Ot β}:(if p then u else v).bind f=if p then u.bind f else v.bind f:=by split<;>rfl
@[simp] theorem pe_var{i:Nat}:pe F (.var i) π=(π[i]?).join:=by
 show YG i π=_;unfold YG;cases π[i]? with
 |none=>rfl
 |some o=>cases o<;>rfl
@[simp] theorem JJ{d:D}:pe F (.cst d) π=ofD d:=Eq.trans rfl rfl
@[simp] theorem ZaJ{i:Int}:ofD (.int i)=some (.int i):=Eq.trans rfl rfl
theorem YT{f:PEv}{g:P->Ot P}:pq1 f g π=(f π).bind g:=by unfold pq1;cases f π<;>rfl
theorem XF{f:PEv}{g:P->P->Ot P}:pq2 f f' g π=(f π).bind fun x=>(f' π).bind fun y=>g x y:=by unfold pq2;cases f π<;>cases f' π<;>rfl
theorem Zin{f f'':PEv}{g:P->P->P->Ot P}:pq3 f f' f'' g π=(f π).bind fun x=>(f' π).bind fun y=>(f'' π).bind fun z=>g x y z:=by unfold pq3;cases f π<;>cases f' π<;>cases f'' π<;>rfl
theorem VI{f g h:PEv}:VH f g h π=Yw (f π) (g π) (h π):=by
 unfold VH Yw;rfl
@[simp] theorem Yn{op:Operator}:pe F (.bin op a b) π=(pe F a π).bind fun x=>(pe F b π).bind fun y=>W4 op x y:=XF
@[simp] theorem Z1{op:CmpOp}:pe F (.cmp op a b) π=(pe F a π).bind fun x=>(pe F b π).bind fun y=>Xh op x y:=XF
@[simp] theorem pe_not:pe F (.not a) π=(pe F a π).bind ZfE:=YT
@[simp] theorem pe_and:pe F (.and a b) π=Yw (pe F a π) (pe F b π) (some (.bl false)):=VI
@[simp] theorem pe_or:pe F (.or a b) π=Yw (pe F a π) (some (.bl true)) (pe F b π):=VI
@[simp] theorem UX:pe F (.ife c a b) π=Yw (pe F c π) (pe F a π) (pe F b π):=VI
@[simp] theorem Vh:pe F (.tupE a) π=pe F a π:=Eq.trans rfl rfl
@[simp] theorem XQ:pe F (.lstE a) π=(pe F a π).bind Zdm:=YT
@[simp] theorem ZkD:pe F .aN π=some (.tup []):=Eq.trans rfl rfl
@[simp] theorem Zk:pe F (.aC a b) π=(pe F a π).bind fun x=>(pe F b π).bind fun y=>V5 x y:=XF
@[simp] theorem pe_ix:pe F (.ix a b) π=(pe F a π).bind fun x=>(pe F b π).bind fun y=>ixP x y:=XF
@[simp] theorem pe_slice:pe F (.slice a lo hi) π=(pe F a π).bind fun x=>(pe F lo π).bind fun y=>(pe F hi π).bind fun z=>VP x y z:=Zin
@[simp] theorem ZfO:pe F (.part a) π=(pe F a π).bind ZdF:=YT
@[simp] theorem pe_call{f:Nat}:pe F (.call f a ds) π=(pe F a π).bind (Zch (F f) ds):=YT
@[simp] theorem UY:pe F (.len a) π=(pe F a π).bind Jy:=YT
@[simp] theorem JK:pe F (.tOf a) π=(pe F a π).bind U7:=YT
@[simp] theorem ZdI:pe F (.intOf a) π=(pe F a π).bind Js:=YT
@[simp] theorem Zij:pe F (.min a b) π=(pe F a π).bind fun x=>(pe F b π).bind fun y=>Zh8 x y:=XF
@[simp] theorem Zii:pe F (.max a b) π=(pe F a π).bind fun x=>(pe F b π).bind fun y=>Zh7 x y:=XF
@[simp] theorem Zk6{T:Ty}:pe F (.isi T a) π=(pe F a π).bind (Zdd T):=YT

@[simp] theorem ZfN{ks:Li Str}:pe F (.look ks ds a) π=(pe F a π).bind (JB ks ds):=YT
@[simp] theorem ZdG:pe F (.all a) π=(pe F a π).bind (WO fun l=>l.all id):=YT
theorem ZaM{rng:Bool}:pe F (.comp rng fr it elt cnd) π=(pe F it π).bind fun x=>(Xi rng x).bind fun xs=>if xs.length<=1000 then (Yv (fun p=>pe F elt (Y1 π fr p)) (fun p=>pe F cnd (Y1 π fr p)) xs).bind (fun ys=>some (.lst true ys)) else none:=by
 show Xd Zil (Xi rng) fr (pe F it) (pe F elt) (pe F cnd) π=_;unfold Xd;cases pe F it π with
 |none=>rfl
 |some x=>
  simp only[Ob];cases Xi rng x with
  |none=>rfl
  |some xs=>
   simp only[Ob];split
   ·show(match Yv (fun p=>pe F elt (Y1 π fr p)) (fun p=>pe F cnd (Y1 π fr p)) xs with
     |some ys=>some (P.lst true ys)
     |none=>none)=_
    cases Yv (fun p=>pe F elt (Y1 π fr p)) (fun p=>pe F cnd (Y1 π fr p)) xs<;>rfl
   ·rfl


theorem ZdH{x:P}{xs:Li P}(h:pe F it π=some x)(hw:WR x=some xs)(hl:xs.length<=1000):pe F (.comp2 fr it elt cnd) π=(Yv (fun p=>pe F elt (X0 JL π fr p)) (fun p=>pe F cnd (X0 JL π fr p)) xs).bind (fun ys=>some (.lst true ys)):=by
 show Xd JL WR fr (pe F it) (pe F elt) (pe F cnd) π=_;unfold Xd;simp only[h,hw,hl,if_true];cases Yv (fun p=>pe F elt (X0 JL π fr p)) (fun p=>pe F cnd (X0 JL π fr p)) xs<;>rfl
variable {i j:Int}{xs ys:Li P}{x y:P}{m:Bool}
@[simp] theorem ZeJ:W4 .Add (.int i) (.int j)=some (.int (i+j)):=Eq.trans rfl rfl
@[simp] theorem ZkA:W4 .Sub (.int i) (.int j)=some (.int (i - j)):=Eq.trans rfl rfl
@[simp] theorem ZeL:W4 .Mult (.int i) (.int j)=if ZM i||ZM j then some (.int (i * j)) else none:=by
 show(match (if ZM i||ZM j then some ((i * j)) else none:Ot Int) with
  |some k=>some (P.int k)
  |none=>none)=_
 by_cases h:(ZM i||ZM j)=true
 ·rw[if_pos h,if_pos h]
 ·rw[if_neg h,if_neg h]
@[simp] theorem Qg:W4 .FloorDiv (.int i) (.int j)=if 0 < j/\j < 1073741824 then some (.int (i / j)) else if j < 0/\-1073741824 < j then some (.int (i.fdiv j)) else none:=by
 show(match (if 0 < j/\j < 1073741824 then some (i / j) else if j < 0/\-1073741824 < j then some (i.fdiv j) else none:Ot Int) with
  |some k=>some (P.int k)
  |none=>none)=_
 by_cases h:0 < j/\j < 1073741824
 ·rw[if_pos h,if_pos h]
 ·rw[if_neg h,if_neg h]
  by_cases h':j < 0/\-1073741824 < j
  ·rw[if_pos h',if_pos h']
  ·rw[if_neg h',if_neg h']
@[simp] theorem ZeK:W4 .Mod (.int i) (.int j)=if 0 < j then some (.int (i % j)) else if j < 0 then some (.int (i.fmod j)) else none:=by
 show(match (if 0 < j then some (i % j) else if j < 0 then some (i.fmod j) else none:Ot Int) with
  |some k=>some (P.int k)
  |none=>none)=_
 by_cases h:0 < j
 ·rw[if_pos h,if_pos h]
 ·rw[if_neg h,if_neg h]
  by_cases h':j < 0
  ·rw[if_pos h',if_pos h']
  ·rw[if_neg h',if_neg h']
@[simp] theorem Zb7:W4 .Add (.lst m xs) (.lst m' ys)=if xs.length+ys.length<=Ze then some (.lst true (xs++ys)) else none:=by
 show(if XZ .Add=true/\xs.length+ys.length<=Ze then some (P.lst true (xs++ys)) else none)=_
 by_cases h:xs.length+ys.length<=Ze
 ·rw[if_pos ⟨rfl,h⟩,if_pos h]
 ·rw[if_neg (fun z=>h z.2),if_neg h]
theorem lim_iff:ZM i=true↔-(2 ^ 64) < i/\i < 2 ^ 64:=by unfold ZM;rw[Ba,decide_eq_true_iff,decide_eq_true_iff]
theorem Zaz(h:-(2 ^ 64) < i)(h':i < 2 ^ 64):ZM i=true:=lim_iff.mpr ⟨h,h'⟩
@[simp] theorem ZkI:Xh .Lt (.int i) (.int j)=some (.bl (decide (i < j))):=Eq.trans rfl rfl
@[simp] theorem ZeU:Xh .Eq (.int i) (.int j)=some (.bl (decide (i=j))):=Eq.trans rfl rfl
@[simp] theorem Zag{s t:Str}:Xh .Eq (.str s) (.str t)=some (.bl (decide (s=t))):=Eq.trans rfl rfl
@[simp] theorem ZeV{s t:Str}:Xh .NotEq (.str s) (.str t)=some (.bl (!decide (s=t))):=Eq.trans rfl rfl
@[simp] theorem Zk4:ZfE (.bl m)=some (.bl (!m)):=Eq.trans rfl rfl
@[simp] theorem ZkC:Zdm (.tup xs)=some (.lst true xs):=Eq.trans rfl rfl
@[simp] theorem ZkB:Jy (.lst m xs)=some (.int xs.length):=Eq.trans rfl rfl
@[simp] theorem int_int:Js (.int i)=some (.int i):=Eq.trans rfl rfl
@[simp] theorem ix_tup:ixP (.tup xs) (.int i)=atP xs i:=Eq.trans rfl rfl
@[simp] theorem ZkT:ixP (.lst m xs) (.int i)=atP xs i:=Eq.trans rfl rfl
@[simp] theorem ZkR:Zdd .int (.int i)=some (.bl true):=Eq.trans rfl rfl
@[simp] theorem ZkQ:Zdd .bool (.int i)=some (.bl false):=Eq.trans rfl rfl
theorem WC(h:i=(n:Int)):atP xs i=xs[n]?:=by
 subst h;unfold atP ixN;rw[if_pos (by omega)]
 by_cases hn:(n:Int) < xs.length
 ·rw[if_pos hn];rfl
 ·rw[if_neg hn]
  rw[eB (by omega)]
  rfl
@[simp] theorem Zkz:atP xs ((n:Nat):Int)=xs[n]?:=WC rfl
@[simp] theorem ZlE:atP xs 0=xs[0]?:=WC rfl
variable {s t:CS}
noncomputable def W3(x:Ot PFl)(g:ZH->Ot PFl):Ot PFl:=match x with
 |some (.nx π')=>g π'
 |r=>r
@[simp] theorem ZaV{g:PEx}:W3 (some (.nx π)) g=g π:=Eq.trans rfl rfl
@[simp] theorem ZkE{g:PEx}:W3 (some (.rt x)) g=some (.rt x):=Eq.trans rfl rfl
@[simp] theorem Zi0{g:PEx}:W3 none g=none:=Eq.trans rfl rfl
@[simp] theorem Zkj[Decidable p]{u v:Ot PFl}{g:PEx}:W3 (if p then u else v) g=if p then W3 u g else W3 v g:=by split<;>rfl
noncomputable def Zeb(c:Ot P)(x y:Ot PFl):Ot PFl:=match c with
 |some (.bl true)=>x
 |some (.bl false)=>y
 |_=>none
@[simp] theorem ZaU{k:Bool}{x y:Ot PFl}:Zeb (some (.bl k)) x y=if k=true then x else y:=by cases k<;>rfl
@[simp] theorem ZfS:px F M .skip π=some (.nx π):=Eq.trans rfl rfl
@[simp] theorem VL:px F M (.seq s t) π=W3 (px F M s π) (px F M t):=by
 show ZdP _ _ π=_;unfold ZdP W3;rfl
@[simp] theorem ZdT:px F M (.ret a) π=(pe F a π).bind fun d=>some (.rt d):=by
 show ZdO _ π=_;unfold ZdO;cases pe F a π<;>rfl
@[simp] theorem ZdS:px F M (.ite c s t) π=Zeb (pe F c π) (px F M s π) (px F M t π):=by
 show ZdL _ _ _ π=_;unfold ZdL Zeb;rfl
@[simp] theorem ZE:Ym (o :: π) 0 x=some x :: π:=rfl
@[simp] theorem ZC:Ym (o :: π) (k+1) x=o :: Ym π k x:=rfl
theorem Zip:px F M (.set k a) π=(pe F a π).bind fun p=>some (.nx (Ym π k p)):=by
 show ZdQ k (pe F a) π=_;unfold ZdQ;cases pe F a π<;>rfl
theorem ZfR:px F [] (.set k a) π=(pe F a π).bind fun p=>some (.nx (Ym π k p)):=Zip
noncomputable def Wv(x:Ot PFl):Ot P:=match x with
 |some (.rt d)=>some d
 |some (.nx _)=>some .non
 |_=>none
@[simp] theorem Zls:Wv (some (.rt x))=some x:=Eq.trans rfl rfl
theorem ZU{T:Nat->Ot FD}{f:FD}{ds:Li P}(h:T k=some f)(hl:ds.length=f.ps):Zf T (n+1) k ds=Wv (px (Zf T n) [] f.body (ds.map some++List.replicate (f.ns - ds.length) none)):=by
 rw[Uk h];exact if_pos hl
section
variable {F:PFn}{M:Li Nat}{π π':ZH}{a b:CS}{c:CE}{v:P}
end
theorem WT{f c:P->Ot P}{p:P->Bool}{g:P->P}:∀ {xs:Li P},(∀ x∈xs,c x=some (.bl (p x)))->(∀ x∈xs,p x=true->f x=some (g x))->Yv f c xs=some ((xs.filter p).map g)
 |[],_,_=>rfl
 |x :: xs,hc,hf=>by
  have h1:=hc x Ls;have ih:=WT (fun y hy=>hc y (Lm _ hy)) (fun y hy=>hf y (Lm _ hy))
  unfold Yv;rw[h1];cases q:p x with
  |true=>
   have h2:=hf x Ls q;simp only[h2,ih,List.filter_cons,q,if_true,aP]
  |false=>
   simp only[ih,List.filter_cons,q,Bool.false_eq_true,if_false]
theorem Zco{f c:P->Ot P}{g:P->P}{xs:Li P}(hc:∀ x∈xs,c x=some (.bl true))(hf:∀ x∈xs,f x=some (g x)):Yv f c xs=some (xs.map g):=by
 rw[WT (p:=fun _=>true) hc (fun x hx _=>hf x hx)]
 rw[List.filter_eq_self.mpr (fun _ _=>rfl)]
theorem Zbw{n:Int}(h1:n < 2 ^ 62)(h2:-(2 ^ 62)<=n):Xi true (.int n)=some (Xe n):=by
 have e:Jv true (.int n)=some (Xe n):=by
  show(if n < 2 ^ 62/\-(2 ^ 62)<=n then some (Xe n) else none)=_
  rw[if_pos ⟨h1,h2⟩]
 unfold Xi;rw[e]
theorem X7(h:n<=100000):Xi true (.int (n:Int))=some (Xe (n:Int)):=
 Zbw (Int.lt_of_le_of_lt (Int.ofNat_le.mpr h) (by decide)) (Int.le_trans (by decide) (Int.natCast_nonneg n))
theorem V1:∀ {bs:Li Bool},Xn (bs.map P.bl)=some bs
 |[]=>rfl
 |b :: bs=>by show(Xn (bs.map P.bl)).map (b :: ·)=_;rw[V1];rfl
@[simp] theorem Um{f:Li Bool->Bool}{bs:Li Bool}:WO f (.lst m (bs.map P.bl))=some (.bl (f bs)):=by
 show(match Xn (bs.map P.bl) with
  |some bs=>some (P.bl (f bs))
  |none=>none)=_
 rw[V1]
@[simp] theorem Zjj:Xh .Eq (.lst m xs) (.lst m' [])=some (.bl xs.isEmpty):=by
 cases xs<;>rfl
end
noncomputable def c_around:FD:=⟨1,1,(.seq (.ret (.bin .Sub (.bin .Mod (.bin .Add (.var 0) (.cst (.int 1000000000))) (.cst (.int 2000000000))) (.cst (.int 1000000000))))
 .skip)⟩
noncomputable def ZR:CE:=(.comp false [1] (.var 0) (.cmp .In (.var 0) (.var 1)) (.cst (.bl true)))
noncomputable def c_is_made_of:FD:=⟨3,3,(.seq (.ret (.and (.and (.cmp .LtE (.cst (.int 1)) (.len (.var 0))) (.cmp .LtE (.len (.var 0)) (.var 2))) (.all ZR)))
 .skip)⟩
noncomputable def c_is_name:FD:=⟨1,1,(.seq (.ret (.call 209 (.aC (.var 0) (.aC (.cst (.str (S "abcdefghijklmnopqrstuvwxyz"))) (.aC (.cst (.int 8)) .aN))) []))
 .skip)⟩
noncomputable def c_are_figures:FD:=⟨2,2,(.seq (.ret (.and (.call 209 (.aC (.var 0) (.aC (.cst (.str (S "0123456789"))) (.aC (.var 1) .aN))) []) (.or (.cmp .Eq (.var 0) (.cst (.str (S "0")))) (.cmp .NotEq (.ix (.var 0) (.cst (.int 0))) (.cst (.str (S "0")))))))
 .skip)⟩
noncomputable def c_number_in:FD:=⟨1,3,(.seq (.set 1 (.ife (.starts (.var 0) (.aC (.cst (.str (S "-"))) .aN)) (.slice (.var 0) (.part (.cst (.int 1))) .nop) (.var 0)))
 (.seq (.ite (.or (.cmp .Eq (.var 0) (.cst (.str (S "-0")))) (.not (.call 211 (.aC (.var 1) (.aC (.cst (.int 10)) .aN)) []))) (.seq (.ret (.cst .non))
 .skip) .skip)
 (.seq (.set 2 (.intOf (.var 0)))
 (.seq (.ret (.ife (.cmp .Eq (.call 0 (.aC (.var 2) .aN) []) (.var 2)) (.var 2) (.cst .non)))
 .skip))))⟩
noncomputable def c_place_in:FD:=⟨1,1,(.seq (.ret (.ife (.call 211 (.aC (.var 0) (.aC (.cst (.int 2)) .aN)) []) (.intOf (.var 0)) (.cst .non)))
 .skip)⟩
noncomputable def c_fits:FD:=⟨2,2,(.seq (.ite (.cmp .Eq (.var 1) (.cst (.str (S "name")))) (.seq (.ret (.call 210 (.aC (.var 0) .aN) []))
 .skip) .skip)
 (.seq (.ite (.cmp .Eq (.var 1) (.cst (.str (S "number")))) (.seq (.ret (.cmp .IsNot (.call 212 (.aC (.var 0) .aN) []) (.cst .non)))
 .skip) .skip)
 (.seq (.ite (.cmp .Eq (.var 1) (.cst (.str (S "operand")))) (.seq (.ret (.or (.call 210 (.aC (.var 0) .aN) []) (.cmp .IsNot (.call 212 (.aC (.var 0) .aN) []) (.cst .non))))
 .skip) .skip)
 (.seq (.ite (.cmp .Eq (.var 1) (.cst (.str (S "put sign")))) (.seq (.ret (.cmp .In (.var 0) (.cst (.kt [(S "+"),(S "-"),(S "*"),(S "/"),(S "mod")]))))
 .skip) .skip)
 (.seq (.ite (.cmp .Eq (.var 1) (.cst (.str (S "if sign")))) (.seq (.ret (.cmp .In (.var 0) (.cst (.kt [(S "<"),(S "<="),(S "="),(S ">="),(S ">"),(S "!=")]))))
 .skip) .skip)
 (.seq (.ite (.cmp .Eq (.var 1) (.cst (.str (S "place")))) (.seq (.ret (.cmp .IsNot (.call 213 (.aC (.var 0) .aN) []) (.cst .non)))
 .skip) .skip)
 (.seq (.ret (.cmp .Eq (.var 0) (.var 1)))
 .skip)))))))⟩
noncomputable def Xt:CE:=(.comp2 [] (.aC (.slice (.var 0) (.part (.cst (.int 1))) .nop) (.aC (.var 1) .aN)) (.call 232 (.aC (.var 0) (.aC (.var 1) .aN)) []) (.cst (.bl true)))
noncomputable def c_is_line:FD:=⟨1,2,(.seq (.ite (.cmp .NotIn (.ix (.var 0) (.cst (.int 0))) (.cst (.kt [(S "take"),(S "name"),(S "put"),(S "if"),(S "go"),(S "tell"),(S "skip")]))) (.seq (.ret (.cst (.bl false)))
 .skip) .skip)
 (.seq (.set 1 (.look [(S "take"),(S "name"),(S "put"),(S "if"),(S "go"),(S "tell"),(S "skip")] [(.tup [(.str (S "name")),(.str (S "number")),(.str (S "number"))]),(.tup [(.str (S "name"))]),(.tup [(.str (S "name")),(.str (S "operand")),(.str (S "put sign")),(.str (S "operand"))]),(.tup [(.str (S "operand")),(.str (S "if sign")),(.str (S "operand")),(.str (S "go")),(.str (S "place"))]),(.tup [(.str (S "place"))]),(.tup [(.str (S "operand"))]),(.tup [])] (.ix (.var 0) (.cst (.int 0)))))
 (.seq (.ite (.or (.cmp .NotEq (.len (.var 0)) (.bin .Add (.cst (.int 1)) (.len (.var 1)))) (.not (.all Xt))) (.seq (.ret (.cst (.bl false)))
 .skip) .skip)
 (.seq (.ret (.or (.cmp .NotEq (.ix (.var 0) (.cst (.int 0))) (.cst (.str (S "take")))) (.cmp .LtE (.call 212 (.aC (.ix (.var 0) (.cst (.int 2))) .aN) []) (.call 212 (.aC (.ix (.var 0) (.cst (.int 3))) .aN) []))))
 .skip))))⟩
noncomputable def Z8:CS:=(.seq (.ite (.and (.cmp .In (.var 3) (.tupE (.aC (.cst (.str (S "name"))) (.aC (.cst (.str (S "operand"))) .aN)))) (.call 210 (.aC (.var 2) .aN) [])) (.seq (.app 1 (.var 2))
 .skip) .skip)
 .skip)
noncomputable def c_names_read:FD:=⟨1,4,(.seq (.set 1 (.lstE .aN))
 (.seq (.forP 2 3 (.aC (.slice (.var 0) (.part (.cst (.int 1))) .nop) (.aC (.look [(S "take"),(S "name"),(S "put"),(S "if"),(S "go"),(S "tell"),(S "skip")] [(.tup [(.str (S "name")),(.str (S "number")),(.str (S "number"))]),(.tup [(.str (S "name"))]),(.tup [(.str (S "name")),(.str (S "operand")),(.str (S "put sign")),(.str (S "operand"))]),(.tup [(.str (S "operand")),(.str (S "if sign")),(.str (S "operand")),(.str (S "go")),(.str (S "place"))]),(.tup [(.str (S "place"))]),(.tup [(.str (S "operand"))]),(.tup [])] (.ix (.var 0) (.cst (.int 0)))) .aN)) Z8)
 (.seq (.ret (.var 1))
 .skip)))⟩
noncomputable def c_operand_in:FD:=⟨2,2,(.seq (.ite (.call 210 (.aC (.var 0) .aN) []) (.seq (.ret (.tupE (.aC (.cst (.str (S "name"))) (.aC (.ix (.var 1) (.var 0)) .aN))))
 .skip) .skip)
 (.seq (.ret (.tupE (.aC (.cst (.str (S "number"))) (.aC (.call 212 (.aC (.var 0) .aN) []) .aN))))
 .skip))⟩
noncomputable def Jg:CS:=(.seq (.ite (.cmp .Eq (.var 4) (.cst (.str (S "name")))) (.seq (.app 2 (.ix (.var 1) (.var 3)))
 .skip) (.seq (.ite (.cmp .Eq (.var 4) (.cst (.str (S "operand")))) (.seq (.app 2 (.call 235 (.aC (.var 3) (.aC (.var 1) .aN)) []))
 .skip) (.seq (.ite (.cmp .Eq (.var 4) (.cst (.str (S "place")))) (.seq (.app 2 (.call 213 (.aC (.var 3) .aN) []))
 .skip) (.seq (.ite (.cmp .NotEq (.var 4) (.cst (.str (S "go")))) (.seq (.app 2 (.var 3))
 .skip) .skip)
 .skip))
 .skip))
 .skip))
 .skip)
noncomputable def c_row_of:FD:=⟨2,5,(.seq (.set 2 (.lstE (.aC (.ix (.var 0) (.cst (.int 0))) .aN)))
 (.seq (.forP 3 4 (.aC (.slice (.var 0) (.part (.cst (.int 1))) .nop) (.aC (.look [(S "take"),(S "name"),(S "put"),(S "if"),(S "go"),(S "tell"),(S "skip")] [(.tup [(.str (S "name")),(.str (S "number")),(.str (S "number"))]),(.tup [(.str (S "name"))]),(.tup [(.str (S "name")),(.str (S "operand")),(.str (S "put sign")),(.str (S "operand"))]),(.tup [(.str (S "operand")),(.str (S "if sign")),(.str (S "operand")),(.str (S "go")),(.str (S "place"))]),(.tup [(.str (S "place"))]),(.tup [(.str (S "operand"))]),(.tup [])] (.ix (.var 0) (.cst (.int 0)))) .aN)) Jg)
 (.seq (.ret (.tOf (.var 2)))
 .skip)))⟩
noncomputable def c_Draft___init__:FD:=⟨1,1,(.seq (.put 0 (.cst (.str (S "takes"))) (.lstE .aN))
 (.seq (.put 0 (.cst (.str (S "names"))) .dnew)
 (.seq (.put 0 (.cst (.str (S "rows"))) (.lstE .aN))
 (.seq (.put 0 (.cst (.str (S "aims"))) (.lstE .aN))
 .skip))))⟩
noncomputable def c_Draft_has_room:FD:=⟨2,3,(.seq (.ite (.cmp .Eq (.var 1) (.cst (.str (S "take")))) (.seq (.set 2 (.and (.cmp .Eq (.len (.dict [(S "names")] (.var 0))) (.len (.dict [(S "takes")] (.var 0)))) (.cmp .Eq (.len (.dict [(S "rows")] (.var 0))) (.cst (.int 0)))))
 (.seq (.ret (.and (.var 2) (.cmp .Lt (.len (.dict [(S "takes")] (.var 0))) (.cst (.int 3)))))
 .skip)) .skip)
 (.seq (.ite (.cmp .Eq (.var 1) (.cst (.str (S "name")))) (.seq (.ret (.and (.cmp .Eq (.len (.dict [(S "rows")] (.var 0))) (.cst (.int 0))) (.cmp .Lt (.len (.dict [(S "names")] (.var 0))) (.cst (.int 5)))))
 .skip) .skip)
 (.seq (.ret (.cmp .Lt (.len (.dict [(S "rows")] (.var 0))) (.cst (.int 12))))
 .skip)))⟩
noncomputable def c_Draft_read_line:FD:=⟨3,3,(.seq (.ite (.or (.not (.call 233 (.aC (.var 1) .aN) [])) (.not (.meth [(237,239)] (.var 0) (.aC (.ix (.var 1) (.cst (.int 0))) .aN)))) (.seq (.ext 224 (.var 2))
 .skip) .skip)
 (.seq (.ite (.cmp .In (.ix (.var 1) (.cst (.int 0))) (.tupE (.aC (.cst (.str (S "take"))) (.aC (.cst (.str (S "name"))) .aN)))) (.seq (.act (.meth [(237,241)] (.var 0) (.aC (.var 1) (.aC (.var 2) .aN))))
 .skip) (.seq (.act (.meth [(237,242)] (.var 0) (.aC (.var 1) (.aC (.var 2) .aN))))
 .skip))
 .skip))⟩
noncomputable def c_Draft_read_name:FD:=⟨3,3,(.seq (.ite (.cmp .In (.ix (.var 1) (.cst (.int 1))) (.dict [(S "names")] (.var 0))) (.seq .stop
 .skip) .skip)
 (.seq (.dput 0 (.dict [(S "names")] (.var 0)) (.ix (.var 1) (.cst (.int 1))) (.len (.dict [(S "names")] (.var 0))))
 (.seq (.ite (.cmp .Eq (.ix (.var 1) (.cst (.int 0))) (.cst (.str (S "take")))) (.seq (.app2 (.dict [(S "takes")] (.var 0)) (.tupE (.aC (.call 212 (.aC (.ix (.var 1) (.cst (.int 2))) .aN) []) (.aC (.call 212 (.aC (.ix (.var 1) (.cst (.int 3))) .aN) []) .aN))))
 .skip) .skip)
 .skip)))⟩
noncomputable def Yu:CS:=(.seq (.ite (.cmp .NotIn (.var 3) (.dict [(S "names")] (.var 0))) (.seq (.ext 226 (.var 2))
 .skip) .skip)
 .skip)
noncomputable def c_Draft_read_row:FD:=⟨3,5,(.seq (.for1 3 false (.call 234 (.aC (.var 1) .aN) []) Yu)
 (.seq (.set 4 (.call 236 (.aC (.var 1) (.aC (.dict [(S "names")] (.var 0)) .aN)) []))
 (.seq (.app2 (.dict [(S "rows")] (.var 0)) (.var 4))
 (.seq (.ite (.cmp .In (.ix (.var 4) (.cst (.int 0))) (.tupE (.aC (.cst (.str (S "if"))) (.aC (.cst (.str (S "go"))) .aN)))) (.seq (.app2 (.dict [(S "aims")] (.var 0)) (.tupE (.aC (.var 2) (.aC (.ix (.var 4) (.neg (.cst (.int 1)))) .aN))))
 .skip) .skip)
 .skip))))⟩
noncomputable def Y8:CS:=(.seq (.ite (.cmp .Gt (.var 2) (.len (.dict [(S "rows")] (.var 0)))) (.seq .stop
 .skip) .skip)
 .skip)
noncomputable def c_Draft_check_places:FD:=⟨1,3,(.seq (.for2 1 2 (.dict [(S "aims")] (.var 0)) Y8)
 .skip)⟩
noncomputable def c_Draft_told:FD:=⟨1,1,(.seq (.ret (.tupE (.aC (.tOf (.dict [(S "takes")] (.var 0))) (.aC (.len (.dict [(S "names")] (.var 0))) (.aC (.tOf (.dict [(S "rows")] (.var 0))) .aN)))))
 .skip)⟩
noncomputable def Zx:CS:=(.seq (.ite (.and (.cmp .NotEq (.var 3) (.cst (.str (S "")))) (.not (.starts (.var 3) (.aC (.cst (.str (S "#"))) .aN)))) (.seq (.act (.meth [(237,240)] (.var 1) (.aC (.tix (.var 3) (.aC (.cst (.str (S " "))) .aN)) (.aC (.var 2) .aN))))
 .skip) .skip)
 .skip)
noncomputable def c_read:FD:=⟨1,4,(.seq (.set 1 (.isc [237,238] .aN))
 (.seq (.forE 2 3 (.tix (.var 0) (.aC (.cst (.str (S "\n"))) .aN)) Zx)
 (.seq (.act (.meth [(237,243)] (.var 1) .aN))
 (.seq (.ret (.meth [(237,244)] (.var 1) .aN))
 .skip))))⟩
noncomputable def c__law_whole:FD:=⟨1,1,(.seq (.ret (.and (.isi .int (.var 0)) (.not (.isi .bool (.var 0)))))
 .skip)⟩
noncomputable def c__law_cell_at:FD:=⟨2,2,(.seq (.ite (.cmp .Lt (.var 1) (.len (.var 0))) (.seq (.ret (.ix (.var 0) (.var 1)))
 .skip) .skip)
 (.seq (.ite (.cmp .Eq (.var 0) (.lstE .aN)) (.seq (.ret (.bin .Mod (.bin .Mult (.bin .Add (.bin .Mult (.var 1) (.var 1)) (.cst (.int 7))) (.cst (.int 48271))) (.cst (.int 2147483629))))
 .skip) .skip)
 (.seq (.ret (.bin .Mod (.bin .Mult (.bin .Add (.bin .Mod (.ix (.var 0) (.cst (.int 0))) (.cst (.int 2147483647))) (.cst (.int 7))) (.bin .Add (.bin .Mult (.var 1) (.var 1)) (.cst (.int 48271)))) (.cst (.int 2147483629))))
 .skip)))⟩
noncomputable def Z9:CE:=(.comp true [0,2] (.bin .Add (.cst (.int 1)) (.bin .Mod (.var 1) (.cst (.int 8)))) (.ix (.var 2) (.bin .Mod (.bin .FloorDiv (.var 1) (.bin .Add (.var 0) (.cst (.int 1)))) (.cst (.int 26)))) (.cst (.bl true)))
noncomputable def Xs:CE:=(.comp true [4,3,5,2] (.cst (.int 7)) (.bin .Add (.bin .Add (.slice (.var 2) .nop (.part (.var 1))) (.ix (.var 4) (.bin .Mod (.bin .Add (.var 3) (.bin .Mult (.cst (.int 3)) (.var 0))) (.cst (.int 26))))) (.slice (.var 2) (.part (.bin .Add (.var 1) (.cst (.int 1)))) .nop)) (.cst (.bl true)))
noncomputable def c__law_names:FD:=⟨2,6,(.seq (.set 2 (.cst (.str (S "abcdefghijklmnopqrstuvwxyz"))))
 (.seq (.set 3 (.joinE (.cst (.str (S ""))) Z9))
 (.seq (.set 4 (.bin .Mod (.bin .FloorDiv (.var 1) (.cst (.int 8))) (.len (.var 3))))
 (.seq (.set 5 (.bin .Mod (.bin .FloorDiv (.var 1) (.cst (.int 64))) (.cst (.int 26))))
 (.seq (.ret Xs)
 .skip)))))⟩
noncomputable def c__law_told_k16:FD:=⟨1,2,(.seq (.set 1 (.lstE (.aC (.isc [0,0,0,224] (.var 0)) (.aC (.isc [0,0,0] (.var 0)) (.aC (.isc [0,0,0,226] (.var 0)) (.aC (.isc [0,0,0] (.var 0)) .aN))))))
 (.seq (.set 1 (.bin .Add (.var 1) (.lstE (.aC (.isc [0,0,0] (.var 0)) (.aC (.isc [0,0,0] (.var 0)) .aN)))))
 (.seq (.ret (.tupE (.aC (.var 1) (.aC (.and (.isc [0,0,0,224,226] (.var 0)) (.isc [0,0,0,224,226] (.var 0))) (.aC (.isc [0] (.var 0)) .aN)))))
 .skip)))⟩
noncomputable def c__law_refused:FD:=⟨1,3,(.seq (.set 1 (.cst .non))
 (.seq (.whl (.compT [224,226] (.var 2) (.call 245 (.aC (.var 0) .aN) []) .nop) (.set 1 (.call 230 (.aC (.var 2) .aN) [])))
 (.seq (.ret (.var 1))
 .skip)))⟩
noncomputable def c__law_sizes:FD:=⟨2,5,(.seq (.set 2 (.bin .Mod (.var 1) (.cst (.int 4))))
 (.seq (.set 3 (.bin .Add (.var 2) (.bin .Mod (.bin .FloorDiv (.var 1) (.cst (.int 4))) (.bin .Sub (.cst (.int 6)) (.var 2)))))
 (.seq (.set 4 (.bin .Mod (.bin .FloorDiv (.var 1) (.cst (.int 120))) (.cst (.int 12))))
 (.seq (.ite (.cmp .Eq (.var 0) (.cst (.int 0))) (.seq (.ret (.tupE (.aC (.var 2) (.aC (.cst (.int 5)) (.aC (.cst (.int 0)) .aN)))))
 .skip) .skip)
 (.seq (.ite (.cmp .In (.var 0) (.tupE (.aC (.cst (.int 1)) (.aC (.cst (.int 9)) .aN)))) (.seq (.ret (.tupE (.aC (.var 2) (.aC (.max (.cst (.int 1)) (.min (.var 3) (.cst (.int 4)))) (.aC (.var 4) .aN)))))
 .skip) .skip)
 (.seq (.ite (.cmp .Eq (.var 0) (.cst (.int 2))) (.seq (.ret (.tupE (.aC (.max (.cst (.int 1)) (.min (.var 2) (.cst (.int 2)))) (.aC (.max (.cst (.int 1)) (.min (.var 2) (.cst (.int 2)))) (.aC (.cst (.int 0)) .aN)))))
 .skip) .skip)
 (.seq (.ite (.cmp .Eq (.var 0) (.cst (.int 3))) (.seq (.ret (.tupE (.aC (.min (.var 2) (.cst (.int 2))) (.aC (.bin .Add (.bin .Add (.cst (.int 1)) (.min (.var 2) (.cst (.int 2)))) (.bin .Mod (.bin .FloorDiv (.var 1) (.cst (.int 120))) (.bin .Sub (.cst (.int 4)) (.min (.var 2) (.cst (.int 2)))))) (.aC (.cst (.int 0)) .aN)))))
 .skip) .skip)
 (.seq (.ite (.cmp .In (.var 0) (.tupE (.aC (.cst (.int 4)) (.aC (.cst (.int 5)) .aN)))) (.seq (.ret (.tupE (.aC (.cst (.int 3)) (.aC (.bin .Add (.cst (.int 3)) (.bin .Mod (.bin .FloorDiv (.var 1) (.cst (.int 120))) (.cst (.int 2)))) (.aC (.cst (.int 0)) .aN)))))
 .skip) .skip)
 (.seq (.ite (.cmp .Eq (.var 0) (.cst (.int 6))) (.seq (.ret (.tupE (.aC (.var 2) (.aC (.var 3) (.aC (.cst (.int 12)) .aN)))))
 .skip) .skip)
 (.seq (.ite (.cmp .Eq (.var 0) (.cst (.int 10))) (.seq (.ret (.tupE (.aC (.min (.var 2) (.cst (.int 2))) (.aC (.min (.var 2) (.cst (.int 2))) (.aC (.max (.cst (.int 1)) (.var 4)) .aN)))))
 .skip) .skip)
 (.seq (.ite (.cmp .Eq (.var 0) (.cst (.int 11))) (.seq (.ret (.tupE (.aC (.var 2) (.aC (.min (.var 3) (.cst (.int 4))) (.aC (.max (.cst (.int 1)) (.var 4)) .aN)))))
 .skip) .skip)
 (.seq (.ret (.tupE (.aC (.var 2) (.aC (.var 3) (.aC (.var 4) .aN)))))
 .skip))))))))))))⟩
noncomputable def c__law_last:FD:=⟨4,6,(.seq (.set 4 (.ix (.var 1) (.bin .Mod (.var 3) (.max (.cst (.int 1)) (.var 2)))))
 (.seq (.set 5 (.ix (.var 1) (.cst (.int 6))))
 (.seq (.ite (.cmp .In (.var 0) (.tupE (.aC (.cst (.int 0)) (.aC (.cst (.int 1)) .aN)))) (.seq (.ret (.bin .Add (.cst (.str (S "name "))) (.var 4)))
 .skip) .skip)
 (.seq (.ite (.cmp .Eq (.var 0) (.cst (.int 2))) (.seq (.ret (.bin .Add (.bin .Add (.cst (.str (S "take "))) (.var 4)) (.cst (.str (S " 5 4")))))
 .skip) .skip)
 (.seq (.ite (.or (.cmp .Eq (.var 0) (.cst (.int 4))) (.and (.cmp .Eq (.var 0) (.cst (.int 3))) (.cmp .Eq (.bin .Mod (.var 3) (.cst (.int 2))) (.cst (.int 0))))) (.seq (.ret (.bin .Add (.bin .Add (.cst (.str (S "take "))) (.var 4)) (.cst (.str (S " 4 5")))))
 .skip) .skip)
 (.seq (.ite (.cmp .Eq (.var 0) (.cst (.int 3))) (.seq (.ret (.bin .Add (.bin .Add (.cst (.str (S "take "))) (.var 5)) (.cst (.str (S " 4 5")))))
 .skip) .skip)
 (.seq (.ite (.or (.cmp .Eq (.var 0) (.cst (.int 5))) (.and (.cmp .Eq (.var 0) (.cst (.int 10))) (.or (.cmp .Eq (.bin .Mod (.var 3) (.cst (.int 2))) (.cst (.int 0))) (.cmp .Eq (.var 2) (.cst (.int 0)))))) (.seq (.ret (.bin .Add (.bin .Add (.cst (.str (S "take "))) (.var 5)) (.cst (.str (S " 4 5")))))
 .skip) .skip)
 (.seq (.ite (.cmp .Eq (.var 0) (.cst (.int 10))) (.seq (.ret (.bin .Add (.bin .Add (.cst (.str (S "take "))) (.ix (.var 1) (.bin .Mod (.bin .FloorDiv (.var 3) (.cst (.int 2))) (.var 2)))) (.cst (.str (S " 4 5")))))
 .skip) .skip)
 (.seq (.ite (.cmp .Eq (.var 0) (.cst (.int 11))) (.seq (.ret (.bin .Add (.cst (.str (S "name "))) (.var 5)))
 .skip) .skip)
 (.seq (.ite (.cmp .Eq (.var 0) (.cst (.int 6))) (.seq (.ret (.bin .Add (.cst (.str (S "tell "))) (.var 5)))
 .skip) .skip)
 (.seq (.ite (.cmp .Eq (.var 0) (.cst (.int 7))) (.seq (.ret (.ix (.lstE (.aC (.bin .Add (.bin .Add (.cst (.str (S "put "))) (.var 5)) (.cst (.str (S " 1 ** 1")))) (.aC (.bin .Add (.bin .Add (.cst (.str (S "if "))) (.var 5)) (.cst (.str (S " == 1 go 0")))) (.aC (.bin .Add (.bin .Add (.cst (.str (S "tell "))) (.var 5)) (.cst (.str (S " 1")))) .aN)))) (.bin .Mod (.var 3) (.cst (.int 3)))))
 .skip) .skip)
 (.seq (.ret (.ix (.lstE (.aC (.bin .Add (.bin .Add (.cst (.str (S "if "))) (.var 5)) (.cst (.str (S " < 1 go 99")))) (.aC (.bin .Add (.bin .Add (.cst (.str (S "if 2 < "))) (.var 5)) (.cst (.str (S " go 98")))) .aN))) (.bin .Mod (.var 3) (.cst (.int 2)))))
 .skip))))))))))))⟩
noncomputable def c__law_read:FD:=⟨1,2,(.seq (.set 1 (.cst .non))
 (.seq (.set 1 (.call 245 (.aC (.var 0) .aN) []))
 (.seq (.ret (.var 1))
 .skip)))⟩
noncomputable def YH:CE:=(.comp true [1] (.var 5) (.bin .Add (.bin .Add (.bin .Add (.bin .Add (.cst (.str (S "take "))) (.ix (.var 1) (.var 0))) (.cst (.str (S " ")))) (.strOf (.bin .Sub (.var 0) (.cst (.int 9))))) (.cst (.str (S " 9")))) (.cst (.bl true)))
noncomputable def YI:CE:=(.comp false [1] (.rng2 (.var 5) (.var 6)) (.bin .Add (.cst (.str (S "name "))) (.ix (.var 1) (.var 0))) (.cst (.bl true)))
noncomputable def Yj:CE:=(.comp true [] (.var 5) (.tupE (.aC (.bin .Sub (.var 0) (.cst (.int 9))) (.aC (.cst (.int 9)) .aN))) (.cst (.bl true)))
noncomputable def Z3:CE:=(.comp true [4] (.cst (.int 4)) (.cmp .Eq (.var 0) (.ix (.lstE (.aC (.cst (.int 0)) (.aC (.cst (.int 0)) (.aC (.cst (.int 0)) (.aC (.cst (.int 0)) (.aC (.cst (.int 0)) (.aC (.cst (.int 0)) (.aC (.cst (.int 0)) (.aC (.cst (.int 0)) (.aC (.cst (.int 2)) (.aC (.cst (.int 2)) (.aC (.cst (.int 0)) (.aC (.cst (.int 0)) .aN))))))))))))) (.var 1))) (.cst (.bl true)))
noncomputable def Zt:CS:=(.seq (.set 3 (.bin .Mod (.call 27 (.aC (.var 0) (.aC (.bin .Add (.var 2) (.cst (.int 1))) .aN)) []) (.bin .Pow (.cst (.int 10)) (.cst (.int 12)))))
 (.seq (.set 4 (.bin .Mod (.call 27 (.aC (.var 0) (.aC (.var 2) .aN)) []) (.cst (.int 12))))
 (.seq (.set3 5 6 7 (.call 252 (.aC (.var 4) (.aC (.var 3) .aN)) []))
 (.seq (.ite (.and (.cmp .Eq (.var 4) (.cst (.int 1))) (.cmp .Eq (.var 7) (.cst (.int 0)))) (.seq (.set 7 (.cst (.int 1)))
 .skip) .skip)
 (.seq (.set 8 YH)
 (.seq (.set 8 (.bin .Add (.bin .Add (.var 8) YI) (.bin .Mult (.lstE (.aC (.cst (.str (S "skip"))) .aN)) (.var 7))))
 (.seq (.ite (.cmp .NotEq (.call 248 (.aC (.joinE (.cst (.str (S "\n"))) (.var 8)) .aN) []) (.tupE (.aC (.tOf Yj) (.aC (.var 6) (.aC (.bin .Mult (.tupE (.aC (.tupE (.aC (.cst (.str (S "skip"))) .aN)) .aN)) (.var 7)) .aN))))) (.seq (.ret (.cst (.bl false)))
 .skip) .skip)
 (.seq (.set 9 (.call 253 (.aC (.var 4) (.aC (.var 1) (.aC (.var 6) (.aC (.bin .FloorDiv (.var 3) (.cst (.int 1440))) .aN)))) []))
 (.seq (.ite (.cmp .Eq (.var 4) (.cst (.int 9))) (.seq (.set 9 (.bin .Add (.bin .Add (.cst (.str (S "put "))) (.ix (.var 1) (.var 6))) (.cst (.str (S " 1 + 1")))))
 (.seq (.set 8 (.slice (.var 8) .nop (.part (.var 6))))
 .skip)) .skip)
 (.seq (.set 10 (.ix (.lstE (.aC (.lstE .aN) (.aC (.lstE (.aC (.bin .Add (.cst (.str (S "name "))) (.ix (.var 1) (.bin .Mod (.var 6) (.cst (.int 7))))) .aN)) .aN))) (.intOf (.cmp .Eq (.var 4) (.cst (.int 9))))))
 (.seq (.set 11 (.call 229 (.aC (.joinE (.cst (.str (S "\n"))) (.bin .Add (.bin .Add (.var 8) (.lstE (.aC (.var 9) .aN))) (.var 10))) .aN) []))
 (.seq (.set 12 (.bin .Add Z3 (.lstE (.aC (.cst (.bl false)) (.aC (.cst (.bl false)) .aN)))))
 (.seq (.ite (.or (.cmp .Is (.var 11) (.cst .non)) (.or (.not (.call 17 (.aC (.ix (.var 11) (.cst (.int 2))) .aN) [])) (.or (.cmp .NotEq (.slice (.var 11) .nop (.part (.cst (.int 2)))) (.tupE (.aC (.var 12) (.aC (.cst (.bl true)) .aN)))) (.cmp .NotEq (.ix (.var 11) (.cst (.int 2))) (.bin .Add (.len (.var 8)) (.cst (.int 1))))))) (.seq (.ret (.cst (.bl false)))
 .skip) .skip)
 .skip)))))))))))))
noncomputable def c_law_k16:FD:=⟨1,13,(.seq (.set 1 (.call 249 (.aC (.call 27 (.aC (.var 0) (.aC (.cst (.int 0)) .aN)) []) (.aC (.call 27 (.aC (.var 0) (.aC (.cst (.int 1)) .aN)) []) .aN)) []))
 (.seq (.for3 2 (.aC (.cst (.int 2)) (.aC (.max (.cst (.int 4)) (.min (.len (.var 0)) (.cst (.int 42)))) (.aC (.cst (.int 2)) .aN))) Zt)
 (.seq (.ret (.cst (.bl true)))
 .skip)))⟩
end Dp

noncomputable section
namespace Dp
open PySem
def Yp(x:Int):Int:=(x+1000000000) % 2000000000 - 1000000000
def Sm(a:Int):Prop:=-1000000000<=a/\a<=999999999
instance {a:Int}:Decidable (Sm a):=inferInstanceAs (Decidable (_/\_))
section
variable {T:Nat->Ot FD}{n:Nat}{a b x:Int}{s:Str}
theorem ZbV(h:T 0=some c_around):Zf T (n+1) 0 [.int x]=some (.int (Yp x)):=by
 rw[ZU (f:=c_around) h rfl];simp[c_around,Yp]
end
section
variable {T:Nat->Ot FD}{n:Nat}{a b c x:Int}{s:Str}
theorem Zeu(h:T 17=some c__law_whole):Zf T (n+1) 17 [.int x]=some (.bl true):=by
 rw[ZU (f:=c__law_whole) h rfl];simp[c__law_whole]
end
variable{M:Li Nat}{e:CE}{π:ZH}
section
theorem Zy{F:PFn}{c:CE}{r:CS}{v:P}(h:pe F c π=some (.bl true))(he:pe F e π=some v):px F M (.seq (.ite c (.seq (.ret e) .skip) .skip) r) π=some (.rt v):=by
 rw[VL,ZdS,h,ZaU,if_pos rfl,VL,ZdT,he];rfl
theorem Zg{F:PFn}{c:CE}{a r:CS}(h:pe F c π=some (.bl false)):px F M (.seq (.ite c a .skip) r) π=px F M r π:=by
 rw[VL,ZdS,h,ZaU,if_neg Bf,ZfS,ZaV]
theorem Xg{F:PFn}{k:Nat}{r:CS}{v:P}(h:pe F e π=some v):px F [] (.seq (.set k e) r) π=px F [] r (Ym π k v):=by
 rw[VL,ZfR,h,Ob,ZaV]
theorem YV{F:PFn}{r:CS}{v:P}(h:pe F e π=some v):px F M (.seq (.ret e) r) π=some (.rt v):=by
 rw[VL,ZdT,h];rfl
end
def Wg(ns:Li Int)(k:Nat):Int:=if k < ns.length then ns.getD k 0 else if ns=[] then ((k:Int) * k+7) * 48271 % 2147483629 else (ns.getD 0 0 % 2147483647+7) * ((k:Int) * k+48271) % 2147483629
section
variable {T:Nat->Ot FD}{n:Nat}{ns:Li Int}{k m size:Nat}{x c d:Int}
theorem ZhA{F:PFn}(h:k < ns.length):px F [] c__law_cell_at.body [some (.lst false (ns.map .int)),some (.int (k:Int))]=some (.rt (.int (ns.getD k 0))):=by
 have e:(ns.map P.int)[k]?=some (.int (ns.getD k 0)):=by
  rw[aX,List.getD_eq_getElem?_getD,Lg h];rfl
 have h':(k:Int) < (ns.length:Int):=by omega
 simp[c__law_cell_at,h',h,e]
theorem ZhB{F:PFn}{j:Int}(hj:¬j < 0)(lk:ZM j=true):px F [] c__law_cell_at.body [some (.lst false []),some (.int j)]=some (.rt (.int ((j * j+7) * 48271 % 2147483629))):=by
 have l2:ZM 48271=true:=by decide
 simp[c__law_cell_at,lk,l2,hj]
theorem ZhC{F:PFn}{j a:Int}{xs:Li P}(hj:¬j < (xs.length:Int)+1)(lk:ZM j=true)(la:ZM (a % 2147483647+7)=true):px F [] c__law_cell_at.body [some (.lst false (.int a :: xs)),some (.int j)]=some (.rt (.int ((a % 2147483647+7) * (j * j+48271) % 2147483629))):=by
 simp[c__law_cell_at,lk,la,hj]
theorem ZaA(hk:k<=100000):ZM (k:Int)=true:=Zaz (by omega) (by omega)
theorem Zbf{F:PFn}(hk:k<=100000):px F [] c__law_cell_at.body [some (.lst false (ns.map .int)),some (.int (k:Int))]=some (.rt (.int (Wg ns k))):=by
 unfold Wg;by_cases h:k < ns.length
 ·rw[if_pos h];exact ZhA h
 ·rw[if_neg h]
  cases ns with
  |nil=>exact ZhB (by omega) (ZaA hk)
  |cons a ns=>
   rw[if_neg (by intro z;cases z)]
   have q0:=cJ a (show(2147483647:Int)≠0 by omega)
   have q1:=cV a (show(0:Int) < 2147483647 by omega)
   exact ZhC (xs:=ns.map P.int) (by simp at h ⊢;omega) (ZaA hk) (Zaz (by omega) (by omega))
theorem Zhb(h:T 27=some c__law_cell_at)(hk:k<=100000):Zf T (n+1) 27 [.lst false (ns.map .int),.int (k:Int)]=some (.int (Wg ns k)):=by
 rw[ZU (f:=c__law_cell_at) h rfl];show Wv (px (Zf T n) [] c__law_cell_at.body [some (.lst false (ns.map .int)),some (.int (k:Int))])=_;rw[Zbf hk];rfl
end
theorem Zh5:∀ w:Nat,w < 12->w=0\/w=1\/w=2\/w=3\/w=4\/w=5\/w=6\/w=7\/w=8\/w=9\/w=10\/w=11:=by decide
variable{ws:Li Str}{α:Type}
section
variable {n:Nat}{F:PFn}{π:ZH}{x y:Str}{a b:CE}{j k:Nat}
theorem QN:pe F (.joinE a b) π=(pe F a π).bind fun x=>(pe F b π).bind fun y=>Uf x y:=XF
theorem YN(h:x.cps.toList=y.cps.toList):x=y:=by
 cases x;cases y
 congr 1
 exact Array.ext' h
theorem Zn:x.cps.toList.length=x.length:=aZ
theorem ZK:(x++y).cps.toList=x.cps.toList++y.cps.toList:=by
 show(x.cps++y.cps).toList=_;rw[Array.toList_append]
theorem VU:∀ {ys:Li Str},W2 (ys.map P.str)=some ys
 |[]=>rfl
 |y :: ys=>by
  show(W2 (ys.map P.str)).map (y :: ·)=_;rw[VU];rfl
structure Tx(F:PFn)(π:ZH)(j:Nat)(a:CE)(x:Str):Prop where
 e:pe F a π=some (.str x)
 l:x.length<=j
theorem Tx.add(ha:Tx F π j a x)(hb:Tx F π k b y)(h:j+k<=1000):Tx F π (j+k) (.bin .Add a b) (x++y):=by
 have h1:=ha.l;have h2:=hb.l;refine⟨?_,?_⟩
 ·rw[Yn,ha.e,hb.e]
  show(if XZ .Add=true/\x.length+y.length<=Ze then some (P.str (x++y)) else none)=_
  rw[if_pos ⟨rfl,by unfold Ze;omega⟩]
 ·rw[<-Zn,ZK,aI,Zn,Zn];omega
theorem Tx.cst{s:Str}(h:s.length<=j):Tx F π j (.cst (.str s)) s:=⟨by rfl,h⟩
def gl(s:Str)(ws:Li Str):Str:=⟨(Xv s ws).toArray⟩
theorem gl_list{s:Str}:(gl s ws).cps.toList=Xv s ws:=cU
theorem WH{s:Str}(hs:s.length=1):∀ {ws:Li Str},(∀ w∈ws,w.length<=j)->(Z6 s ws).length<=ws.length * (j+1)
 |[],_=>by show 0<=_;omega
 |w :: ws,h=>by
  have h1:=h w Ls;have h2:=WH hs (ws:=ws) fun z hz=>h z (Lm _ hz)
  show((s.cps.toList++w.cps.toList)++Z6 s ws).length<=(ws.length+1) * (j+1);rw[aI,aI,Zn,Zn,hs,Nat.add_mul];omega
theorem ZcK{s:Str}(hs:s.length=1){ws:Li Str}(h:∀ w∈ws,w.length<=j):(Xv s ws).length<=ws.length * (j+1):=by
 cases ws with
 |nil=>show 0<=_;omega
 |cons w ws=>
  have h1:=h w Ls;have h2:=WH hs (ws:=ws) fun z hz=>h z (Lm _ hz)
  show(w.cps.toList++Z6 s ws).length<=(ws.length+1) * (j+1);rw[aI,Zn,Nat.add_mul];omega
theorem ZcJ{s:Str}(hs:s.length=1){ws:Li Str}(h:∀ w∈ws,w.length<=j):(gl s ws).length<=ws.length * (j+1):=by
 rw[<-Zn,gl_list];exact ZcK hs h
theorem Zft{s:Str}(hs:s.length=1){ws:Li Str}{m:Bool}(h:∀ w∈ws,w.length<=j)(hl:ws.length * (j+1)<=100000):Uf (.str s) (.lst m (ws.map P.str))=some (.str (gl s ws)):=by
 have h2:=WH hs h;show(if s.length=0 then WK (ws.map P.str) else WJ s (ws.map P.str))=_
 rw[if_neg (by omega)]
 unfold WJ;rw[VU];simp only;rw[if_pos (by unfold Ze;omega)]
 rfl
theorem UF{α:Type}{f c:P->Ot P}{enc g:α->P}:∀ {l:Li α},(∀ a∈l,c (enc a)=some (.bl true))->(∀ a∈l,f (enc a)=some (g a))->Yv f c (l.map enc)=some (l.map g)
 |[],_,_=>rfl
 |a :: l,hc,hf=>by
  have e:=UF (l:=l) (fun z hz=>hc z (Lm _ hz)) (fun z hz=>hf z (Lm _ hz))
  rw[aP,aP];unfold Yv;rw[hc a Ls,hf a Ls];simp only;rw[e]
theorem Y0{it elt:CE}{rng:Bool}{fr:Li Nat}{x:P}{enc g:α->P}{l:Li α}(hi:pe F it π=some x)(hw:Xi rng x=some (l.map enc))(hl:l.length<=1000)(hf:∀ a∈l,pe F elt (Y1 π fr (enc a))=some (g a)):pe F (.comp rng fr it elt (.cst (.bl true))) π=some (.lst true (l.map g)):=by
 rw[ZaM,hi,Ob,hw,Ob,if_pos (by rw[aF];exact hl),UF (enc:=enc) (g:=g) (c:=fun p=>pe F (.cst (.bl true)) (Y1 π fr p)) (fun _ _=>rfl) hf]
 rfl
end
noncomputable def num:Li (Str×Nat):=[(S "HuntError",177),(S "TextError",222),(S "TextError.__init__",223),(S "NoLine",224),(S "Twice",225),(S "NoName",226),(S "NoPlace",227),(S "TooWide",189),(S "TooWide.__init__",190),(S "TooMany",178),(S "TooMany.__init__",179),(S "around",0),(S "is_made_of",209),(S "is_name",210),(S "are_figures",211),(S "number_in",212),(S "place_in",213),(S "fits",232),(S "is_line",233),(S "names_read",234),(S "operand_in",235),(S "row_of",236),(S "Draft",237),(S "Draft.__init__",238),(S "Draft.has_room",239),(S "Draft.read_line",240),(S "Draft.read_name",241),(S "Draft.read_row",242),(S "Draft.check_places",243),(S "Draft.told",244),(S "read",245),(S "_law_whole",17),(S "_law_cell_at",27),(S "_law_names",249),(S "_law_told",230),(S "_law_refused",229),(S "_law_sizes",252),(S "_law_last",253),(S "_law_read",248),(S "law",16)]
noncomputable def T:Nat->Ot FD
 |0=>some c_around
 |209=>some c_is_made_of
 |210=>some c_is_name
 |211=>some c_are_figures
 |212=>some c_number_in
 |213=>some c_place_in
 |232=>some c_fits
 |233=>some c_is_line
 |234=>some c_names_read
 |235=>some c_operand_in
 |236=>some c_row_of
 |238=>some c_Draft___init__
 |239=>some c_Draft_has_room
 |240=>some c_Draft_read_line
 |241=>some c_Draft_read_name
 |242=>some c_Draft_read_row
 |243=>some c_Draft_check_places
 |244=>some c_Draft_told
 |245=>some c_read
 |17=>some c__law_whole
 |27=>some c__law_cell_at
 |249=>some c__law_names
 |230=>some c__law_told_k16
 |229=>some c__law_refused
 |252=>some c__law_sizes
 |253=>some c__law_last
 |248=>some c__law_read
 |16=>some c_law_k16
 |_=>none
section
variable {n:Nat}{F:PFn}{π:ZH}{a b:CE}{x sg:Str}{m:Int}
theorem ZbG:pe F (.starts a b) π=(pe F a π).bind fun x=>(pe F b π).bind fun y=>Vk x y:=XF
structure Wd(x:Str):Prop where
 len:x.length<=60
 asc:∀ c∈x.cps.toList,c < 128
theorem Wd.le(h:Wd x):x.length<=Ze:=aG h.len (by decide)
theorem Wd.all(h:Wd x):x.cps.all (fun c=>decide (c < 128))=true:=by
 rw[<-Array.all_toList,bY];exact fun c hc=>aW (h.asc c hc)
theorem Wd.walk(h:Wd x):Xi false (.str x)=some ((chS x).map .str):=by
 show(if x.cps.all (fun c=>decide (c < 128))=true then some ((chS x).map P.str) else none)=_
 rw[if_pos h.all]
theorem ZeS:(chS x).length=x.length:=by
 unfold chS;rw[aF];exact aZ
theorem len_str(h:Wd x):Jy (.str x)=some (.int (x.length:Int)):=by
 show(if x.length<=Ze then some (P.int x.length) else none)=_
 rw[if_pos h.le]
def mkd(x sg:Str):Bool:=(chS x).all fun c=>QK sg c
theorem ZbD(h:Wd x):pe F ZR [some (.str x),some (.str sg),some (.int m)]=some (.lst true (((chS x).map fun c=>QK sg c).map P.bl)):=by
 unfold ZR;rw[ZaM];show(Xi false (.str x)).bind _=_;rw[h.walk,Ob,if_pos (by rw[aF,ZeS];have:=h.len;omega)]
 rw[Zco (c:=fun p=>pe F (.cst (.bl true)) (Y1 [some (.str x),some (.str sg),some (.int m)] [1] p)) (g:=fun p=>match p with
  |.str c=>.bl (QK sg c)
  |p=>p) (fun _ _=>rfl) (fun p hp=>by
  obtain⟨c,_,rfl⟩:=bC.mp hp;rfl)]
 rw[Ob,aV,aV];rfl
def mdB(x sg:Str)(m:Int):Bool:=decide ((1:Int)<=x.length)&&decide ((x.length:Int)<=m)&&mkd x sg
theorem ZbY(h:Wd x):Zf T (n+1) 209 [.str x,.str sg,.int m]=some (.bl (mdB x sg m)):=by
 rw[ZU (f:=c_is_made_of) rfl rfl];have e:=ZbD (F:=Zf T n) (sg:=sg) (m:=m) h;have l:=len_str h;have q:WO (fun l=>l.all id) (.lst true (((chS x).map fun c=>QK sg c).map P.bl))=some (.bl (mkd x sg)):=by
  rw[Um];unfold mkd;rw[List.all_map];rfl
 show Wv (px (Zf T n) [] (.seq (.ret (.and (.and (.cmp .LtE (.cst (.int 1)) (.len (.var 0))) (.cmp .LtE (.len (.var 0)) (.var 2))) (.all ZR))) .skip) [some (.str x),some (.str sg),some (.int m)])=_;rw[YV (v:=.bl (mdB x sg m)) (by
  have c1:pe (Zf T n) (.cmp .LtE (.cst (.int 1)) (.len (.var 0))) [some (.str x),some (.str sg),some (.int m)]=some (.bl (decide ((1:Int)<=x.length))):=by
   rw[Z1,UY];show((Jy (.str x)).bind fun y=>Xh .LtE (.int 1) y)=_
   rw[l];rfl
  have c2:pe (Zf T n) (.cmp .LtE (.len (.var 0)) (.var 2)) [some (.str x),some (.str sg),some (.int m)]=some (.bl (decide ((x.length:Int)<=m))):=by
   rw[Z1,UY];show((Jy (.str x)).bind fun y=>Xh .LtE y (.int m))=_
   rw[l];rfl
  have c3:pe (Zf T n) (.all ZR) [some (.str x),some (.str sg),some (.int m)]=some (.bl (mkd x sg)):=by
   rw[ZdG,e];exact q
  rw[pe_and,pe_and,c1,c2,c3];unfold mdB;cases decide ((1:Int)<=x.length)<;>cases decide ((x.length:Int)<=m)<;>rfl)]
 rfl
theorem Zhg(h:Wd x):Zf T (n+2) 210 [.str x]=some (.bl (mdB x (S "abcdefghijklmnopqrstuvwxyz") 8)):=by
 rw[ZU (f:=c_is_name) rfl rfl];have e:=ZbY (n:=n) (sg:=S "abcdefghijklmnopqrstuvwxyz") (m:=8) h;show Wv (px (Zf T (n+1)) [] (.seq (.ret (.call 209 (.aC (.var 0) (.aC (.cst (.str (S "abcdefghijklmnopqrstuvwxyz"))) (.aC (.cst (.int 8)) .aN))) [])) .skip) [some (.str x)])=_;rw[YV (v:=.bl (mdB x (S "abcdefghijklmnopqrstuvwxyz") 8)) (by exact e)]
 rfl
end
section
variable {n:Nat}{F:PFn}{π:ZH}{x y:Str}{m:Int}{c:Nat}{l r:Li Nat}
def FG:Str:=S "0123456789"
def fz(x:Str):Bool:=match x.cps.toList with
 |[]=>false
 |c :: r=>!(c==48)||r.isEmpty
def W6(x:Str)(m:Int):Bool:=mdB x FG m&&fz x
theorem eq0:(x=S "0")↔x.cps.toList=[48]:=⟨fun h=>by rw[h];rfl,fun h=>YN (h.trans rfl)⟩
theorem ch0:((⟨#[c]⟩:Str)=S "0")↔c=48:=by rw[eq0];simp
theorem ix0(h:Wd x)(e:x.cps.toList=c :: r):ixP (.str x) (.int 0)=some (.str ⟨#[c]⟩):=by
 show(if x.length<=Ze then atP ((chS x).map .str) 0 else none)=_
 rw[if_pos h.le];show atP ((chS x).map P.str) ((0:Nat):Int)=_;rw[WC rfl];unfold chS;rw[e];rfl
theorem ZgA(h:Wd x):Zf T (n+2) 211 [.str x,.int m]=some (.bl (W6 x m)):=by
 rw[ZU (f:=c_are_figures) rfl rfl];have e:=ZbY (n:=n) (sg:=FG) (m:=m) h;show Wv (px (Zf T (n+1)) [] c_are_figures.body [some (.str x),some (.int m)])=_;unfold c_are_figures;have e1:pe (Zf T (n+1)) (.call 209 (.aC (.var 0) (.aC (.cst (.str (S "0123456789"))) (.aC (.var 1) .aN))) []) [some (.str x),some (.int m)]=some (.bl (mdB x FG m)):=e;rw[YV (v:=.bl (W6 x m)) (by
  rw[pe_and,e1];unfold W6;cases q:mdB x FG m with
  |false=>rfl
  |true=>
   have hl:1<=x.length:=by
    unfold mdB at q;simp only[Ba,bR]at q;omega
   cases e:x.cps.toList with
   |nil=>rw[<-Zn,e]at hl;exact absurd hl (by decide)
   |cons c r=>
    have i0:=ix0 h e;have k1:pe (Zf T (n+1)) (.cmp .Eq (.var 0) (.cst (.str (S "0")))) [some (.str x),some (.int m)]=some (.bl (decide (x=S "0"))):=Zag;have k2:pe (Zf T (n+1)) (.cmp .NotEq (.ix (.var 0) (.cst (.int 0))) (.cst (.str (S "0")))) [some (.str x),some (.int m)]=some (.bl (!decide ((⟨#[c]⟩:Str)=S "0"))):=by
     rw[Z1,pe_ix];show((ixP (.str x) (.int 0)).bind fun x=>Xh .NotEq x (.str (S "0")))=_
     rw[i0];exact ZeV
    show Yw (some (P.bl true)) (pe (Zf T (n+1)) (.or _ _) _) _=_;rw[pe_or,k1,k2];have ef:fz x=(decide (x=S "0")||!decide ((⟨#[c]⟩:Str)=S "0")):=by
     unfold fz;rw[e];by_cases h1:c=48
     ·subst h1
      by_cases h2:r=[]
      ·subst h2
       have:x=S "0":=eq0.mpr e;simp[this]
      ·have:¬x=S "0":=fun z=>by rw[eq0.mp z]at e;cases e;exact h2 rfl
       have h3:(⟨#[48]⟩:Str)=S "0":=ch0.mpr rfl;simp[this,h3,h2]
     ·have h3:¬(⟨#[c]⟩:Str)=S "0":=fun z=>h1 (ch0.mp z)
      simp[h1,h3]
    rw[ef];cases decide (x=S "0")<;>cases decide ((⟨#[c]⟩:Str)=S "0")<;>rfl)]
 rfl
theorem ZhH:∀ c,c < 128->QK FG ⟨#[c]⟩=Zfq c:=by decide +kernel
theorem ZcF(h:Wd x)(f:W6 x m=true):Vz x.cps.toList=true:=by
 have hl:=h.len;unfold W6 mdB mkd at f;simp only[Ba,bR,bY]at f;obtain⟨⟨⟨f1,_⟩,f3⟩,_⟩:=f;unfold Vz;simp only[Ba,bR,cR,List.isEmpty_eq_false_iff,bY];refine⟨⟨fun z=>?_,fun c hc=>?_⟩,by rw[Zn];omega⟩
 ·rw[<-Zn,z]at f1;exact absurd f1 (by decide)
 ·rw[<-ZhH c (h.asc c hc)]
  exact f3 _ (bC.mpr ⟨c,hc,rfl⟩)
theorem Ze7(h:Vz (c :: r)=true):c≠45:=by
 unfold Vz at h;simp only[Ba,aT]at h;have:=h.1.2.1;unfold Zfq at this;simp only[Ba,bR]at this;omega
theorem Zc7(f:Vz x.cps.toList=true):Js (.str x)=some (.int (dgV x.cps.toList:Int)):=by
 have e:Wn x=some (dgV x.cps.toList:Int):=by
  unfold Wn;split
  ·rename_i r e
   rw[e]at f;exact absurd rfl (Ze7 f)
  ·rw[if_pos f]
 show(match Wn x with
  |some i=>some (P.int i)
  |none=>none)=_
 rw[e]
theorem ZhW(e:x.cps.toList=45 :: r)(f:Vz r=true):Js (.str x)=some (.int (-(dgV r:Int))):=by
 have e:Wn x=some (-(dgV r:Int)):=by
  unfold Wn;rw[e];show(if Vz r=true then some (-(dgV r:Int)) else none)=_
  rw[if_pos f]
 show(match Wn x with
  |some i=>some (P.int i)
  |none=>none)=_
 rw[e]
def tlS(x:Str):Str:=WF x (some 1) none
theorem U6:(tlS x).cps.toList=x.cps.toList.drop 1:=by
 show((x.cps.toList.drop (Nat.min 1 x.length)).take (x.length - Nat.min 1 x.length))=_;rw[<-Zn];cases x.cps.toList with
 |nil=>rfl
 |cons c r=>
  have:Nat.min 1 (c :: r).length=1:=by rw[bA];exact bP (by omega)
  rw[this];show r.take (r.length+1 - 1)=r;rw[Nat.add_sub_cancel,List.take_length]
theorem Zkl(h:Wd x):Wd (tlS x):=⟨by
 have:=h.len;rw[<-Zn,U6,cP,Zn];omega,fun c hc=>h.asc c (List.mem_of_mem_drop (by rw[<-U6];exact hc))⟩
theorem Zkg(h:Wd x):Yf (.str x) (some 1) none=some (.str (tlS x)):=by
 show(if x.length<=Ze then some (P.str (WF x (some 1) none)) else none)=_
 rw[if_pos h.le];rfl
def ngB(x:Str):Bool:=x.cps.toList.head?==some 45
theorem Zki:stW x (S "-")=ngB x:=by
 unfold stW ngB;show(x.cps.toList.take 1==[45])=_;cases x.cps.toList with
 |nil=>rfl
 |cons c r=>simp
def VE(x:Str):P:=
 if x=S "-0" then .non
 else if ngB x=true then (if W6 (tlS x) 10=true/\(dgV (x.cps.toList.drop 1):Int)<=1000000000 then .int (-(dgV (x.cps.toList.drop 1):Int)) else .non)
 else if W6 x 10=true/\(dgV x.cps.toList:Int) < 1000000000 then .int (dgV x.cps.toList:Int) else .non
theorem Zi4(h:Wd x):Zf T (n+3) 212 [.str x]=some (VE x):=by
 rw[ZU (f:=c_number_in) rfl rfl];show Wv (px (Zf T (n+2)) [] c_number_in.body [some (.str x),none,none])=_;unfold c_number_in;have k0:pe (Zf T (n+2)) (.starts (.var 0) (.aC (.cst (.str (S "-"))) .aN)) [some (.str x),none,none]=some (.bl (ngB x)):=by
  rw[ZbG];show Vk (.str x) (.tup [.str (S "-")])=_;show some (P.bl (stW x (S "-")))=_;rw[Zki]
 have k1:pe (Zf T (n+2)) (.ife (.starts (.var 0) (.aC (.cst (.str (S "-"))) .aN)) (.slice (.var 0) (.part (.cst (.int 1))) .nop) (.var 0)) [some (.str x),none,none]=some (.str (if ngB x=true then tlS x else x)):=by
  rw[UX,k0];cases ngB x with
  |true=>exact Zkg h
  |false=>rfl
 rw[Xg k1];simp only[ZE,ZC];generalize hy:(if ngB x=true then tlS x else x)=y
 have wy:Wd y:=by rw[<-hy];split<;>first|exact Zkl h|exact h
 have k2:∀ {z:Ot P},pe (Zf T (n+2)) (.cmp .Eq (.var 0) (.cst (.str (S "-0")))) [some (.str x),some (.str y),z]=some (.bl (decide (x=S "-0"))):=Zag;have k3:pe (Zf T (n+2)) (.call 211 (.aC (.var 1) (.aC (.cst (.int 10)) .aN)) []) [some (.str x),some (.str y),none]=some (.bl (W6 y 10)):=ZgA (n:=n) wy;by_cases h0:x=S "-0"
 ·rw[Zy (v:=.non) (by rw[pe_or,k2,aW h0];rfl) rfl]
  unfold VE;rw[if_pos h0];rfl
 ·unfold VE
  rw[if_neg h0];cases f:W6 y 10 with
  |false=>
   rw[f]at k3;rw[Zy (v:=.non) (by rw[pe_or,k2,aK h0,pe_not,k3];rfl) rfl]
   cases g:ngB x with
   |true=>
    rw[g,if_pos rfl]at hy;rw[if_pos rfl,hy,if_neg (fun z=>by rw[f]at z;exact Bf z.1)];rfl
   |false=>
    rw[g,if_neg Bf]at hy;rw[if_neg Bf,hy,if_neg (fun z=>by rw[f]at z;exact Bf z.1)];rfl
  |true=>
   rw[f]at k3;rw[Zg (by rw[pe_or,k2,aK h0,pe_not,k3];rfl)]
   have fy:=ZcF wy f;have ar:∀ v:Int,Zf T (n+2) 0 [.int v]=some (.int (Yp v)):=fun v=>ZbV (n:=n+1) rfl
   have last:∀ v:Int,Js (.str x)=some (.int v)->Wv (px (Zf T (n+2)) [] (.seq (.set 2 (.intOf (.var 0))) (.seq (.ret (.ife (.cmp .Eq (.call 0 (.aC (.var 2) .aN) []) (.var 2)) (.var 2) (.cst .non))) .skip)) [some (.str x),some (.str y),none])=some (if Yp v=v then .int v else .non):=fun v hv=>by
    rw[Xg (v:=.int v) (by exact hv)]
    simp only[ZE,ZC];rw[YV (v:=if Yp v=v then .int v else .non) (by
     have kk:pe (Zf T (n+2)) (.cmp .Eq (.call 0 (.aC (.var 2) .aN) []) (.var 2)) [some (.str x),some (.str y),some (.int v)]=some (.bl (decide (Yp v=v))):=by
      rw[Z1];show((Zf T (n+2) 0 [.int v]).bind fun z=>Xh .Eq z (.int v))=_
      rw[ar];exact ZeU
     rw[UX,kk];by_cases q:Yp v=v
     ·rw[aW q,if_pos q];rfl
     ·rw[aK q,if_neg q];rfl)]
    rfl
   have rng:∀ v:Int,Yp v=v↔-1000000000<=v/\v<=999999999:=fun v=>by unfold Yp;omega
   cases g:ngB x with
   |true=>
    rw[g,if_pos rfl]at hy;have e:x.cps.toList=45 :: x.cps.toList.drop 1:=by
     unfold ngB at g;cases e:x.cps.toList with
     |nil=>rw[e]at g;cases g
     |cons c r=>
      rw[e]at g;have g45:c=45:=by simpa using g
      rw[g45];rfl
    rw[<-hy,U6]at fy;rw[last _ (ZhW e fy),if_pos rfl,hy,f];by_cases q:(dgV (x.cps.toList.drop 1):Int)<=1000000000
    ·rw[if_pos ((rng _).mpr (by omega)),if_pos ⟨rfl,q⟩]
    ·rw[if_neg (fun z=>q (by have:=(rng _).mp z;omega)),if_neg (fun z=>q z.2)]
   |false=>
    rw[g,if_neg Bf]at hy;rw[if_neg Bf];subst hy;rw[last _ (Zc7 fy),f];by_cases q:(dgV x.cps.toList:Int) < 1000000000
    ·rw[if_pos ((rng _).mpr (by omega)),if_pos ⟨rfl,q⟩]
    ·rw[if_neg (fun z=>q (by have:=(rng _).mp z;omega)),if_neg (fun z=>q z.2)]
def plP(x:Str):P:=if W6 x 2=true then .int (dgV x.cps.toList:Int) else .non
theorem Zev(h:Wd x):Zf T (n+3) 213 [.str x]=some (plP x):=by
 rw[ZU (f:=c_place_in) rfl rfl];show Wv (px (Zf T (n+2)) [] c_place_in.body [some (.str x)])=_;unfold c_place_in plP;have k1:pe (Zf T (n+2)) (.call 211 (.aC (.var 0) (.aC (.cst (.int 2)) .aN)) []) [some (.str x)]=some (.bl (W6 x 2)):=ZgA (n:=n) h;cases f:W6 x 2 with
 |false=>
  rw[f]at k1;rw[YV (v:=.non) (by rw[UX,k1];rfl)];rfl
 |true=>
  rw[f]at k1;rw[YV (v:=.int (dgV x.cps.toList:Int)) (by rw[UX,k1];exact Zc7 (ZcF h f))];rfl
end
def isI(p:P)(k:Int):Bool:=match p with
 |.int i=>decide (i=k)
 |_=>false
variable{p:P}
theorem Zdc{k:Int}(h:isI p k=true):p=.int k:=by
 unfold isI at h;split at h
 ·rw[of_decide_eq_true h]
 ·cases h
def wdB(x:Str):Bool:=decide (x.length<=60)&&x.cps.toList.all fun c=>decide (c < 128)
theorem Zem{x:Str}(h:wdB x=true):Wd x:=by
 have h:=bJ.mp h;exact⟨of_decide_eq_true h.1,fun c hc=>of_decide_eq_true (bY.mp h.2 c hc)⟩
def AZ:Str:=S "abcdefghijklmnopqrstuvwxyz"
def nmB(x:Str):Bool:=mdB x AZ 8
def Vis(x:Str):Prop:=∀ c∈x.cps.toList,33<=c
structure Nm(x:Str):Prop where
 nm:nmB x=true
 wd:Wd x
 vis:Vis x
structure Nms(N:Nat->Str):Prop where
 nm:∀ i,i < 7->Nm (N i)
 inj:∀ i j,i < 7->j < 7->N i=N j->i=j
variable{a0:Bool}
section
variable {n m:Nat}{F:PFn}{π:ZH}{x y z s k:Str}{c:Int}{i t:Nat}{b r:Bool}{ws:Li Str}
theorem n_c{v:Int}(h:(wdB x&&isI (VE x) v)=true):Zf T (n+3) 212 [.str x]=some (.int v):=by
 have h:=bJ.mp h;rw[Zi4 (Zem h.1),Zdc h.2]
theorem p_c{v:Int}(h:(wdB x&&isI (plP x) v)=true):Zf T (n+3) 213 [.str x]=some (.int v):=by
 have h:=bJ.mp h;rw[Zev (Zem h.1),Zdc h.2]
theorem Qb(h:Wd x):Zf T (n+2) 210 [.str x]=some (.bl (nmB x)):=Zhg h
theorem f_c(h:(wdB x&&!nmB x)=true):Zf T (n+2) 210 [.str x]=some (.bl false):=by
 have h:=bJ.mp h;rw[Qb (Zem h.1),(cR _).mp h.2]
theorem Nm.is(h:Nm x):Zf T (n+2) 210 [.str x]=some (.bl true):=by rw[Qb h.wd,h.nm]
theorem Ze4(h:F 210 [.str x]=some (.bl b)):px F [] c_fits.body [some (.str x),some (.str (S "name"))]=some (.rt (.bl b)):=by
 unfold c_fits;rw[Zy (by rfl) (by exact h)]
theorem Zbp{v:Int}(h:F 212 [.str x]=some (.int v)):px F [] c_fits.body [some (.str x),some (.str (S "number"))]=some (.rt (.bl true)):=by
 unfold c_fits;rw[Zg (by rfl),Zy (v:=.bl true) (by rfl) (by
  rw[Z1,show pe F (.call 212 (.aC (.var 0) .aN) []) [some (.str x),some (.str (S "number"))]=some (.int v) from h];rfl)]
theorem Ze5(h:F 210 [.str x]=some (.bl true)):px F [] c_fits.body [some (.str x),some (.str (S "operand"))]=some (.rt (.bl true)):=by
 unfold c_fits;rw[Zg (by rfl),Zg (by rfl),Zy (v:=.bl true) (by rfl) (by
  rw[pe_or,show pe F (.call 210 (.aC (.var 0) .aN) []) [some (.str x),some (.str (S "operand"))]=some (.bl true) from h];rfl)]
theorem Ze6{v:Int}(h:F 210 [.str x]=some (.bl false))(h2:F 212 [.str x]=some (.int v)):px F [] c_fits.body [some (.str x),some (.str (S "operand"))]=some (.rt (.bl true)):=by
 unfold c_fits;rw[Zg (by rfl),Zg (by rfl),Zy (v:=.bl true) (by rfl) (by
  rw[pe_or,show pe F (.call 210 (.aC (.var 0) .aN) []) [some (.str x),some (.str (S "operand"))]=some (.bl false) from h,Z1,show pe F (.call 212 (.aC (.var 0) .aN) []) [some (.str x),some (.str (S "operand"))]=some (.int v) from h2];rfl)]
theorem Zjy(h:([S "+",S "-",S "*",S "/",S "mod"]:Li Str).contains x=b):px F [] c_fits.body [some (.str x),some (.str (S "put sign"))]=some (.rt (.bl b)):=by
 unfold c_fits;rw[Zg (by rfl),Zg (by rfl),Zg (by rfl),Zy (v:=.bl b) (by rfl) (by subst h;rfl)]
theorem Zjx(h:([S "<",S "<=",S "=",S ">=",S ">",S "!="]:Li Str).contains x=b):px F [] c_fits.body [some (.str x),some (.str (S "if sign"))]=some (.rt (.bl b)):=by
 unfold c_fits;rw[Zg (by rfl),Zg (by rfl),Zg (by rfl),Zg (by rfl),Zy (v:=.bl b) (by rfl) (by subst h;rfl)]
theorem ZcD{v:Int}(h:F 213 [.str x]=some (.int v)):px F [] c_fits.body [some (.str x),some (.str (S "place"))]=some (.rt (.bl true)):=by
 unfold c_fits;rw[Zg (by rfl),Zg (by rfl),Zg (by rfl),Zg (by rfl),Zg (by rfl),Zy (v:=.bl true) (by rfl) (by
  rw[Z1,show pe F (.call 213 (.aC (.var 0) .aN) []) [some (.str x),some (.str (S "place"))]=some (.int v) from h];rfl)]
theorem Zjw:px F [] c_fits.body [some (.str (S "go")),some (.str (S "go"))]=some (.rt (.bl true)):=by
 unfold c_fits;rw[Zg (by rfl),Zg (by rfl),Zg (by rfl),Zg (by rfl),Zg (by rfl),Zg (by rfl),YV (v:=.bl true) (by rfl)]
def Fit(n:Nat)(x k:Str)(b:Bool):Prop:=Zf T n 232 [.str x,.str k]=some (.bl b)
theorem Xk(h:px (Zf T n) [] c_fits.body [some (.str x),some (.str k)]=some (.rt (.bl b))):Fit (n+1) x k b:=by
 unfold Fit;rw[ZU (f:=c_fits) rfl rfl];show Wv (px (Zf T n) [] c_fits.body [some (.str x),some (.str k)])=_;rw[h];rfl
theorem J0(h:Nm x):Fit (n+4) x (S "name") true:=Xk (Ze4 (h.is (n:=n+1)))
theorem Zg6{v:Int}(h:(wdB x&&isI (VE x) v)=true):Fit (n+4) x (S "number") true:=Xk (Zbp (n_c (n:=n) h))
theorem ZaS(h:Nm x):Fit (n+4) x (S "operand") true:=Xk (Ze5 (h.is (n:=n+1)))
theorem Zg7{v:Int}(h0:(wdB x&&!nmB x)=true)(h:(wdB x&&isI (VE x) v)=true):Fit (n+4) x (S "operand") true:=Xk (Ze6 (f_c (n:=n+1) h0) (n_c (n:=n) h))
theorem Zly{v:Int}(h:(wdB x&&isI (plP x) v)=true):Fit (n+4) x (S "place") true:=Xk (ZcD (p_c (n:=n) h))
theorem t_1:Fit (n+4) (S "1") (S "operand") true:=Zg7 (v:=1) (by decide +kernel) (by decide +kernel)
def kinds(k:Str):Li Str:=if k=S "take" then [S "name",S "number",S "number"] else if k=S "name" then [S "name"] else if k=S "put" then [S "name",S "operand",S "put sign",S "operand"] else if k=S "if" then [S "operand",S "if sign",S "operand",S "go",S "place"] else if k=S "go" then [S "place"] else if k=S "tell" then [S "operand"] else []
def Vl(k:Str):Prop:=k=S "take"\/k=S "name"\/k=S "put"\/k=S "if"\/k=S "go"\/k=S "tell"\/k=S "skip"
def LKf:CE:=(.look [(S "take"),(S "name"),(S "put"),(S "if"),(S "go"),(S "tell"),(S "skip")] [(.tup [(.str (S "name")),(.str (S "number")),(.str (S "number"))]),(.tup [(.str (S "name"))]),(.tup [(.str (S "name")),(.str (S "operand")),(.str (S "put sign")),(.str (S "operand"))]),(.tup [(.str (S "operand")),(.str (S "if sign")),(.str (S "operand")),(.str (S "go")),(.str (S "place"))]),(.tup [(.str (S "place"))]),(.tup [(.str (S "operand"))]),(.tup [])] (.ix (.var 0) (.cst (.int 0))))
theorem ZhZ{k:P}{ws:Li P}:pe F (.ix (.var 0) (.cst (.int 0))) (some (.lst b (k :: ws)) :: π)=some k:=by
 show atP (k :: ws) ((0:Nat):Int)=_;rw[WC rfl];rfl
theorem ZgS{ws:Li P}(h:Vl k):pe F LKf (some (.lst b (.str k :: ws)) :: π)=some (.tup ((kinds k).map P.str)):=by
 have e:pe F (.ix (.var 0) (.cst (.int 0))) (some (.lst b (.str k :: ws)) :: π)=some (.str k):=ZhZ;unfold LKf;rw[ZfN,e];rcases h with h|h|h|h|h|h|h<;>subst h<;>rfl
theorem sl1{k:P}{ws:Li P}:pe F (.slice (.var 0) (.part (.cst (.int 1))) .nop) (some (.lst b (k :: ws)) :: π)=some (.lst true ws):=by
 show some (P.lst true (UG (k :: ws) (some 1) none))=_
 congr 2
 show((k :: ws).drop (Nat.min 1 (k :: ws).length)).take ((k :: ws).length - Nat.min 1 (k :: ws).length)=ws;have:Nat.min 1 (k :: ws).length=1:=by rw[bA];exact bP (by omega)
 rw[this,bA,Nat.add_sub_cancel];exact List.take_length
theorem U9{α β:Type}{f:α->β}:∀ {xs ys:Li α},(xs.map f).zip (ys.map f)=(xs.zip ys).map fun p=>(f p.1,f p.2)
 |[],_=>rfl
 |_ :: _,[]=>rfl
 |x :: xs,y :: ys=>by
  show(f x,f y) :: (xs.map f).zip (ys.map f)=_;rw[U9];rfl
variable {g:Str×Str->Bool}
theorem ZeE(hn:ws.length<=900)(h:∀ p∈ws.zip (kinds k),F 232 [.str p.1,.str p.2]=some (.bl (g p))):pe F (.all Xt) [some (.lst b ((k :: ws).map P.str)),some (.tup ((kinds k).map P.str))]=some (.bl ((ws.zip (kinds k)).all g)):=by
 have e0:pe F (.aC (.slice (.var 0) (.part (.cst (.int 1))) .nop) (.aC (.var 1) .aN)) [some (.lst b ((k :: ws).map P.str)),some (.tup ((kinds k).map P.str))]=some (.tup [.lst true (ws.map P.str),.tup ((kinds k).map P.str)]):=by
  rw[Zk,aP,sl1];rfl
 have ez:ZaZ (ws.map P.str) ((kinds k).map P.str)=(ws.zip (kinds k)).map fun p=>P.tup [.str p.1,.str p.2]:=by
  unfold ZaZ;rw[U9,aV];rfl
 have hl:(ws.zip (kinds k)).length<=900:=by rw[dA];omega
 unfold Xt;rw[ZdG,ZdH e0 (show WR _=some _ from rfl) (by rw[ez,aF];omega),ez]
 rw[UF (enc:=fun p:Str×Str=>P.tup [.str p.1,.str p.2]) (g:=fun p=>P.bl (g p)) (fun _ _=>rfl) (fun p hp=>h p hp),Ob,Ob]
 have:(ws.zip (kinds k)).map (fun p=>P.bl (g p))=((ws.zip (kinds k)).map g).map P.bl:=by rw[aV];rfl
 rw[this,Um]
 congr 2
 rw[List.all_map];rfl
theorem ZbA(hk:Vl k)(hn:ws.length<=900)(h:ws.length=(kinds k).length->∀ p∈ws.zip (kinds k),F 232 [.str p.1,.str p.2]=some (.bl (g p)))(ht:(k=S "take"/\∃ x y z a b',ws=[x,y,z]/\F 212 [.str y]=some (.int a)/\F 212 [.str z]=some (.int b')/\a0=decide (a<=b'))\/k≠S "take"/\a0=true) :
  px F [] c_is_line.body [some (.lst b ((k :: ws).map P.str)),none]=some (.rt (.bl (decide (ws.length=(kinds k).length)&&(ws.zip (kinds k)).all g&&a0))):=by
 unfold c_is_line;have e0:pe F (.cmp .NotIn (.ix (.var 0) (.cst (.int 0))) (.cst (.kt [(S "take"),(S "name"),(S "put"),(S "if"),(S "go"),(S "tell"),(S "skip")]))) [some (.lst b ((k :: ws).map P.str)),none]=some (.bl false):=by
  rw[Z1,aP,ZhZ];rcases hk with h|h|h|h|h|h|h<;>subst h<;>rfl
 rw[Zg e0,Xg (v:=.tup ((kinds k).map P.str)) (by exact ZgS hk)]
 simp only[ZE,ZC];have e1:pe F (.cmp .NotEq (.len (.var 0)) (.bin .Add (.cst (.int 1)) (.len (.var 1)))) [some (.lst b ((k :: ws).map P.str)),some (.tup ((kinds k).map P.str))]=some (.bl (!decide (ws.length=(kinds k).length))):=by
  show some (P.bl (!decide ((((k :: ws).map P.str).length:Int)=1+(((kinds k).map P.str).length:Int))))=_;rw[aF,aF,bA]
  congr 3
  exact decide_eq_decide.mpr (by omega)
 by_cases hl:ws.length=(kinds k).length
 ·rw[aW hl,cW]
  rw[aW hl]at e1;have e2:=ZeE (b:=b) hn (h hl);cases ha:(ws.zip (kinds k)).all g with
  |false=>
   rw[ha]at e2;rw[Zy (v:=.bl false) (by rw[pe_or,e1,pe_not,e2];rfl) (by rfl)]
   rfl
  |true=>
   rw[ha]at e2;rw[Zg (by rw[pe_or,e1,pe_not,e2];rfl),cW]
   rcases ht with⟨rfl,x,y,z,a,a',rfl,hy,hz,rfl⟩|⟨c,rfl⟩
   ·rw[YV (v:=.bl (decide (a<=a'))) (by
     have z1:pe F (.call 212 (.aC (.ix (.var 0) (.cst (.int 2))) .aN) []) [some (.lst b ((S "take" :: [x,y,z]).map P.str)),some (.tup ((kinds (S "take")).map P.str))]=some (.int a):=hy;have z2:pe F (.call 212 (.aC (.ix (.var 0) (.cst (.int 3))) .aN) []) [some (.lst b ((S "take" :: [x,y,z]).map P.str)),some (.tup ((kinds (S "take")).map P.str))]=some (.int a'):=hz;rw[pe_or,show pe F (.cmp .NotEq (.ix (.var 0) (.cst (.int 0))) (.cst (.str (S "take")))) [some (.lst b ((S "take" :: [x,y,z]).map P.str)),some (.tup ((kinds (S "take")).map P.str))]=some (.bl false) from rfl,Z1,z1,z2]
     rfl)]
   ·rw[YV (v:=.bl true) (by
     rw[pe_or,show pe F (.cmp .NotEq (.ix (.var 0) (.cst (.int 0))) (.cst (.str (S "take")))) [some (.lst b ((k :: ws).map P.str)),some (.tup ((kinds k).map P.str))]=some (.bl (!decide (k=S "take"))) from(by rw[Z1,aP,ZhZ];rfl),aK c]
     rfl)]
 ·rw[aK hl]at e1 ⊢
  rw[Zy (v:=.bl false) (by rw[pe_or,e1];rfl) (by rfl)]
  rfl
theorem Ys(hk:Vl k)(hn:ws.length<=900)(h:ws.length=(kinds k).length->∀ p∈ws.zip (kinds k),Fit n p.1 p.2 (g p))(ht:(k=S "take"/\∃ x y z a b',ws=[x,y,z]/\Zf T n 212 [.str y]=some (.int a)/\Zf T n 212 [.str z]=some (.int b')/\a0=decide (a<=b'))\/k≠S "take"/\a0=true)(hr:(decide (ws.length=(kinds k).length)&&(ws.zip (kinds k)).all g&&a0)=r):Zf T (n+1) 233 [.lst b ((k :: ws).map P.str)]=some (.bl r):=by
 rw[ZU (f:=c_is_line) rfl rfl];show Wv (px (Zf T n) [] c_is_line.body [some (.lst b ((k :: ws).map P.str)),none])=_;rw[ZbA hk hn h ht,hr];rfl
theorem Zu{P:α->Prop}{a:α}{l:Li α}(h1:P a)(h2:∀ p∈l,P p):∀ p∈a :: l,P p:=fun p hp=>by
 rcases aM.mp hp with rfl|hp
 ·exact h1
 ·exact h2 p hp
theorem Xb{α:Type}{P:α->Prop}:∀ p∈([]:Li α),P p:=fun _ h=>nomatch h
theorem Q9{a b':Int}(h:Nm x)(hy:(wdB y&&isI (VE y) a)=true)(hz:(wdB z&&isI (VE z) b')=true):Zf T (n+5) 233 [.lst b (([S "take",x,y,z]).map P.str)]=some (.bl (decide (a<=b'))):=
 Ys (g:=fun _=>true) (.inl rfl) (by simp) (fun _=>Zu (J0 h) (Zu (Zg6 hy) (Zu (Zg6 hz) Xb))) (.inl ⟨rfl,_,_,_,_,_,rfl,n_c (n:=n+1) hy,n_c (n:=n+1) hz,rfl⟩) (by rfl)
theorem ZbW(h:Nm x):Zf T (n+5) 233 [.lst b (([S "name",x]).map P.str)]=some (.bl true):=
 Ys (g:=fun _=>true) (.inr (.inl rfl)) (by simp) (fun _=>Zu (J0 h) Xb) (.inr ⟨by simp,rfl⟩) (by rfl)
theorem Zhd:Zf T (n+5) 233 [.lst b (([S "skip"]).map P.str)]=some (.bl true):=
 Ys (ws:=[]) (g:=fun _=>true) (.inr (.inr (.inr (.inr (.inr (.inr rfl)))))) (by simp) (fun _=>Xb) (.inr ⟨by simp,rfl⟩) (by rfl)
theorem Zhe(h:Nm x):Zf T (n+5) 233 [.lst b (([S "tell",x]).map P.str)]=some (.bl true):=
 Ys (g:=fun _=>true) (.inr (.inr (.inr (.inr (.inr (.inl rfl)))))) (by simp) (fun _=>Zu (ZaS h) Xb) (.inr ⟨by simp,rfl⟩) (by rfl)
theorem Zet:Zf T (n+5) 233 [.lst b (([S "tell",x,y]).map P.str)]=some (.bl false):=
 Ys (g:=fun _=>true) (.inr (.inr (.inr (.inr (.inr (.inl rfl)))))) (by simp) (fun z=>nomatch (show 2=1 from z)) (.inr ⟨by simp,rfl⟩) (by rfl)
theorem Zgz(h:Nm x)(hb:([S "+",S "-",S "*",S "/",S "mod"]:Li Str).contains s=r):Zf T (n+5) 233 [.lst b (([S "put",x,S "1",s,S "1"]).map P.str)]=some (.bl r):=
 Ys (g:=fun p=>p.2 != S "put sign"||r) (.inr (.inr (.inl rfl))) (by simp) (fun _=>Zu (J0 h) (Zu t_1 (Zu (Xk (Zjy hb)) (Zu t_1 Xb)))) (.inr ⟨by simp,rfl⟩) (by cases r<;>rfl)
theorem Zhc{u v:Str}(hu:Fit (n+4) u (S "operand") true)(hv:Fit (n+4) v (S "operand") true)(hb:([S "<",S "<=",S "=",S ">=",S ">",S "!="]:Li Str).contains s=r){q:Int}(hz:(wdB z&&isI (plP z) q)=true):Zf T (n+5) 233 [.lst b (([S "if",u,s,v,S "go",z]).map P.str)]=some (.bl r):=
 Ys (g:=fun p=>p.2 != S "if sign"||r) (.inr (.inr (.inr (.inl rfl)))) (by simp) (fun _=>Zu hu (Zu (Xk (Zjx hb)) (Zu hv (Zu (Xk Zjw) (Zu (Zly hz) Xb))))) (.inr ⟨by simp,rfl⟩) (by cases r<;>rfl)
end
section
variable {n:Nat}{F:PFn}{x y s k:Str}{b:Bool}{ws:Li Str}{sel:Str×Str->Bool}{x0:Ot P}
def nrC:CE:=.and (.cmp .In (.var 3) (.tupE (.aC (.cst (.str (S "name"))) (.aC (.cst (.str (S "operand"))) .aN)))) (.call 210 (.aC (.var 2) .aN) [])
def Ja(F:PFn)(p:Str×Str)(r:Bool):Prop:=∀ x0 x1,pe F nrC [x0,x1,some (.str p.1),some (.str p.2)]=some (.bl r)
theorem VM(h:F 210 [.str x]=some (.bl b))(hk:k=S "name"\/k=S "operand"):Ja F (x,k) b:=fun x0 x1=>by
 unfold nrC;have z:pe F (.call 210 (.aC (.var 2) .aN) []) [x0,x1,some (.str x),some (.str k)]=some (.bl b):=h;rw[pe_and,z];rcases hk with rfl|rfl<;>rfl
theorem JN(h:∀ x0 x1 x2,pe F (.cmp .In (.var 3) (.tupE (.aC (.cst (.str (S "name"))) (.aC (.cst (.str (S "operand"))) .aN)))) [x0,x1,x2,some (.str k)]=some (.bl false)):Ja F (x,k) false:=fun x0 x1=>by
 unfold nrC;rw[pe_and,h];rfl
theorem Zhh:Zf T (n+1) 234 [.lst b (([S "skip"]).map P.str)]=some (.lst true []):=by rfl
theorem Zhi{d:P}:Zf T (n+1) 236 [.lst b (([S "skip"]).map P.str),d]=some (.tup [.str (S "skip")]):=by rfl
end
mutual
def toD:P->D
 |.bl b=>.bl b
 |.int i=>.int i
 |.str x=>.str x
 |.tup ps=>.tup (Va ps)
 |_=>.non
def Va:Li P->Li D
 |[]=>[]
 |p :: ps=>toD p :: Va ps
end
mutual
def pln:P->Bool
 |.non=>true
 |.bl _=>true
 |.int _=>true
 |.str _=>true
 |.tup ps=>W8 ps
 |_=>false
def W8:Li P->Bool
 |[]=>true
 |p :: ps=>pln p&&W8 ps
end
variable{i n w j:Nat}{ds:Li D}{ρ':Env}
section
variable {fz:Fz}{st st' st1 st2:Za}
mutual
theorem ZiA:∀ {p:P},pln p=true->Rel fz st p (toD p)
 |.non,_=>.non
 |.bl b,_=>.bl b
 |.int i,_=>.int i
 |.str x,_=>.str x
 |.tup ps,h=>.tup (XT (show W8 ps=true from h))
 |.lst _ _,h=>nomatch h
 |.dct _ _,h=>nomatch h
 |.obj _,h=>nomatch h
 |.kt _,h=>nomatch h
 |.dic _ _,h=>nomatch h
theorem XT:∀ {ps:Li P},W8 ps=true->Rels fz st ps (Va ps)
 |[],_=>.nil
 |p :: ps,h=>.cons (ZiA (bJ.mp h).1) (XT (bJ.mp h).2)
end
mutual
theorem XH:∀ {p:P}{d:D},pln p=true->Rel fz st p d->d=toD p
 |.non,_,_,.non=>rfl
 |.bl b,_,_,.bl _=>rfl
 |.int i,_,_,.int _=>rfl
 |.str x,_,_,.str _=>rfl
 |.tup ps,_,h,.tup r=>congrArg D.tup (Wu (show W8 ps=true from h) r)
 |.lst _ _,_,h,_=>nomatch h
 |.dct _ _,_,h,_=>nomatch h
 |.obj _,_,h,_=>nomatch h
 |.kt _,_,h,_=>nomatch h
 |.dic _ _,_,h,_=>nomatch h
theorem Wu:∀ {ps:Li P}{ds:Li D},W8 ps=true->Rels fz st ps ds->ds=Va ps
 |[],_,_,.nil=>rfl
 |p :: ps,_,h,.cons a r=>by rw[XH (bJ.mp h).1 a,Wu (bJ.mp h).2 r];rfl
end
theorem YE:∀ {ps:Li P},Va ps=ps.map toD
 |[]=>rfl
 |p :: ps=>by
  show toD p :: Va ps=_;rw[YE];rfl
theorem Yz:∀ {ps:Li P},(∀ p∈ps,pln p=true)->W8 ps=true
 |[],_=>rfl
 |p :: ps,h=>by
  show(pln p&&W8 ps)=true;rw[h p Ls,Yz fun q hq=>h q (Lm _ hq)];rfl



theorem VV:Va (ws.map P.str)=ws.map D.str:=by rw[YE,aV];rfl
theorem VJ:W8 (ws.map P.str)=true:=Yz fun q hq=>by obtain⟨a,_,rfl⟩:=bC.mp hq;rfl
structure Grw(st st':Za):Prop where
 old:∀ i,i < st.length->st'[i]?=st[i]?
 len:st.length<=st'.length
theorem Grw.refl:Grw st st:=⟨fun _ _=>rfl,aD _⟩
theorem Grw.trans(a:Grw st st1)(b:Grw st1 st2):Grw st st2:=⟨fun i h=>(b.old i (aJ h a.len)).trans (a.old i h),aG a.len b.len⟩
theorem Grw.get{c:Z5}(a:Grw st st')(h:st[i]?=some c):st'[i]?=some c:=(a.old i (Zs h)).trans h
theorem Grw.push{c:Z5}:Grw st (st++[c]):=⟨fun i h=>bF h,by rw[aI];omega⟩
def Al(st:Za):Fz:=fun i=>i < st.length
theorem J9{fz':Fz}{d:D}(n:Next (Al st) st fz' st')(r:Rel fz' st' p d):Grw st st'/\Rel (Al st') st' p d:=⟨⟨n.old,n.len⟩,r.mono (fun i h=>n.bd i h) fun _ _=>rfl⟩
theorem Ul{f:Nat}{ps:Li P}(h:Zf T n f ps=some p)(r:Rels (Al st) st ps ds):∃ d st',run T n f ds st=some (d,st')/\Grw st st'/\Rel (Al st') st' p d:=by
 obtain⟨d,st',fz',e,n1,r1⟩:=U2 T n f ps p h (Al st) st ds (fun _ h=>h) r
 exact⟨d,st',e,J9 n1 r1⟩
theorem ZO{ρ:Env}(h:pe (Zf T n) e π=some p)(E:EnvAll (Al st) st π ρ):∃ d st',ev (run T n) e ρ st=some (d,st')/\Grw st st'/\Rel (Al st') st' p d:=by
 obtain⟨d,st',fz',e,n1,r1⟩:=Zd (U2 T n) e π p h (Al st) st ρ (fun _ h=>h) E
 exact⟨d,st',e,J9 n1 r1⟩
theorem Wb{f:Nat}{ps:Li P}(h:Zf T n f ps=some p)(hp:pln p=true)(r:Rels (Al st) st ps ds):∃ st',run T n f ds st=some (toD p,st')/\Grw st st':=by
 obtain⟨d,st',e,x,r1⟩:=Ul h r;rw[XH hp r1]at e;exact⟨st',e,x⟩
theorem Y2{b:Bool}(h:st[w]?=some (b,ws.map D.str)):Rel (Al st) st (.lst b (ws.map P.str)) (.lst w):=.lst (Zs h) h (by rw[<-VV];exact XT VJ)
def obC(s:Nat):Z5:=(true,[.int 237,.tup [.str (S "takes"),.lst (s+1)],.tup [.str (S "names"),.dic (s+2)],.tup [.str (S "rows"),.lst (s+3)],.tup [.str (S "aims"),.lst (s+4)]])
structure Dr(st:Za)(s:Nat)(tk nm ro am:List D):Prop where
 o:st[s]?=some (obC s)
 t:st[s+1]?=some (true,tk)
 n:st[s+2]?=some (true,nm)
 r:st[s+3]?=some (true,ro)
 a:st[s+4]?=some (true,am)
variable {s:Nat}{tk nm ro am:Li D}
theorem Dr.ext(d:Dr st s tk nm ro am)(x:Grw st st'):Dr st' s tk nm ro am:=⟨x.get d.o,x.get d.t,x.get d.n,x.get d.r,x.get d.a⟩
structure Kp(s:Nat)(st st':Za):Prop where
 old:∀ i,i < st.length->(i < s\/s+5<=i)->st'[i]?=st[i]?
 len:st.length<=st'.length
theorem Grw.kp(x:Grw st st'):Kp s st st':=⟨fun i h _=>x.old i h,x.len⟩
theorem Kp.trans(a:Kp s st st1)(b:Kp s st1 st2):Kp s st st2:=⟨fun i h h'=>(b.old i (aJ h a.len) h').trans (a.old i h h'),aG a.len b.len⟩
theorem Kp.set{c:Z5}(h:s<=j)(h':j < s+5):Kp s st (st.set j c):=⟨fun i _ hi=>by rw[dD,if_neg (by omega)],by rw[bI];exact aD _⟩
theorem Zw{c:Z5}(h:i < st.length):(st.set i c)[j]?=if i=j then some c else st[j]?:=by
 rw[dD];split
 ·rename_i e
  subst e
  first|rfl|rw[if_pos h]
 ·rfl
theorem Dr.setT{l:Li D}(d:Dr st s tk nm ro am):Dr (st.set (s+1) (true,l)) s l nm ro am:=by
 have h:=Zs d.t;exact⟨by rw[Zw h,if_neg (by omega)];exact d.o,by rw[Zw h,if_pos rfl],by rw[Zw h,if_neg (by omega)];exact d.n,by rw[Zw h,if_neg (by omega)];exact d.r,by rw[Zw h,if_neg (by omega)];exact d.a⟩
theorem Dr.setN{l:Li D}(d:Dr st s tk nm ro am):Dr (st.set (s+2) (true,l)) s tk l ro am:=by
 have h:=Zs d.n;exact⟨by rw[Zw h,if_neg (by omega)];exact d.o,by rw[Zw h,if_neg (by omega)];exact d.t,by rw[Zw h,if_pos rfl],by rw[Zw h,if_neg (by omega)];exact d.r,by rw[Zw h,if_neg (by omega)];exact d.a⟩
theorem Dr.setR{l:Li D}(d:Dr st s tk nm ro am):Dr (st.set (s+3) (true,l)) s tk nm l am:=by
 have h:=Zs d.r;exact⟨by rw[Zw h,if_neg (by omega)];exact d.o,by rw[Zw h,if_neg (by omega)];exact d.t,by rw[Zw h,if_neg (by omega)];exact d.n,by rw[Zw h,if_pos rfl],by rw[Zw h,if_neg (by omega)];exact d.a⟩
variable {F:Nat->Fn}{ρ:Env}
theorem Zao{f:Str}{v:D}(d:Dr st s tk nm ro am)(h:Yo [.tup [.str (S "takes"),.lst (s+1)],.tup [.str (S "names"),.dic (s+2)],.tup [.str (S "rows"),.lst (s+3)],.tup [.str (S "aims"),.lst (s+4)]] f=some v):ev F (.dict [f] (.var 0)) (some (.dic s) :: ρ) st=some (v,st):=by
 show ZcG [f] (.dic s) st=_;unfold ZcG;simp only[d.o,obC,h]
theorem UI(d:Dr st s tk nm ro am):ev F (.dict [(S "takes")] (.var 0)) (some (.dic s) :: ρ) st=some (.lst (s+1),st):=Zao d rfl
theorem Wk(d:Dr st s tk nm ro am):ev F (.dict [(S "names")] (.var 0)) (some (.dic s) :: ρ) st=some (.dic (s+2),st):=Zao d rfl
theorem Jo(d:Dr st s tk nm ro am):ev F (.dict [(S "rows")] (.var 0)) (some (.dic s) :: ρ) st=some (.lst (s+3),st):=Zao d rfl
theorem ZhL(d:Dr st s tk nm ro am):ev F (.dict [(S "aims")] (.var 0)) (some (.dic s) :: ρ) st=some (.lst (s+4),st):=Zao d rfl
theorem ZgR{c:Z5}(h:ev F e ρ st=some (.lst j,st))(h2:st[j]?=some c):ev F (.len e) ρ st=some (.int c.2.length,st):=by
 show Zo (ev F e) XV ρ st=_;unfold Zo;rw[h];show XV (.lst j) st=_;unfold XV Zbz;simp only[h2]
theorem Zay(d:Dr st s tk nm ro am):ev F (.len (.dict [(S "takes")] (.var 0))) (some (.dic s) :: ρ) st=some (.int tk.length,st):=ZgR (UI d) d.t
theorem Jx(d:Dr st s tk nm ro am):ev F (.len (.dict [(S "rows")] (.var 0))) (some (.dic s) :: ρ) st=some (.int ro.length,st):=ZgR (Jo d) d.r
theorem Vd(d:Dr st s tk nm ro am)(h:XU nm=false):ev F (.len (.dict [(S "names")] (.var 0))) (some (.dic s) :: ρ) st=some (.int nm.length,st):=by
 show Zo (ev F (.dict [(S "names")] (.var 0))) XV _ st=_;unfold Zo;rw[Wk d];show XV (.dic (s+2)) st=_;unfold XV Zbz;simp only[d.n,h];rfl
variable {q a b:CS}{e:CE}{v:D}
theorem XM(h:ev F e ρ st=some (.bl true,st')):ex F (.ite e a b) ρ st=ex F a ρ st':=by
 show W7 (ev F e) (ex F a) (ex F b) ρ st=_;unfold W7;rw[h]
theorem We(h:ev F e ρ st=some (.bl false,st')):ex F (.ite e a b) ρ st=ex F b ρ st':=by
 show W7 (ev F e) (ex F a) (ex F b) ρ st=_;unfold W7;rw[h]
theorem X2(h:ev F e ρ st=some (v,st')):ex F (.ret e) ρ st=some (.rt v,st'):=by
 show JQ (ev F e) ρ st=_;unfold JQ;rw[h]
theorem YQ(h:ev F e ρ st=some (v,st')):ex F (.set i e) ρ st=some (.nx (Zi ρ i v),st'):=by
 show VO i (ev F e) ρ st=_;unfold VO;rw[h]
theorem ZaX(h:evX F e ρ st=some (.non,st')):ex F (.act e) ρ st=some (.nx ρ,st'):=by
 show Qc (evX F e) ρ st=_;unfold Qc;rw[h]
def mkX(c:Nat)(k:Int):D:=.dct [S "!"] [.int c,.int k]
theorem J4{c:Nat}{k:Int}(h:evX F e ρ st=some (mkX c k,st')):ex F (.act e) ρ st=some (.rt (mkX c k),st'):=by
 show Qc (evX F e) ρ st=_;unfold Qc;rw[h];rfl
theorem ZaY{k:Int}(h:ev F e ρ st=some (.int k,st')):ex F (.ext i e) ρ st=some (.rt (mkX i k),st'):=by
 show VN i (ev F e) ρ st=_;unfold VN;rw[h];rfl
theorem Zr:ex F .skip ρ st=some (.nx ρ,st):=rfl
theorem Zm(h:ex F a ρ st=some (.nx ρ',st')):ex F (.seq a q) ρ st=ex F q ρ' st':=by
 show Y4 (ex F a) (ex F q) ρ st=_;unfold Y4;rw[h]
theorem ZA{d:D}(h:ex F a ρ st=some (.rt d,st')):ex F (.seq a q) ρ st=some (.rt d,st'):=by
 show Y4 (ex F a) (ex F q) ρ st=_;unfold Y4;rw[h]
theorem Qr{x y:CE}(h:ev F x ρ st=some (.bl true,st')):ev F (.and x y) ρ st=ev F y ρ st':=by
 show Yi (ev F x) (ev F y) (evC (.bl false)) ρ st=_;unfold Yi;rw[h]
theorem UH{x y:CE}(h:ev F x ρ st=some (.bl false,st')):ev F (.and x y) ρ st=some (.bl false,st'):=by
 show Yi (ev F x) (ev F y) (evC (.bl false)) ρ st=_;unfold Yi;rw[h];rfl
theorem Zjo{x y:CE}(h:ev F x ρ st=some (.bl false,st')):ev F (.or x y) ρ st=ev F y ρ st':=by
 show Yi (ev F x) (evC (.bl true)) (ev F y) ρ st=_;unfold Yi;rw[h]
theorem Zjp{x y:CE}(h:ev F x ρ st=some (.bl true,st')):ev F (.or x y) ρ st=some (.bl true,st'):=by
 show Yi (ev F x) (evC (.bl true)) (ev F y) ρ st=_;unfold Yi;rw[h];rfl
theorem Zam{x:CE}{k:Bool}(h:ev F x ρ st=some (.bl k,st')):ev F (.not x) ρ st=some (.bl (!k),st'):=by
 show Zo (ev F x) JH ρ st=_;unfold Zo;rw[h];rfl
theorem Ya{x y:CE}{op:CmpOp}{u w:D}{k:Bool}(h:ev F x ρ st=some (u,st1))(h2:ev F y ρ st1=some (w,st2))(h3:X6 op u w st2=some k):ev F (.cmp op x y) ρ st=some (.bl k,st2):=by
 show Zz (ev F x) (ev F y) (Xp op) ρ st=_;unfold Zz;rw[h];simp only[h2];unfold Xp;rw[h3]
theorem Zj9{f:Nat}{d:FD}(h:T f=some d)(hl:ds.length=d.ps):run T (n+1) f ds st=match ex (run T n) d.body (ds.map some++List.replicate (d.ns - ds.length) none) st with
  |some (.rt v,st')=>some (v,st')
  |some (.nx _,st')=>some (.non,st')
  |_=>none:=by
 rw[QT h];unfold fnD;exact if_pos hl
theorem Wt{f:Nat}{d:FD}(h:T f=some d)(hl:ds.length=d.ps)(hx:ex (run T n) d.body (ds.map some++List.replicate (d.ns - ds.length) none) st=some (.rt v,st')):run T (n+1) f ds st=some (v,st'):=by
 rw[Zj9 h hl,hx]
theorem ZbI{f:Nat}{d:FD}(h:T f=some d)(hl:ds.length=d.ps)(hx:ex (run T n) d.body (ds.map some++List.replicate (d.ns - ds.length) none) st=some (.nx ρ',st')):run T (n+1) f ds st=some (.non,st'):=by
 rw[Zj9 h hl,hx]
end
variable{st1:Za}{line:Int}
section
variable {n m s w:Nat}{st st':Za}{tk nm ro am:Li D}{F:Nat->Fn}{ρ:Env}{b:Bool}{ws:Li Str}{N:Nat->Str}
def nmN(N:Nat->Str)(i:Nat):Li Str:=[S "name",N i]
def nmD(N:Nat->Str)(m:Nat):Li D:=(List.range m).map fun i=>.tup [.str (N i),.int (i:Int)]
theorem Zdr:nmD N (m+1)=nmD N m++[.tup [.str (N m),.int (m:Int)]]:=by
 unfold nmD;rw[List.range_succ,cA];rfl
theorem YM:(nmD N m).length=m:=by unfold nmD;rw[aF,bK]
theorem XA:XU (nmD N m)=false:=by
 unfold nmD;cases m with
 |zero=>rfl
 |succ k=>rw[dU];rfl
theorem Zds{z:Str}(h:∀ i,i < m->N i≠z):(nmD N m).any (isK z)=false:=by
 rw[List.any_eq_false];intro d hd q;obtain⟨i,hi,rfl⟩:=bC.mp hd;exact h i (bS.mp hi) (of_decide_eq_true (show decide (N i=z)=true from q))
theorem ZaG{z:Str}(h:∀ i,i < m->N i≠z):Yo (nmD N m) z=none:=by
 unfold Yo;rw[List.find?_eq_none.mpr fun d hd q=>absurd (List.any_eq_true.mpr ⟨d,hd,q⟩) (by rw[Zds h];exact Bf)]
 rfl
theorem Zdt(hN:Nms N)(h:m<=j)(hj:j < 7):∀ i,i < m->N i≠N j:=fun i hi z=>by
 have:=hN.inj i j (by omega) hj z
 omega

theorem Ws{es:Li D}{rest:Za}{x:Str}{d:D}(hs:s=st.length)(he:ev F e [some (.dic s)] (st++(true,.int 237 :: es) :: rest)=some (d,(st++(true,.int 237 :: es) :: rest)++[(true,[])]))(hl:es.length < 900)(hn:es.any (isK x)=false) :
  ex F (.put 0 (.cst (.str x)) e) [some (.dic s)] (st++(true,.int 237 :: es) :: rest)=some (.nx [some (.dic s)],st++(true,.int 237 :: (es++[.tup [.str x,d]])) :: (rest++[(true,[])])):=by
 subst hs;show ZdR 0 (.cst (.str x)) (ev F e) [some (.dic st.length)] (st++(true,.int 237 :: es) :: rest)=_;unfold ZdR;simp only[he];show(match ((st++(true,D.int 237 :: es) :: rest)++[((true,[]):Z5)])[st.length]? with
  |some (true,D.int c :: es')=>if es'.length < 900/\es'.any (isK x)=false then some (Fl.nx [some (D.dic st.length)],List.set ((st++(true,D.int 237 :: es) :: rest)++[((true,[]):Z5)]) st.length (true,D.int c :: (es'++[D.tup [D.str x,d]]))) else none
  |_=>none)=_
 have e1:((st++(true,.int 237 :: es) :: rest)++[((true,[]):Z5)])[st.length]?=some (true,.int 237 :: es):=by
  rw[bO,aY (aD _),cK];rfl
 rw[e1];simp only[hl,hn,and_self,if_true]
 congr 2
 rw[bO,List.set_append_right _ _ (aD _),cK];rfl
theorem UQ:ev F (.lstE .aN) ρ st=some (.lst st.length,st++[(true,[])]):=rfl
theorem ZeY:ev F .dnew ρ st=some (.dic st.length,st++[(true,[])]):=rfl
theorem Zhk:run T (n+1) 238 [.dic st.length] (st++[(true,[.int 237])])=some (.non,st++[obC st.length,(true,[]),(true,[]),(true,[]),(true,[])]):=by
 have l:∀ c:Z5,∀ r:Za,(st++c :: r).length=st.length+1+r.length:=fun c r=>by rw[aI,bA];omega
 refine ZbI (d:=c_Draft___init__) rfl rfl (ρ':=[some (.dic st.length)]) ?_;show ex (run T n) (.seq _ (.seq _ (.seq _ (.seq _ .skip)))) [some (.dic st.length)] (st++(true,.int 237 :: []) :: [])=_;rw[Zm (Ws (x:=S "takes") (d:=.lst (st.length+1)) rfl (by rw[UQ,l];rfl) (by simp) rfl),Zm (Ws (x:=S "names") (d:=.dic (st.length+2)) rfl (by rw[ZeY,l];rfl) (by simp) rfl),Zm (Ws (x:=S "rows") (d:=.lst (st.length+3)) rfl (by rw[UQ,l];rfl) (by simp) rfl),Zm (Ws (x:=S "aims") (d:=.lst (st.length+4)) rfl (by rw[UQ,l];rfl) (by simp) rfl)]
 rfl
theorem new_dr:Dr (st++[obC st.length,(true,[]),(true,[]),(true,[]),(true,[])]) st.length [] [] [] []:=by
 have g:∀ (j:Nat) (c:Z5),[obC st.length,(true,[]),(true,[]),(true,[]),(true,[])][j]?=some c->(st++[obC st.length,(true,[]),(true,[]),(true,[]),(true,[])])[st.length+j]?=some c:=fun j c h=>by
  rw[aY (by omega),Nat.add_sub_cancel_left];exact h
 exact⟨g 0 _ rfl,g 1 _ rfl,g 2 _ rfl,g 3 _ rfl,g 4 _ rfl⟩
theorem Zi1:ev (run T (n+1)) (.isc [237,238] .aN) ρ st=some (.dic st.length,st++[obC st.length,(true,[]),(true,[]),(true,[]),(true,[])]):=by
 show(match run T (n+1) 238 [.dic st.length] (st++[(true,[.int 237])]) with
  |some (.non,st')=>some (D.dic st.length,st')
  |_=>none)=_
 rw[Zhk]
theorem Zcd{i j:Int}:X6 .Eq (.int i) (.int j) st=some (decide (i=j)):=rfl
theorem Zce{i j:Int}:X6 .Lt (.int i) (.int j) st=some (decide (i < j)):=rfl
theorem Zac{x y:Str}:X6 .Eq (.str x) (.str y) st=some (decide (x=y)):=rfl
theorem YX{d:D}:ev F (.cst d) ρ st=some (d,st):=rfl
theorem Jb(d:Dr st s tk nm ro am)(ho:XU nm=false):run T (n+1) 239 [.dic s,.str (S "take")] st=some (.bl (decide (nm.length=tk.length)&&decide (ro.length=0)&&decide (tk.length < 3)),st):=by
 refine Wt (d:=c_Draft_has_room) rfl rfl ?_;have e1:ev (run T n) (.and (.cmp .Eq (.len (.dict [(S "names")] (.var 0))) (.len (.dict [(S "takes")] (.var 0)))) (.cmp .Eq (.len (.dict [(S "rows")] (.var 0))) (.cst (.int 0)))) [some (.dic s),some (.str (S "take")),none] st=some (.bl (decide (nm.length=tk.length)&&decide (ro.length=0)),st):=by
  have a:=Ya (Vd (F:=run T n) (ρ:=[some (.str (S "take")),none]) d ho) (Zay d) Zcd;rw[show decide ((nm.length:Int)=(tk.length:Int))=decide (nm.length=tk.length) from decide_eq_decide.mpr (by omega)]at a
  cases h:decide (nm.length=tk.length) with
  |false=>rw[h]at a;exact UH a
  |true=>
   rw[h]at a;refine(Qr a).trans ((Ya (Jx d) YX Zcd).trans ?_);rw[cW,show decide ((ro.length:Int)=0)=decide (ro.length=0) from decide_eq_decide.mpr (by omega)]
 refine ZA ((XM (st':=st) (by rfl)).trans ((Zm (YQ (st':=st) e1)).trans (ZA (X2 ?_))))
 generalize (decide (nm.length=tk.length)&&decide (ro.length=0))=q;cases q with
 |false=>exact UH (st':=st) (by rfl)
 |true=>
  refine(Qr (st':=st) (by rfl)).trans ((Ya (Zay d) YX Zce).trans ?_)
  rw[cW,show decide ((tk.length:Int) < 3)=decide (tk.length < 3) from decide_eq_decide.mpr (by omega)]
theorem Zb0(d:Dr st s tk nm ro am)(ho:XU nm=false):run T (n+1) 239 [.dic s,.str (S "name")] st=some (.bl (decide (ro.length=0)&&decide (nm.length < 5)),st):=by
 refine Wt (d:=c_Draft_has_room) rfl rfl ?_;refine(Zm ((We (st':=st) (by rfl)).trans Zr)).trans (ZA ((XM (st':=st) (by rfl)).trans (ZA (X2 ?_))))
 have a:=Ya (Jx (F:=run T n) (ρ:=[some (.str (S "name")),none]) d) (YX (d:=.int 0)) Zcd;rw[show decide ((ro.length:Int)=0)=decide (ro.length=0) from decide_eq_decide.mpr (by omega)]at a
 cases h:decide (ro.length=0) with
 |false=>rw[h]at a;exact UH a
 |true=>
  rw[h]at a;refine(Qr a).trans ((Ya (Vd d ho) YX Zce).trans ?_);rw[cW,show decide ((nm.length:Int) < 5)=decide (nm.length < 5) from decide_eq_decide.mpr (by omega)]
theorem WB{k:Str}(d:Dr st s tk nm ro am)(h1:k≠S "take")(h2:k≠S "name"):run T (n+1) 239 [.dic s,.str k] st=some (.bl (decide (ro.length < 12)),st):=by
 refine Wt (d:=c_Draft_has_room) rfl rfl ?_;refine(Zm ((We (st':=st) ?_).trans Zr)).trans ((Zm ((We (st':=st) ?_).trans Zr)).trans (ZA (X2 ?_)))
 ·exact(Ya (st1:=st) (st2:=st) (u:=.str k) (w:=.str (S "take")) (by rfl) YX Zac).trans (by rw[aK h1])
 ·exact(Ya (st1:=st) (st2:=st) (u:=.str k) (w:=.str (S "name")) (by rfl) YX Zac).trans (by rw[aK h2])
 ·exact(Ya (Jx d) YX Zce).trans (by rw[show decide ((ro.length:Int) < 12)=decide (ro.length < 12) from decide_eq_decide.mpr (by omega)])
theorem Zjn{x:Ot D}{d:D}(h:st[w]?=some (b,ds))(hj:ds[j]?=some d):ev F (.ix (.var 1) (.cst (.int (j:Int)))) (x :: some (.lst w) :: ρ) st=some (d,st):=by
 show ixR (.lst w) (.int (j:Int)) st=_;have e:ixD (.lst w) (.int (j:Int)) st=some d:=by
  show(match st[w]? with
   |some (_,xs)=>atD xs (j:Int)
   |none=>none)=_
  rw[h];show atD ds (j:Int)=_;have:=Zs hj;unfold atD ixN;rw[if_pos (by omega),if_pos (by omega),Ob,bL,hj]
 unfold ixR;rw[e]
theorem Zcu{x:Ot D}{d:D}(h:st[w]?=some (b,d :: ds)):ev F (.ix (.var 1) (.cst (.int 0))) (x :: some (.lst w) :: ρ) st=some (d,st):=Zjn (j:=0) h rfl
theorem EA.nil{fz:Fz}:EnvAll fz st [] ρ:=fun i p e=>by simp at e
theorem EA.no{fz:Fz}{x:Ot D}(r:EnvAll fz st π ρ):EnvAll fz st (none :: π) (x :: ρ):=fun i p e=>by
 cases i with
 |zero=>cases e
 |succ i=>exact r i p e
theorem EA.yes{fz:Fz}{q:P}{x:D}(h:Rel fz st q x)(r:EnvAll fz st π ρ):EnvAll fz st (some q :: π) (some x :: ρ):=fun i p e=>by
 cases i with
 |zero=>cases e;exact⟨_,rfl,h⟩
 |succ i=>exact r i p e
theorem ZgE{k:Str}(d:Dr st s tk nm ro am)(h:XU nm=false):X6 .In (.str k) (.dic (s+2)) st=some (Yo nm k).isSome:=by
 show(dAt k (s+2) st).map Option.isSome=_;unfold dAt;rw[d.n];simp only[h];rfl
theorem Zjf{k:Str}(d:Dr st s tk nm ro am)(h:XU nm=false):X6 .NotIn (.str k) (.dic (s+2)) st=some (!(Yo nm k).isSome):=by
 show(X6 .In (.str k) (.dic (s+2)) st).map not=_;rw[ZgE d h];rfl
theorem Zbj{x:Str}{k:CE}{v:D}(d:Dr st s tk nm ro am)(he:ev F e (some (.dic s) :: ρ) st=some (v,st))(hk:ev F k (some (.dic s) :: ρ) st=some (.str x,st))(ho:XU nm=false)(hl:nm.length < 900)(hn:nm.any (isK x)=false) :
  ex F (.dput 0 (.dict [(S "names")] (.var 0)) k e) (some (.dic s) :: ρ) st=some (.nx (some (.dic s) :: ρ),st.set (s+2) (true,nm++[.tup [.str x,v]])):=by
 show Qo (ev F (.dict [(S "names")] (.var 0))) (ev F k) (ev F e) _ st=_;unfold Qo;simp only[he,Wk d,hk,d.n,ho,hn,and_true,true_and];rw[if_pos (by unfold Ze;omega)]
theorem Qe{o:CE}{v:D}(ho:ev F o ρ st=some (.lst j,st))(he:ev F e ρ st=some (v,st1))(h:st1[j]?=some (true,ds))(hl:ds.length < 900):ex F (.app2 o e) ρ st=some (.nx ρ,st1.set j (true,ds++[v])):=by
 show Qd (ev F o) (ev F e) ρ st=_;unfold Qd;simp only[ho,he];unfold Jd;rw[h];simp only;rw[if_pos (by unfold Ze;omega)]
theorem Ui(hN:Nms N){q:CS}{k:Str}(d:Dr st s tk (nmD N m) ro am)(hw:st[w]?=some (b,.str k :: .str (N m) :: ws.map D.str))(hm:m<=6) :
  ex F (.seq (.ite (.cmp .In (.ix (.var 1) (.cst (.int 1))) (.dict [(S "names")] (.var 0))) (.seq .stop .skip) .skip) (.seq (.dput 0 (.dict [(S "names")] (.var 0)) (.ix (.var 1) (.cst (.int 1))) (.len (.dict [(S "names")] (.var 0)))) q)) [some (.dic s),some (.lst w),some (.int line)] st=ex F q [some (.dic s),some (.lst w),some (.int line)] (st.set (s+2) (true,nmD N (m+1))):=by
 have i1:ev F (.ix (.var 1) (.cst (.int 1))) [some (.dic s),some (.lst w),some (.int line)] st=some (.str (N m),st):=Zjn (j:=1) hw rfl;rw[Zm (We (st':=st) ((Ya i1 (Wk d) (ZgE d (XA))).trans (by rw[ZaG (Zdt hN (aD m) (by omega))];rfl)) |>.trans Zr),Zm (Zbj d (Vd d (XA)) i1 (XA) (by rw[YM];omega) (Zds (Zdt hN (aD m) (by omega)))),YM,<-Zdr]
theorem ZeA(hN:Nms N)(d:Dr st s tk (nmD N m) ro am)(hw:st[w]?=some (b,(nmN N m).map D.str))(hm:m<=6)(hne:w < s\/s+5<=w):∃ st',run T (n+1) 241 [.dic s,.lst w,.int line] st=some (.non,st')/\Dr st' s tk (nmD N (m+1)) ro am/\Kp s st st':=by
 refine⟨_,ZbI (d:=c_Draft_read_name) rfl rfl (ρ':=[some (.dic s),some (.lst w),some (.int line)]) ?_,d.setN (l:=nmD N (m+1)),Kp.set (by omega) (by omega)⟩
 show ex (run T n) (.seq _ (.seq _ (.seq _ .skip))) [some (.dic s),some (.lst w),some (.int line)] st=_;have k:(st.set (s+2) (true,nmD N (m+1)))[w]?=some (b,(nmN N m).map D.str):=by
  rw[Zw (Zs d.n),if_neg (by omega)];exact hw
 rw[Ui hN (ws:=[]) d hw hm,Zm ((We (Ya (Zcu k) YX Zac)).trans Zr),Zr]
theorem ZeB(hN:Nms N){x y:Int}{X Y:Str}(d:Dr st s tk (nmD N m) ro am)(hw:st[w]?=some (b,([S "take",N m,X,Y]).map D.str))(hm:m<=6)(hne:w < s\/s+5<=w)(hx:(wdB X&&isI (VE X) x)=true)(hy:(wdB Y&&isI (VE Y) y)=true)(ht:tk.length < 900):∃ st',run T (n+4) 241 [.dic s,.lst w,.int line] st=some (.non,st')/\Dr st' s (tk++[.tup [.int x,.int y]]) (nmD N (m+1)) ro am/\Kp s st st':=by
 have d1:=d.setN (l:=nmD N (m+1));have k:(st.set (s+2) (true,nmD N (m+1)))[w]?=some (b,([S "take",N m,X,Y]).map D.str):=by
  rw[Zw (Zs d.n),if_neg (by omega)];exact hw
 obtain⟨v,st2,e2,x2,r2⟩:=ZO (n:=n+3) (e:=.tupE (.aC (.call 212 (.aC (.ix (.var 1) (.cst (.int 2))) .aN) []) (.aC (.call 212 (.aC (.ix (.var 1) (.cst (.int 3))) .aN) []) .aN))) (π:=[none,some (.lst b (([S "take",N m,X,Y]).map P.str)),none]) (ρ:=[some (.dic s),some (.lst w),some (.int line)]) (p:=.tup [.int x,.int y]) (st:=st.set (s+2) (true,nmD N (m+1))) (by
  have z1:pe (Zf T (n+3)) (.call 212 (.aC (.ix (.var 1) (.cst (.int 2))) .aN) []) [none,some (.lst b (([S "take",N m,X,Y]).map P.str)),none]=some (.int x):=n_c (n:=n) hx;have z2:pe (Zf T (n+3)) (.call 212 (.aC (.ix (.var 1) (.cst (.int 3))) .aN) []) [none,some (.lst b (([S "take",N m,X,Y]).map P.str)),none]=some (.int y):=n_c (n:=n) hy;rw[Vh,Zk,Zk,z1,z2]
  rfl) (EA.no (EA.yes (Y2 k) (EA.no EA.nil)))
 cases XH (p:=.tup [.int x,.int y]) rfl r2
 have d2:=d1.ext x2;refine⟨_,ZbI (d:=c_Draft_read_name) rfl rfl (ρ':=[some (.dic s),some (.lst w),some (.int line)]) ?_,d2.setT (l:=tk++[.tup [.int x,.int y]]),((Kp.set (by omega) (by omega)).trans x2.kp).trans (Kp.set (by omega) (by omega))⟩
 show ex (run T (n+3)) (.seq _ (.seq _ (.seq _ .skip))) [some (.dic s),some (.lst w),some (.int line)] st=_;rw[Ui hN (ws:=[X,Y]) d hw hm,Zm ((XM (Ya (Zcu k) YX Zac)).trans ((Zm (Qe (UI d1) e2 d2.t ht)).trans Zr)),Zr];rfl
end
section
variable {n j w la:Nat}{x k:Str}{b:Bool}{ws:Li Str}{sel:Str×Str->Bool}{x0 x2 x3:Ot D}{st:Za}{acc:Li D}
structure Kj(j:Nat)(st st':Za):Prop where
 old:∀ i,i < st.length->i≠j->st'[i]?=st[i]?
 len:st.length<=st'.length
theorem ZfF{p:Str×Str}(h:Ja (Zf T n) p (sel p))(hj:st[j]?=some (true,acc))(hl:acc.length < 1000) :
  ∃ st',ex (run T n) Z8 [x0,some (.lst j),some (.str p.1),some (.str p.2)] st=some (.nx [x0,some (.lst j),some (.str p.1),some (.str p.2)],st')/\st'[j]?=some (true,acc++([p].filter sel).map fun p=>D.str p.1)/\Kj j st st':=by
 obtain⟨d,st1,e1,g,r⟩:=ZO (st:=st) (ρ:=[x0,some (.lst j),some (.str p.1),some (.str p.2)]) (h none none) (EA.no (EA.no (EA.yes (.str _) (EA.yes (.str _) EA.nil))));cases r;unfold nrC at e1;have hj1:=g.get hj;cases e:sel p with
 |true=>
  rw[e]at e1;refine⟨st1.set j (true,acc++[.str p.1]),?_,?_,⟨fun i hi hn=>?_,?_⟩⟩
  ·have ea:ex (run T n) (.app 1 (.var 2)) [x0,some (.lst j),some (.str p.1),some (.str p.2)] st1=some (.nx [x0,some (.lst j),some (.str p.1),some (.str p.2)],st1.set j (true,acc++[.str p.1])):=by
    show(match Jd j (.str p.1) st1 with
     |some st2=>some (Fl.nx _,st2)
     |none=>none)=_
    unfold Jd;simp only[hj1];rw[if_pos (by unfold Ze;omega)]
   exact(Zm ((XM e1).trans ((Zm ea).trans Zr))).trans Zr
  ·rw[eG e,Zw (Zs hj1),if_pos rfl]
   rfl
  ·rw[Zw (Zs hj1),if_neg (Ne.symm hn)]
   exact g.old i hi
  ·rw[bI]
   exact g.len
 |false=>
  rw[e]at e1;refine⟨st1,(Zm ((We e1).trans Zr)).trans Zr,?_,fun i hi _=>g.old i hi,g.len⟩
  rw[eI (by rw[e];exact Bf)]
  show st1[j]?=some (true,acc++[]);rw[bU];exact hj1
theorem ZaI{ca:Z5}(hn:la≠j):∀ {l:Li (Str×Str)},(∀ p∈l,Ja (Zf T n) p (sel p))->∀ {acc:Li D}{st:Za}{x2 x3:Ot D},st[j]?=some (true,acc)->st[la]?=some ca->acc.length+l.length < 900->
  ∃ y2 y3 st',ZN (fun s=>s[la]?=some ca) (fun x y ρ s=>ex (run T n) Z8 (Zi (Zi ρ 2 x) 3 y) s) (l.map fun p=>(D.str p.1,D.str p.2)) [x0,some (.lst j),x2,x3] st=some (.nx [x0,some (.lst j),y2,y3],st')/\st'[j]?=some (true,acc++(l.filter sel).map fun p=>D.str p.1)/\Kj j st st'
 |[],_,acc,st,x2,x3,hj,ha,_=>⟨x2,x3,st,if_pos ha,by
  show st[j]?=some (true,acc++[]);rw[bU];exact hj,fun _ _ _=>rfl,aD _⟩
 |p :: l,h,acc,st,x2,x3,hj,ha,hl=>by
  rw[bA]at hl;obtain⟨st1,e,h1,k1⟩:=ZfF (x0:=x0) (h p Ls) hj (by omega)
  have hz:([p].filter sel).length<=1:=List.length_filter_le _ _;obtain⟨y2,y3,st2,e3,h2,k2⟩:=ZaI hn (fun q hq=>h q (Lm _ hq)) (x2:=some (.str p.1)) (x3:=some (.str p.2)) h1 ((k1.old _ (Zs ha) hn).trans ha) (by rw[aI,aF];omega)
  refine⟨y2,y3,st2,?_,?_,fun i hi hn=>(k2.old i (aJ hi k1.len) hn).trans (k1.old i hi hn),aG k1.len k2.len⟩
  ·refine Eq.trans ?_ e3
   rw[aP,ZN];rw[if_pos ha];show(match ex (run T n) Z8 [x0,some (.lst j),some (.str p.1),some (.str p.2)] st with
    |some (.nx ρ',st')=>ZN _ _ _ ρ' st'
    |some (.ct ρ',st')=>ZN _ _ _ ρ' st'
    |some (.bk ρ',st')=>some (.nx ρ',st')
    |some (.rt v,st')=>some (.rt v,st')
    |none=>none)=_
   rw[e]
  ·rw[h2,show(p :: l).filter sel=[p].filter sel++l.filter sel from List.filter_append [p] l,cA,bO]
def Nd(n:Nat)(l:Li Str)(x:Str):Prop:=∀ (st:Za) (w:Nat) (b:Bool),st[w]?=some (b,l.map D.str)->∃ j st',run T n 234 [.lst w] st=some (.lst j,st')/\st'[j]?=some (true,[.str x])/\Grw st st'
theorem Uy(hk:Vl k)(hn:ws.length<=5)(hp:ws≠[])(h:∀ p∈ws.zip (kinds k),Ja (Zf T n) p (sel p))(hs:((ws.zip (kinds k)).filter sel).map (fun p=>D.str p.1)=[.str x]):Nd (n+1) (k :: ws) x:=by
 intro st w b hw;have g0:Grw st (st++[(true,[])]):=Grw.push;have hj:(st++[(true,([]:Li D))])[st.length]?=some (true,[]):=by rw[aY (aD _),cK];rfl
 obtain⟨d,st1,e1,g1,r⟩:=ZO (n:=n) (st:=st++[(true,[])]) (e:=.aC (.slice (.var 0) (.part (.cst (.int 1))) .nop) (.aC (.look _ _ _) .aN)) (π:=[some (.lst b (.str k :: ws.map P.str))]) (ρ:=[some (.lst w),some (.lst st.length),none,none]) (p:=.tup [.lst true (ws.map P.str),.tup ((kinds k).map P.str)]) (by
  rw[Zk,sl1,Zk,show pe (Zf T n) (.look _ _ _) [some (.lst b (.str k :: ws.map P.str))]=some (.tup ((kinds k).map P.str)) from ZgS hk];rfl) (EA.yes (Y2 (ws:=k :: ws) (g0.get hw)) EA.nil)
 cases r with
 |tup r=>cases r with
  |cons a r=>cases r with
   |cons c r=>
    cases r;cases a with
    |@lst la _ _ ds hz hs1 ra=>cases c with
     |@tup _ es rc=>
      cases Wu VJ ra
      cases Wu VJ rc
      rw[VV]at hs1;rw[VV]at e1;have hn1:la≠st.length:=fun z=>by
       rw[z,g1.get hj]at hs1;cases ws with
       |nil=>exact hp rfl
       |cons _ _=>cases hs1
      obtain⟨y2,y3,st2,e2,h2,k2⟩:=ZaI (x0:=some (.lst w)) hn1 h (g1.get hj) hs1 (x2:=none) (x3:=none) (by rw[List.length_nil,dA];omega)
      refine⟨st.length,st2,Wt (d:=c_names_read) rfl rfl (v:=.lst st.length) ?_,?_,fun i hi=>?_,?_⟩
      ·show ex (run T n) (.seq (.set 1 (.lstE .aN)) (.seq (.forP 2 3 _ _) (.seq (.ret (.var 1)) .skip))) [some (.lst w),none,none,none] st=_
       rw[Zm (YQ (v:=.lst st.length) (st':=st++[(true,[])]) (by rfl))]
       refine(Zm (ρ':=[some (.lst w),some (.lst st.length),y2,y3]) (st':=st2) ?_).trans (ZA (X2 (by rfl)))
       rw[<-e2,<-U9];show Vu 2 3 _ _ [some (.lst w),some (.lst st.length),none,none] _=_;unfold Vu;rw[e1];simp only[hs1]
      ·rw[h2,hs];rfl
      ·rw[k2.old i (aJ (aJ hi g0.len) g1.len) (by omega),g1.old i (aJ hi g0.len),g0.old i hi]
      ·exact aG (aG g0.len g1.len) k2.len
theorem Zi7(h:Nm x):Nd (n+3) [S "put",x,S "1",S "+",S "1"] x:=
 Uy (n:=n+2) (k:=S "put") (ws:=[x,S "1",S "+",S "1"]) (sel:=fun p=>p.2==S "name") (.inr (.inr (.inl rfl))) (by simp) (by simp) (Zu (VM h.is (.inl rfl)) (Zu (VM (f_c (by decide +kernel)) (.inr rfl)) (Zu (JN fun _ _ _=>rfl) (Zu (VM (f_c (by decide +kernel)) (.inr rfl)) Xb)))) (by rfl)
theorem Zi5(h:Nm x):Nd (n+3) [S "if",x,S "<",S "1",S "go",S "99"] x:=by
 have z:(x==S "1")=false:=bH.mpr fun z=>by
  have:=h.nm;rw[z]at this;exact absurd this (by decide +kernel)
 refine Uy (n:=n+2) (k:=S "if") (ws:=[x,S "<",S "1",S "go",S "99"]) (sel:=fun p=>p.2==S "operand"&&!(p.1==S "1")) (.inr (.inr (.inr (.inl rfl)))) (by simp) (by simp) (Zu (by
  show Ja _ _ (true&&!(x==S "1"));rw[z];exact VM h.is (.inr rfl)) (Zu (JN fun _ _ _=>rfl) (Zu (VM (f_c (by decide +kernel)) (.inr rfl)) (Zu (JN fun _ _ _=>rfl) (Zu (JN fun _ _ _=>rfl) Xb))))) ?_
 show(List.filter _ [(x,S "operand"),(S "<",S "if sign"),(S "1",S "operand"),(S "go",S "go"),(S "99",S "place")]).map (fun p=>D.str p.1)=_
 rw[eG (by show(true&&!(x==S "1"))=true;rw[z];rfl)]
 rfl
theorem Zi6(h:Nm x):Nd (n+3) [S "if",S "2",S "<",x,S "go",S "98"] x:=by
 have z:(x==S "2")=false:=bH.mpr fun z=>by
  have:=h.nm;rw[z]at this;exact absurd this (by decide +kernel)
 refine Uy (n:=n+2) (k:=S "if") (ws:=[S "2",S "<",x,S "go",S "98"]) (sel:=fun p=>p.2==S "operand"&&!(p.1==S "2")) (.inr (.inr (.inr (.inl rfl)))) (by simp) (by simp) (Zu (VM (f_c (by decide +kernel)) (.inr rfl)) (Zu (JN fun _ _ _=>rfl) (Zu (by
  show Ja _ _ (true&&!(x==S "2"));rw[z];exact VM h.is (.inr rfl)) (Zu (JN fun _ _ _=>rfl) (Zu (JN fun _ _ _=>rfl) Xb))))) ?_
 show(List.filter _ [(S "2",S "operand"),(S "<",S "if sign"),(x,S "operand"),(S "go",S "go"),(S "98",S "place")]).map (fun p=>D.str p.1)=_
 rw[eI (by decide),eI (by decide),eG (by show(true&&!(x==S "2"))=true;rw[z];rfl)]
 rfl
end
variable{xs:Li D}{r1 r2:Bool}
section
variable {n m s w:Nat}{st st' st1 st2:Za}{tk nm ro am:Li D}{F:Nat->Fn}{ρ:Env}{b:Bool}{k x:Str}{N:Nat->Str}{ws:Li Str}{line:Int}{v:D}
def nmP(N:Nat->Str)(m:Nat):Li P:=(List.range m).map fun i=>.tup [.str (N i),.int (i:Int)]
theorem ZfQ:W8 (nmP N m)=true:=Yz fun q hq=>by obtain⟨a,_,rfl⟩:=bC.mp hq;rfl
theorem ZiV:Va (nmP N m)=nmD N m:=by
 rw[YE];unfold nmP nmD;rw[aV];rfl
theorem Ziz(d:Dr st s tk (nmD N m) ro am):Rel (Al st) st (.dic true (nmP N m)) (.dic (s+2)):=.dic (Zs d.n) d.n (by rw[<-ZiV];exact XT ZfQ)
theorem Xa{f:Nat}{a:CE}(h:ev F a ρ st=some (.tup xs,st1))(hF:F f xs st1=some (v,st2))(hv:Wr (some (v,st2))=some (v,st2):=by rfl):ev F (.call f a []) ρ st=some (v,st2):=by
 show Zo (ev F a) (Qj (F f) []) ρ st=_;unfold Zo;rw[h];show Wr (F f (xs++[]) st1)=_;rw[bU,hF,hv]
theorem ZiY{f:Nat}{a:CE}(h:ev F a ρ st=some (.tup xs,st1)):evX F (.call f a []) ρ st=F f xs st1:=by
 show Zo (ev F a) (V4 (F f) []) ρ st=_;unfold Zo;rw[h];show F f (xs++[]) st1=_;rw[bU]
theorem U8{a:CE}(hi:ρ[i]?=some (some (.dic s)))(ho:st[s]?=some (obC s))(h:ev F a ρ st=some (.tup xs,st1)):evX F (.meth [(237,j)] (.var i) a) ρ st=F j (.dic s :: xs) st1:=by
 show WY F [(237,j)] (ZV i) (ev F a) ρ st=_;unfold WY ZV;simp only[hi,ho,obC,h];rfl
theorem Zcv{a:CE}(hi:ρ[i]?=some (some (.dic s)))(ho:st[s]?=some (obC s))(h:ev F a ρ st=some (.tup xs,st1))(hF:F j (.dic s :: xs) st1=some (v,st2))(hv:Wr (some (v,st2))=some (v,st2):=by rfl):ev F (.meth [(237,j)] (.var i) a) ρ st=some (v,st2):=by
 show Wr (WY F [(237,j)] (ZV i) (ev F a) ρ st)=_;rw[show WY F [(237,j)] (ZV i) (ev F a) ρ st=_ from U8 hi ho h,hF,hv]
theorem Zv{a r:CE}{x:D}(h:ev F a ρ st=some (x,st1))(h2:ev F r ρ st1=some (.tup xs,st2))(hl:xs.length < 1000):ev F (.aC a r) ρ st=some (.tup (x :: xs),st2):=by
 show Zz (ev F a) (ev F r) Xr ρ st=_;unfold Zz;rw[h];simp only[h2];exact if_pos hl
theorem Zjm{x y:CE}{op:Operator}{u w:D}{st3:Za}(h:ev F x ρ st=some (u,st1))(h2:ev F y ρ st1=some (w,st2))(h3:UC op u w st2=some (v,st3)):ev F (.bin op x y) ρ st=some (v,st3):=by
 show Zz (ev F x) (ev F y) (UC op) ρ st=_;unfold Zz;rw[h];simp only[h2];exact h3
theorem Y9:ev F .aN ρ st=some (.tup [],st):=rfl
theorem Zjz{q:CS}(h:ev F e ρ st=some (.lst j,st1))(hj:st1[j]?=some (b,[])):ex F (.for1 i false e q) ρ st=some (.nx ρ,st1):=by
 show Jp i false (ev F e) (ex F q) ρ st=_;unfold Jp;rw[h];show(match st1[j]? with
  |some (_,xs)=>Z4 (fun d ρ s=>ex F q (Zi ρ i d) s) j xs.length 0 ρ st1
  |none=>none)=_
 rw[hj];show(match st1[j]? with
  |some (_,xs)=>if xs.length<=0 then some (Fl.nx ρ,st1) else none
  |none=>none)=_
 rw[hj];rfl
theorem ZjA{q:CS}{d u:D}(h:ev F e ρ st=some (.lst j,st1))(hj:st1[j]?=some (b,[d]))(hq:ex F q (Zi ρ i d) st1=some (.rt u,st2)):ex F (.for1 i false e q) ρ st=some (.rt u,st2):=by
 show Jp i false (ev F e) (ex F q) ρ st=_;unfold Jp;rw[h];show(match st1[j]? with
  |some (_,xs)=>Z4 (fun d ρ s=>ex F q (Zi ρ i d) s) j xs.length 0 ρ st1
  |none=>none)=_
 rw[hj];show(match st1[j]? with
  |some (_,xs)=>match xs[0]? with
   |none=>some (Fl.nx ρ,st1)
   |some d=>match ex F q (Zi ρ i d) st1 with
    |some (.nx ρ',st')=>Z4 (fun d ρ s=>ex F q (Zi ρ i d) s) j 0 (0+1) ρ' st'
    |some (.ct ρ',st')=>Z4 (fun d ρ s=>ex F q (Zi ρ i d) s) j 0 (0+1) ρ' st'
    |some (.bk ρ',st')=>some (.nx ρ',st')
    |some (.rt v,st')=>some (.rt v,st')
    |none=>none
  |none=>none)=_
 rw[hj];show(match ex F q (Zi ρ i d) st1 with
    |some (.nx ρ',st')=>Z4 (fun d ρ s=>ex F q (Zi ρ i d) s) j 0 (0+1) ρ' st'
    |some (.ct ρ',st')=>Z4 (fun d ρ s=>ex F q (Zi ρ i d) s) j 0 (0+1) ρ' st'
    |some (.bk ρ',st')=>some (.nx ρ',st')
    |some (.rt v,st')=>some (.rt v,st')
    |none=>none)=_
 rw[hq]
def skD:D:=.tup [.str (S "skip")]
theorem Zhl(d:Dr st s tk (nmD N m) ro am)(hw:st[w]?=some (b,([S "skip"]).map D.str))(hr:ro.length < 800):∃ st',run T (n+2) 242 [.dic s,.lst w,.int line] st=some (.non,st')/\Dr st' s tk (nmD N m) (ro++[skD]) am/\Kp s st st':=by
 obtain⟨v1,st1,e1,x1,r1⟩:=Ul (n:=n+1) (Zhh (b:=b)) (.cons (Y2 hw) .nil);cases r1 with
 |lst hz hj rs=>
  rename_i j ds;cases rs;have d1:=d.ext x1;obtain⟨st2,e2,x2⟩:=Wb (n:=n+1) (Zhi (n:=n) (b:=b)) rfl (.cons (Y2 (x1.get hw)) (.cons (Ziz d1) .nil));have d2:=d1.ext x2;have d3:=d2.setR (l:=ro++[skD]);refine⟨_,ZbI (d:=c_Draft_read_row) rfl rfl (ρ':=[some (.dic s),some (.lst w),some (.int line),none,some skD]) ?_,d3,((x1.kp).trans x2.kp).trans (Kp.set (by omega) (by omega))⟩
  show ex (run T (n+1)) (.seq _ (.seq _ (.seq _ (.seq _ .skip)))) [some (.dic s),some (.lst w),some (.int line),none,none] st=_;rw[Zm (Zjz (Xa (xs:=[.lst w]) (st1:=st) (by rfl) e1) hj),Zm (YQ (v:=skD) (st':=st2) (Xa (xs:=[.lst w,.dic (s+2)]) (st1:=st1) (Zv (st1:=st1) (by rfl) (Zv (Wk d1) Y9 (by decide)) (show 1 < 1000 by decide)) e2))]
  show ex (run T (n+1)) _ [some (.dic s),some (.lst w),some (.int line),none,some skD] st2=_;rw[Zm (Qe (Jo d2) (v:=skD) (st1:=st2) (by rfl) d2.r (by omega)),Zm ((We (st':=st2.set (s+3) (true,ro++[skD])) (by rfl)).trans Zr),Zr]
theorem Zi8(d:Dr st s tk nm ro am)(ho:XU nm=false)(hw:st[w]?=some (b,(k :: ws).map D.str))(hn:Nd n (k :: ws) x)(hx:Yo nm x=none):∃ st',run T (n+1) 242 [.dic s,.lst w,.int line] st=some (mkX 226 line,st')/\Grw st st':=by
 obtain⟨j,st1,e1,hj,x1⟩:=hn st w b hw;have d1:=d.ext x1;refine⟨st1,Wt (d:=c_Draft_read_row) rfl rfl ?_,x1⟩;show ex (run T n) (.seq _ _) [some (.dic s),some (.lst w),some (.int line),none,none] st=_;refine ZA (ZjA (Xa (xs:=[.lst w]) (st1:=st) (by rfl) e1) hj ?_)
 show ex (run T n) Yu [some (.dic s),some (.lst w),some (.int line),some (.str x),none] st1=_;refine ZA ((XM (st':=st1) ((Ya (st1:=st1) (u:=.str x) (by rfl) (Wk d1) (Zjf d1 ho)).trans (by rw[hx];rfl))).trans (ZA (ZaY (by rfl))))
theorem a_0{x0:Ot D}(hw:st[w]?=some (b,(k :: ws).map D.str)):ev F (.ix (.var 1) (.cst (.int 0))) (x0 :: some (.lst w) :: ρ) st=some (.str k,st):=Zcu hw
theorem Zb2(d:Dr st s tk nm ro am)(hw:st[w]?=some (b,(k :: ws).map D.str))(h233:Zf T n 233 [.lst b ((k :: ws).map P.str)]=some (.bl r1))(h239:∀ st',Grw st st'->run T n 239 [.dic s,.str k] st'=some (.bl r2,st')) :
  ∃ st1,ev (run T n) (.or (.not (.call 233 (.aC (.var 1) .aN) [])) (.not (.meth [(237,239)] (.var 0) (.aC (.ix (.var 1) (.cst (.int 0))) .aN)))) [some (.dic s),some (.lst w),some (.int line)] st=some (.bl (!(r1&&r2)),st1)/\Grw st st1:=by
 obtain⟨st1,e1,x1⟩:=Wb h233 rfl (.cons (Y2 hw) .nil);have d1:=d.ext x1;refine⟨st1,?_,x1⟩;have a:=Zam (Xa (F:=run T n) (ρ:=[some (.dic s),some (.lst w),some (.int line)]) (a:=.aC (.var 1) .aN) (xs:=[.lst w]) (st:=st) (st1:=st) (by rfl) e1)
 cases r1 with
 |false=>exact Zjp a
 |true=>exact(Zjo a).trans (Zam (Zcv (s:=s) (xs:=[.str k]) (st1:=st1) rfl d1.o (Zv (a_0 (x1.get hw)) Y9 (by decide)) (h239 st1 x1)))
theorem Yt(d:Dr st s tk nm ro am)(hw:st[w]?=some (b,(k :: ws).map D.str))(h233:Zf T n 233 [.lst b ((k :: ws).map P.str)]=some (.bl r1))(h239:∀ st',Grw st st'->run T n 239 [.dic s,.str k] st'=some (.bl r2,st'))(hr:(r1&&r2)=false):∃ st',run T (n+1) 240 [.dic s,.lst w,.int line] st=some (mkX 224 line,st')/\Grw st st':=by
 obtain⟨st1,e,x1⟩:=Zb2 (line:=line) d hw h233 h239;rw[hr]at e;exact⟨st1,Wt (d:=c_Draft_read_line) rfl rfl (ZA ((XM e).trans (ZA (ZaY (by rfl))))),x1⟩
theorem Uz{c:Bool}{u:D}(d:Dr st s tk nm ro am)(hw:st[w]?=some (b,(k :: ws).map D.str))(h233:Zf T n 233 [.lst b ((k :: ws).map P.str)]=some (.bl true))(h239:∀ st',Grw st st'->run T n 239 [.dic s,.str k] st'=some (.bl true,st'))(hc:YS k [.str (S "take"),.str (S "name")]=some c)(hj:j=if c=true then 241 else 242){Q:Za->Prop}(hm:∀ st',Grw st st'->∃ st'',run T n j [.dic s,.lst w,.int line] st'=some (u,st'')/\Q st'')(hu:u=.non\/∃ c l,u=mkX c l):∃ st'',run T (n+1) 240 [.dic s,.lst w,.int line] st=some (u,st'')/\Q st'':=by
 obtain⟨st1,c1,x1⟩:=Zb2 (line:=line) d hw h233 h239;have d1:=d.ext x1;obtain⟨st2,e2,q⟩:=hm st1 x1;have c2:ev (run T n) (.cmp .In (.ix (.var 1) (.cst (.int 0))) (.tupE (.aC (.cst (.str (S "take"))) (.aC (.cst (.str (S "name"))) .aN)))) [some (.dic s),some (.lst w),some (.int line)] st1=some (.bl c,st1):=Ya (a_0 (x1.get hw)) (w:=.tup [.str (S "take"),.str (S "name")]) (st2:=st1) (by rfl) hc
 have ev2:∀ i,evX (run T n) (.meth [(237,i)] (.var 0) (.aC (.var 1) (.aC (.var 2) .aN))) [some (.dic s),some (.lst w),some (.int line)] st1=run T n i [.dic s,.lst w,.int line] st1:=fun i=>U8 (s:=s) (xs:=[.lst w,.int line]) (st1:=st1) rfl d1.o (by rfl)
 refine⟨st2,?_,q⟩;rcases hu with rfl|⟨cc,l,rfl⟩
 ·refine ZbI (d:=c_Draft_read_line) rfl rfl (ρ':=[some (.dic s),some (.lst w),some (.int line)]) ?_
  show ex (run T n) (.seq _ (.seq _ .skip)) [some (.dic s),some (.lst w),some (.int line)] st=_;rw[Zm ((We c1).trans Zr)];subst hj;cases c with
  |true=>exact(Zm ((XM c2).trans ((Zm (ZaX ((ev2 241).trans e2))).trans Zr))).trans Zr
  |false=>exact(Zm ((We c2).trans ((Zm (ZaX ((ev2 242).trans e2))).trans Zr))).trans Zr
 ·refine Wt (d:=c_Draft_read_line) rfl rfl ?_
  show ex (run T n) (.seq _ (.seq _ .skip)) [some (.dic s),some (.lst w),some (.int line)] st=_;rw[Zm ((We c1).trans Zr)];subst hj;cases c with
  |true=>exact ZA ((XM c2).trans (ZA (J4 ((ev2 241).trans e2))))
  |false=>exact ZA ((We c2).trans (ZA (J4 ((ev2 242).trans e2))))
end
variable{body:D->D->Env->Za->Ot (Fl×Za)}{ps:Li (D×D)}
section
variable {n m s w a t r j:Nat}{st st' st1 st2:Za}{tkd nm ro am:Li D}{F:Nat->Fn}{ρ:Env}{b:Bool}{k:Str}{N:Nat->Str}{L:Li Str}{ws wl:Li Str}{c:Z5}{line:Int}{x0:Ot D}
def ln(wl:Li Str):Str:=gl (S " ") wl
theorem Zje:(S " ").length=1:=by decide +kernel
theorem Q3(h:Vl k):Vis k:=by
 unfold Vis;rcases h with h|h|h|h|h|h|h<;>subst h<;>decide +kernel
theorem Zen(h:Vl k):k.length<=60:=by
 rcases h with h|h|h|h|h|h|h<;>subst h<;>decide +kernel
theorem UP(hk:Vl k)(h:∀ x∈ws,Vis x/\x.length<=60)(hl:ws.length<=5):(ln (k :: ws)).length<=366:=by
 have:=ZcJ (j:=60) Zje (ws:=k :: ws) (fun w hw=>by
  rcases aM.mp hw with rfl|hw
  ·exact Zen hk
  ·exact(h w hw).2)
 rw[bA]at this;unfold ln;omega
theorem ZbT(h:Vl k):∃ c l,k.cps.toList=c :: l/\c≠35:=by
 rcases h with h|h|h|h|h|h|h<;>subst h<;>exact⟨_,_,rfl,by decide⟩
def NL:Str:=S "\n"
theorem Zd7{x:Nat}{xs:Li Str}(h0:xs≠[])(h:∀ q∈xs,x∉q.cps.toList):XJ (gl ⟨#[x]⟩ xs) ⟨#[x]⟩=xs:=by
 unfold XJ;rw[gl_list];show(XW x (Xv ⟨#[x]⟩ xs)).map (fun l=>(⟨l.toArray⟩:Str))=xs
 rw[VT h0 h,aV];have:((fun l:Li Nat=>(⟨l.toArray⟩:Str)) ∘ fun q:Str=>q.cps.toList)=id:=by
  funext q
  exact YN rfl
 rw[this,List.map_id]
theorem ZkG:S " "=⟨#[32]⟩:=YN rfl
theorem ZkH:S "\n"=⟨#[10]⟩:=YN rfl
theorem Zar{x:Nat}{sg:Str}:∀ {xs:Li Str},x∈Z6 sg xs->x∈sg.cps.toList\/∃ q∈xs,x∈q.cps.toList
 |[],h=>nomatch h
 |q :: xs,h=>by
  rcases bM.mp (show x∈(sg.cps.toList++q.cps.toList)++Z6 sg xs from h) with h|h
  ·rcases bM.mp h with h|h
   ·exact .inl h
   ·exact .inr ⟨q,Ls,h⟩
  ·rcases Zar h with h|⟨q',h1,h2⟩
   ·exact .inl h
   ·exact .inr ⟨q',Lm _ h1,h2⟩
theorem ZjI(hk:Vis k)(h:∀ x∈ws,Vis x/\x.length<=60):10∉(ln (k :: ws)).cps.toList:=by
 unfold ln;rw[gl_list];intro z;rcases bM.mp (show 10∈k.cps.toList++Z6 (S " ") ws from z) with z|z
 ·exact absurd (hk _ z) (by omega)
 ·rcases Zar z with z|⟨q,h1,h2⟩
  ·exact absurd z (by decide +kernel)
  ·exact absurd ((h q h1).1 _ h2) (by omega)
theorem ZjJ(h:Vl k):¬ln (k :: ws)=S ""/\stW (ln (k :: ws)) (S "#")=false:=by
 obtain⟨c,l,e,hc⟩:=ZbT h;have el:(ln (k :: ws)).cps.toList=c :: (l++Z6 (S " ") ws):=by
  unfold ln;rw[gl_list];show k.cps.toList++Z6 (S " ") ws=_;rw[e];rfl
 refine⟨fun z=>?_,?_⟩
 ·rw[z]at el;cases el
 ·unfold stW
  rw[el];show([c]==[35])=false;simp[hc]
theorem Zh3(h:Vl k)(hv:∀ x∈ws,Vis x/\x.length<=60):XJ (ln (k :: ws)) (S " ")=k :: ws:=by
 unfold ln;rw[ZkG];refine Zd7 (dI _ _) fun q hq z=>?_
 rcases aM.mp hq with rfl|hq
 ·exact absurd (Q3 h _ z) (by omega)
 ·exact absurd ((hv q hq).1 _ z) (by omega)
structure Lnw(wl:List Str):Prop where
 k:∃ k ws,wl=k :: ws/\Vl k/\(∀ x∈ws,Vis x/\x.length<=60)/\ws.length<=5
theorem Ur{u:D}(hl:Lnw wl)(ho:st[s]?=some (obC s))(e2:run T n 240 [.dic s,.lst st.length,.int line] (st++[(true,wl.map D.str)])=some (u,st2)) :
  (u=.non->ex (run T n) Zx [x0,some (.dic s),some (.int line),some (.str (ln wl))] st=some (.nx [x0,some (.dic s),some (.int line),some (.str (ln wl))],st2))/\∀ c l,u=mkX c l->ex (run T n) Zx [x0,some (.dic s),some (.int line),some (.str (ln wl))] st=some (.rt (mkX c l),st2):=by
 obtain⟨k,ws,rfl,hk,hv,h5⟩:=hl.k;obtain⟨g1,g2⟩:=ZjJ (ws:=ws) hk;have hl:(ln (k :: ws)).length<=Ze:=by
  have:=UP hk hv h5;unfold Ze;omega
 have et:ev (run T n) (.tix (.var 3) (.aC (.cst (.str (S " "))) .aN)) [x0,some (.dic s),some (.int line),some (.str (ln (k :: ws)))] st=some (.lst st.length,st++[(true,(k :: ws).map D.str)]):=by
  show(if (S " ").length=1/\(ln (k :: ws)).length<=Ze then some (D.lst st.length,st++[(true,(XJ (ln (k :: ws)) (S " ")).map D.str)]) else none)=_
  rw[if_pos ⟨by decide +kernel,hl⟩,Zh3 hk hv]
 have c1:ev (run T n) (.and (.cmp .NotEq (.var 3) (.cst (.str (S "")))) (.not (.starts (.var 3) (.aC (.cst (.str (S "#"))) .aN)))) [x0,some (.dic s),some (.int line),some (.str (ln (k :: ws)))] st=some (.bl true,st):=by
  refine(Qr (st':=st) (Ya (st1:=st) (st2:=st) (u:=.str (ln (k :: ws))) (w:=.str (S "")) (by rfl) YX (k:=true) ?_)).trans (Zam (k:=false) ?_)
  ·show some (!decide (ln (k :: ws)=S ""))=_
   rw[aK g1];rfl
  ·show some (D.bl (stW (ln (k :: ws)) (S "#")),st)=_
   rw[g2]
 have xm:evX (run T n) (.meth [(237,240)] (.var 1) (.aC (.tix (.var 3) (.aC (.cst (.str (S " "))) .aN)) (.aC (.var 2) .aN))) [x0,some (.dic s),some (.int line),some (.str (ln (k :: ws)))] st=some (u,st2):=
  (U8 (s:=s) (xs:=[.lst st.length,.int line]) rfl ho (Zv et (Zv (st1:=st++[(true,(k :: ws).map D.str)]) (by rfl) Y9 (by decide)) (show 1 < 1000 by decide))).trans e2
 unfold Zx;refine⟨fun z=>?_,fun cc l z=>?_⟩
 ·subst z;exact(Zm ((XM c1).trans ((Zm (ZaX xm)).trans Zr))).trans Zr
 ·subst z;exact ZA ((XM c1).trans (ZA (J4 xm)))
theorem Zdh{ok:Za->Prop}{q:D×D}(h:ok st)(e:body q.1 q.2 ρ st=some (.nx ρ',st')):ZN ok body (q :: ps) ρ st=ZN ok body ps ρ' st':=by
 conv=>lhs;unfold ZN
 rw[if_pos h,e]
theorem ZgO{ok:Za->Prop}(h:ok st):ZN ok body [] ρ st=some (.nx ρ,st):=if_pos h
theorem ZkU{ok:Za->Prop}{q:D×D}{u:D}(h:ok st)(e:body q.1 q.2 ρ st=some (.rt u,st')):ZN ok body (q :: ps) ρ st=some (.rt u,st'):=by
 conv=>lhs;unfold ZN
 rw[if_pos h,e]
theorem ZbF{v:D}:ex F Zx [x0,some (.dic s),some v,some (.str (S ""))] st=some (.nx [x0,some (.dic s),some v,some (.str (S ""))],st):=by
 unfold Zx;exact(Zm ((We (st':=st) (UH (Ya (st1:=st) (st2:=st) (u:=.str (S "")) (w:=.str (S "")) (by rfl) YX (k:=false) rfl))).trans Zr)).trans Zr
def nu:Nat->Str
 |0=>S "-9"
 |1=>S "-8"
 |_=>S "-7"
theorem ZjR(h:j < 3):(wdB (nu j)&&isI (VE (nu j)) ((j:Int) - 9))=true:=by
 have:j=0\/j=1\/j=2:=by omega
 rcases this with rfl|rfl|rfl<;>decide +kernel
theorem ZjS(h:j < 3):Vis (nu j)/\(nu j).length<=60:=by
 have:j=0\/j=1\/j=2:=by omega
 rcases this with rfl|rfl|rfl<;>exact⟨by unfold Vis;decide +kernel,by decide +kernel⟩
def Yc(N:Nat->Str)(t m j:Nat):Li Str:=if j < t then [S "take",N j,nu j,S "9"] else if j < m then [S "name",N j] else [S "skip"]
def tkk(i:Nat):Li D:=(List.range i).map fun(k:Nat)=>.tup [.int ((k:Int) - 9),.int 9]
theorem Zed:tkk (j+1)=tkk j++[.tup [.int ((j:Int) - 9),.int 9]]:=by
 unfold tkk;rw[List.range_succ,cA];rfl
theorem U5:(tkk j).length=j:=by unfold tkk;rw[aF,bK]
def LI(N:Nat->Str)(t m s j:Nat)(st:Za):Prop:=Dr st s (tkk (Nat.min j t)) (nmD N (Nat.min j m)) (List.replicate (j - m) skD) []
theorem ZgT(hN:Nms N)(ht:t<=3)(hm:m<=5)(htm:t<=m):Lnw (Yc N t m j):=by
 unfold Yc;have vn:∀ {i:Nat},i < 7->Vis (N i)/\(N i).length<=60:=fun {i} hi=>⟨(hN.nm i hi).vis,(hN.nm i hi).wd.len⟩
 split
 ·rename_i h
  exact⟨_,_,rfl,.inl rfl,Zu (vn (by omega)) (Zu (ZjS (by omega)) (Zu ⟨by unfold Vis;decide +kernel,by decide +kernel⟩ Xb)),(show 3<=5 by decide)⟩
 ·split
  ·exact⟨_,_,rfl,.inr (.inl rfl),Zu (vn (by omega)) Xb,(show 1<=5 by decide)⟩
  ·exact⟨_,_,rfl,.inr (.inr (.inr (.inr (.inr (.inr rfl))))),Xb,(show 0<=5 by decide)⟩
theorem ZbB(hN:Nms N)(ht:t<=3)(hm:m<=5)(htm:t<=m)(hj:j < m+12)(hw:st[w]?=some (true,(Yc N t m j).map D.str))(hne:w < s\/s+5<=w)(d:LI N t m s j st) :
  ∃ st',run T (n+7) 240 [.dic s,.lst w,.int line] st=some (.non,st')/\LI N t m s (j+1) st'/\Kp s st st':=by
 unfold LI at d ⊢
 unfold Yc at hw;by_cases c1:j < t
 ·rw[if_pos c1]at hw
  have e0:Nat.min j m=j:=bP (by omega)
  have e1:Nat.min (j+1) m=j+1:=bP (by omega)
  have e2:Nat.min j t=j:=bP (by omega)
  have e3:Nat.min (j+1) t=j+1:=bP (by omega)
  rw[e0,e2,show j - m=0 by omega]at d
  rw[e1,e3,show j+1 - m=0 by omega]
  refine Uz (n:=n+6) (c:=true) d hw ((Q9 (n:=n+1) (hN.nm j (by omega)) (ZjR (by omega)) (b':=9) (by decide +kernel)).trans (by rw[aW (by omega)])) (fun st' x=>(Jb (d.ext x) XA).trans (by rw[YM,U5,aW (rfl:j=j),aW (show j < 3 by omega)];rfl)) rfl rfl (fun st' x=>?_) (.inl rfl)
  obtain⟨st2,r1,r2,r3⟩:=ZeB hN (n:=n+2) (line:=line) (d.ext x) (x.get hw) (by omega) hne (ZjR (by omega)) (y:=9) (by decide +kernel) (by rw[U5];omega)
  exact⟨st2,r1,by rw[Zed];exact r2,x.kp.trans r3⟩
 ·rw[if_neg c1]at hw
  have e2:Nat.min j t=t:=cF (by omega)
  have e3:Nat.min (j+1) t=t:=cF (by omega)
  by_cases c2:j < m
  ·rw[if_pos c2]at hw
   have e0:Nat.min j m=j:=bP (by omega)
   have e1:Nat.min (j+1) m=j+1:=bP (by omega)
   rw[e0,e2,show j - m=0 by omega]at d
   rw[e1,e3,show j+1 - m=0 by omega]
   refine Uz (n:=n+6) (c:=true) d hw (ZbW (n:=n+1) (hN.nm j (by omega))) (fun st' x=>(Zb0 (d.ext x) XA).trans (by rw[YM,aW (show j < 5 by omega)];rfl)) rfl rfl (fun st' x=>?_) (.inl rfl)
   obtain⟨st2,r1,r2,r3⟩:=ZeA hN (n:=n+5) (line:=line) (d.ext x) (x.get hw) (by omega) hne
   exact⟨st2,r1,r2,x.kp.trans r3⟩
  ·rw[if_neg c2]at hw
   have e0:Nat.min j m=m:=cF (by omega)
   have e1:Nat.min (j+1) m=m:=cF (by omega)
   rw[e0,e2]at d;rw[e1,e3,show j+1 - m=(j - m)+1 by omega,List.replicate_succ']
   refine Uz (n:=n+6) (c:=false) (k:=S "skip") (ws:=[]) d hw (Zhd (n:=n+1)) (fun st' x=>(WB (d.ext x) (by simp) (by simp)).trans (by rw[bQ,aW (show j - m < 12 by omega)])) rfl rfl (fun st' x=>?_) (.inl rfl)
   obtain⟨st2,r1,r2,r3⟩:=Zhl (n:=n+4) (line:=line) (d.ext x) (x.get hw) (by rw[bQ];omega)
   exact⟨st2,r1,r2,x.kp.trans r3⟩
def ZB(N:Nat->Str)(t m:Nat):Nat->Nat->Li Str
 |_,0=>[]
 |j,q+1=>ln (Yc N t m j) :: ZB N t m (j+1) q
theorem WP(hN:Nms N)(ht:t<=3)(hm:m<=5)(htm:t<=m)(ha:s+5<=a){rest:Li Str}:∀ (q j:Nat) {x2 x3:Ot D}{st:Za},j+q<=m+12->LI N t m s j st->st[a]?=some c->
  ∃ y2 y3 st',ZN (fun S=>S[a]?=some c) (fun x y ρ S=>ex (run T (n+7)) Zx (Zi (Zi ρ 2 x) 3 y) S) (Wj (j+1) ((ZB N t m j q++rest).map D.str)) [x0,some (.dic s),x2,x3] st=ZN (fun S=>S[a]?=some c) (fun x y ρ S=>ex (run T (n+7)) Zx (Zi (Zi ρ 2 x) 3 y) S) (Wj (j+q+1) (rest.map D.str)) [x0,some (.dic s),y2,y3] st'/\LI N t m s (j+q) st'/\Kp s st st'/\st'[a]?=some c
 |0,j,x2,x3,st,_,d,hc=>⟨x2,x3,st,rfl,d,Grw.refl.kp,hc⟩
 |q+1,j,x2,x3,st,hq,d,hc=>by
  have hw:(st++[(true,(Yc N t m j).map D.str)])[st.length]?=some (true,(Yc N t m j).map D.str):=by
   rw[aY (aD _),cK];rfl
  have hs:=Zs (show st[s+4]?=some _ from Dr.a d);obtain⟨st1,e1,d1,k1⟩:=ZbB hN (n:=n) (line:=((j+1:Nat):Int)) ht hm htm (by omega) hw (.inr (by omega)) (show LI N t m s j _ from Dr.ext d Grw.push)
  have e:=(Ur (x0:=x0) (ZgT hN ht hm htm) (Dr.o d) e1).1 rfl;have k0:Kp s st st1:=Grw.push.kp.trans k1;have hc1:st1[a]?=some c:=(k0.old a (Zs hc) (.inr ha)).trans hc;obtain⟨y2,y3,st2,e2,d2,k2,hc2⟩:=WP hN ht hm htm ha q (j+1) (x2:=some (.int ((j+1:Nat):Int))) (x3:=some (.str (ln (Yc N t m j)))) (by omega) d1 hc1
  refine⟨y2,y3,st2,?_,by rw[show j+(q+1)=j+1+q by omega];exact d2,k0.trans k2,hc2⟩
  rw[show j+(q+1)+1=j+1+q+1 by omega,<-e2]
  exact Zdh hc e
theorem Zex(d:Dr st s tkd nm ro []):run T (n+1) 243 [.dic s] st=some (.non,st):=by
 refine ZbI (d:=c_Draft_check_places) rfl rfl (ρ':=[some (.dic s),none,none]) (Zm ?_ |>.trans Zr);show Qt (ev (run T n) (.dict [(S "aims")] (.var 0))) [some (.dic s),none,none] st=_;unfold Qt;rw[ZhL d];simp only[d.a]
theorem Zan(h:ev F e ρ st=some (.lst j,st))(h2:st[j]?=some (b,ds)):ev F (.tOf e) ρ st=some (.tup ds,st):=by
 show Zo (ev F e) XL ρ st=_;unfold Zo;rw[h];show XL (.lst j) st=_;show(match st[j]? with
  |some (_,xs)=>some (D.tup xs,st)
  |none=>none)=_
 rw[h2]
theorem Zhm(d:Dr st s tkd nm ro am)(ho:XU nm=false):run T (n+1) 244 [.dic s] st=some (.tup [.tup tkd,.int nm.length,.tup ro],st):=by
 refine Wt (d:=c_Draft_told) rfl rfl (ZA (X2 ?_));exact Zv (Zan (UI d) d.t) (Zv (Vd d ho) (Zv (Zan (Jo d) d.r) Y9 (by decide)) (show 1 < 1000 by decide)) (show 2 < 1000 by decide)

end
section
variable {n m s w a t r j c:Nat}{st st' st1 st2:Za}{tkd nm ro am:Li D}{F:Nat->Fn}{ρ:Env}{b:Bool}{k:Str}{N:Nat->Str}{L ls:Li Str}{ws wl:Li Str}{line:Int}{x0:Ot D}{tx:Str}
def st0(st:Za)(ls:Li Str):Za:=st++[obC st.length,(true,[]),(true,[]),(true,[]),(true,[])]++[(true,ls.map D.str)]
theorem Ww:(st0 st ls)[st.length+5]?=some (true,ls.map D.str):=by
 unfold st0;rw[aY (by rw[aI];exact aD _),aI]
 show([(true,ls.map D.str)]:Za)[st.length+5 - (st.length+5)]?=_;rw[cK];rfl
theorem ZiS:Dr (st0 st ls) st.length [] [] [] []:=new_dr.ext Grw.push
theorem Zd9:Grw st (st0 st ls):=by
 unfold st0;refine Grw.trans (st1:=st++[obC st.length,(true,[]),(true,[]),(true,[]),(true,[])]) ⟨fun i hi=>bF hi,?_⟩ Grw.push
 rw[aI];exact dE _ _
theorem ZgP(k:Kp st.length (st0 st ls) st'):Grw st st':=by
 have x:Grw st (st0 st ls):=Zd9;exact⟨fun i hi=>(k.old i (aJ hi x.len) (.inl hi)).trans (x.old i hi),aG x.len k.len⟩
noncomputable abbrev lp(n:Nat)(tx:Str)(st:Za)(ls:Li Str):Ot (Fl×Za):=ZN (fun S=>S[st.length+5]?=some (true,ls.map D.str)) (fun x y ρ S=>ex (run T (n+7)) Zx (Zi (Zi ρ 2 x) 3 y) S) (Wj 1 (ls.map D.str)) [some (.str tx),some (.dic st.length),none,none] (st0 st ls)
theorem Up{q:CS}(hs:XJ tx (S "\n")=ls)(hl:tx.length<=Ze):ex (run T (n+7)) (.seq (.set 1 (.isc [237,238] .aN)) (.seq (.forE 2 3 (.tix (.var 0) (.aC (.cst (.str (S "\n"))) .aN)) Zx) q)) [some (.str tx),none,none,none] st=(match lp n tx st ls with
  |some (.nx ρ',st')=>ex (run T (n+7)) q ρ' st'
  |r=>r):=by
 rw[Zm (YQ (Zi1 (n:=n+6)))];show Y4 (ex (run T (n+7)) (.forE 2 3 (.tix (.var 0) (.aC (.cst (.str (S "\n"))) .aN)) Zx)) (ex (run T (n+7)) q) [some (.str tx),some (.dic st.length),none,none] _=_;unfold Y4;have e2:ev (run T (n+7)) (.tix (.var 0) (.aC (.cst (.str (S "\n"))) .aN)) [some (.str tx),some (.dic st.length),none,none] (st++[obC st.length,(true,[]),(true,[]),(true,[]),(true,[])])=some (.lst (st.length+5),st0 st ls):=by
  show(if (S "\n").length=1/\tx.length<=Ze then some (D.lst (st++[obC st.length,(true,[]),(true,[]),(true,[]),(true,[])]).length,(st++[obC st.length,(true,[]),(true,[]),(true,[]),(true,[])])++[(true,(XJ tx (S "\n")).map D.str)]) else none)=_
  rw[if_pos ⟨by decide +kernel,hl⟩,hs,aI]
  rfl
 have e3:ex (run T (n+7)) (.forE 2 3 (.tix (.var 0) (.aC (.cst (.str (S "\n"))) .aN)) Zx) [some (.str tx),some (.dic st.length),none,none] (st++[obC st.length,(true,[]),(true,[]),(true,[]),(true,[])])=lp n tx st ls:=by
  show Qv 2 3 (ev (run T (n+7)) (.tix (.var 0) (.aC (.cst (.str (S "\n"))) .aN))) (ex (run T (n+7)) Zx) [some (.str tx),some (.dic st.length),none,none] _=_;unfold Qv;rw[e2];show(match (match (st0 st ls)[st.length+5]? with
   |some c=>some (c.2,fun(s:Za)=>s[st.length+5]?=some c)
   |none=>none) with
   |some (xs,ok)=>ZN ok (fun x y ρ s=>ex (run T (n+7)) Zx (Zi (Zi ρ 2 x) 3 y) s) (Wj 1 xs) [some (.str tx),some (.dic st.length),none,none] (st0 st ls)
   |none=>none)=_
  rw[Ww]
 rw[e3]
 try rfl
theorem Zez{cc:Nat}{l:Int}(hs:XJ tx (S "\n")=ls)(hl:tx.length<=Ze)(h:lp n tx st ls=some (.rt (mkX cc l),st')):run T (n+8) 245 [.str tx] st=some (mkX cc l,st'):=by
 refine Wt (d:=c_read) rfl rfl ?_;refine(Up hs hl).trans ?_;rw[h]
theorem J8{y2 y3:Ot D}(hs:XJ tx (S "\n")=ls)(hl:tx.length<=Ze)(h:lp n tx st ls=some (.nx [some (.str tx),some (.dic st.length),y2,y3],st'))(d:Dr st' st.length tkd nm ro [])(ho:XU nm=false):run T (n+8) 245 [.str tx] st=some (.tup [.tup tkd,.int nm.length,.tup ro],st'):=by
 refine Wt (d:=c_read) rfl rfl ?_;refine(Up hs hl).trans ?_;rw[h];show ex (run T (n+7)) (.seq _ (.seq _ .skip)) [some (.str tx),some (.dic st.length),y2,y3] st'=_;rw[Zm (ZaX ((U8 (s:=st.length) (xs:=[]) (st1:=st') rfl d.o (by rfl)).trans (Zex (n:=n+6) d)))]
 exact ZA (X2 (Zcv (s:=st.length) (xs:=[]) (st1:=st') rfl d.o (by rfl) (Zhm (n:=n+6) d ho)))
def Lns(L:Li Str):Prop:=∀ x∈L,∃ wl,Lnw wl/\x=ln wl
theorem Zh4(h:Lns L):∀ x∈L,10∉x.cps.toList:=fun x hx=>by
 obtain⟨wl,q,rfl⟩:=h x hx;obtain⟨k,ws,rfl,hk,hv,_⟩:=q.k;exact ZjI (Q3 hk) hv
theorem ZaC(h:Lns L)(h0:L≠[]):XJ (gl NL L) (S "\n")=L:=by
 unfold NL;rw[ZkH];exact Zd7 h0 (Zh4 h)
theorem ZaB(h:Lns L)(hl:L.length<=40):(gl NL L).length<=Ze:=by
 have:=ZcJ (j:=366) (s:=NL) (by decide +kernel) (ws:=L) fun x hx=>by
  obtain⟨wl,q,rfl⟩:=h x hx;obtain⟨k,ws,rfl,hk,hv,h5⟩:=q.k;exact UP hk hv h5
 have:L.length * (366+1)<=40 * 367:=Nat.mul_le_mul_right _ hl;unfold Ze;omega
theorem Xw(hN:Nms N)(ht:t<=3)(hm:m<=5)(htm:t<=m):∀ q j,Lns (ZB N t m j q)
 |0,_=>fun _ h=>nomatch h
 |q+1,j=>fun x hx=>by
  rcases aM.mp hx with rfl|hx
  ·exact⟨_,ZgT hN ht hm htm,rfl⟩
  ·exact Xw hN ht hm htm q (j+1) x hx
theorem YY:∀ q j,(ZB N t m j q).length=q
 |0,_=>rfl
 |q+1,j=>congrArg (·+1) (YY q (j+1))
theorem Zh2:LI N t m st.length 0 (st0 st ls):=by
 unfold LI;rw[show Nat.min 0 t=0 from bP (by omega),show Nat.min 0 m=0 from bP (by omega),show 0 - m=0 by omega]
 exact ZiS
theorem Zhj(hN:Nms N)(ht:t<=3)(hm:m<=5)(htm:t<=m)(hr:r<=12):∃ st',run T (n+8) 245 [.str (gl NL (ZB N t m 0 (m+r)))] st=some (.tup [.tup (tkk t),.int m,.tup (List.replicate r skD)],st')/\Grw st st':=by
 have fin:∀ {st':Za},LI N t m st.length (m+r) st'->Dr st' st.length (tkk t) (nmD N m) (List.replicate r skD) []:=fun {st'} d=>by
  unfold LI at d;rw[show Nat.min (m+r) t=t from cF (by omega),show Nat.min (m+r) m=m from cF (by omega),show m+r - m=r by omega]at d
  exact d
 by_cases h0:m+r=0
 ·have e:ZB N t m 0 (m+r)=[]:=by rw[h0];rfl
  have es:XJ (gl NL (ZB N t m 0 (m+r))) (S "\n")=[S ""]:=by rw[e];exact congrArg (· :: []) (YN rfl)
  have d:=Zh2 (N:=N) (t:=t) (m:=m) (st:=st) (ls:=[S ""]);have d:LI N t m st.length (m+r) (st0 st [S ""]):=by rw[h0];exact d
  refine⟨st0 st [S ""],(J8 (n:=n) (y2:=some (.int 1)) (y3:=some (.str (S ""))) es ?_ ?_ (fin d) XA).trans (by rw[YM]),Zd9⟩
  ·rw[e];exact bT _
  ·exact(Zdh Ww ZbF).trans (ZgO Ww)
 ·have hl:=Xw hN ht hm htm (m+r) 0
  have ln:=YY (N:=N) (t:=t) (m:=m) (m+r) 0;have es:=ZaC hl (fun z=>by rw[z]at ln;exact h0 ln.symm)
  obtain⟨y2,y3,st2,e2,d2,k2,hc2⟩:=WP hN (n:=n) (x0:=some (.str (gl NL (ZB N t m 0 (m+r))))) (s:=st.length) (a:=st.length+5) (c:=(true,(ZB N t m 0 (m+r)).map D.str)) (rest:=[]) ht hm htm (aD _) (m+r) 0 (x2:=none) (x3:=none) (by omega) (Zh2 (ls:=ZB N t m 0 (m+r))) Ww
  rw[bU,bX]at e2;rw[bX]at d2;exact⟨st2,(J8 (n:=n) es (ZaB hl (by omega)) (e2.trans (ZgO hc2)) (fin d2) XA).trans (by rw[YM]),ZgP k2⟩
theorem Zb1(hN:Nms N)(ht:t<=3)(hm:m<=5)(htm:t<=m)(hj:j<=m+12){more:Li Str}(hL:Lnw wl)(hM:Lns more)(hk:more.length<=1)(hb:∀ {st:Za}{s:Nat},LI N t m s j st->∀ {w:Nat},st[w]?=some (true,wl.map D.str)->∃ st',run T (n+7) 240 [.dic s,.lst w,.int ((j+1:Nat):Int)] st=some (mkX c ((j+1:Nat):Int),st')/\Grw st st') :
  ∃ st',run T (n+8) 245 [.str (gl NL (ZB N t m 0 j++[ln wl]++more))] st=some (mkX c ((j+1:Nat):Int),st')/\Grw st st':=by
 have hl:Lns (ZB N t m 0 j++[ln wl]++more):=fun x hx=>by
  rcases bM.mp hx with hx|hx
  ·rcases bM.mp hx with hx|hx
   ·exact Xw hN ht hm htm j 0 x hx
   ·exact⟨wl,hL,bW.mp hx⟩
  ·exact hM x hx
 have lz:(ZB N t m 0 j++[ln wl]++more).length<=40:=by
  rw[aI,aI,YY];show j+1+more.length<=40;omega
 have es:=ZaC hl (by simp)
 obtain⟨y2,y3,st2,e2,d2,k2,hc2⟩:=WP hN (n:=n) (x0:=some (.str (gl NL (ZB N t m 0 j++[ln wl]++more)))) (s:=st.length) (a:=st.length+5) (c:=(true,(ZB N t m 0 j++[ln wl]++more).map D.str)) (rest:=[ln wl]++more) ht hm htm (aD _) j 0 (x2:=none) (x3:=none) (by omega) (Zh2 (ls:=ZB N t m 0 j++[ln wl]++more)) Ww
 rw[<-bO,bX]at e2;rw[bX]at d2;obtain⟨st3,e3,x3⟩:=hb (show LI N t m st.length j (st2++[(true,wl.map D.str)]) from Dr.ext d2 Grw.push) (w:=st2.length) (by rw[aY (aD _),cK];rfl)
 refine⟨st3,Zez (n:=n) es (ZaB hl lz) (e2.trans (ZkU hc2 (by
  show ex (run T (n+7)) Zx [_,_,some (.int ((0+j+1:Nat):Int)),some (.str (ln wl))] st2=_;rw[bX];exact(Ur (x0:=some (.str (gl NL (ZB N t m 0 j++[ln wl]++more)))) hL (Dr.o d2) e3).2 _ _ rfl))),ZgP (k2.trans ((Grw.push.trans x3).kp))⟩
def Qq(c:Nat):Li D:=[.bl (c==224),.bl false,.bl (c==226),.bl false,.bl false,.bl false]
theorem ZeC{l:Nat}(hc:c=224\/c=226):run T (n+1) 230 [.obj (c+1000 * l)] st=some (.tup [.lst (st.length+2),.bl true,.int (l:Int)],st++[(true,[.bl (c==224),.bl false,.bl (c==226),.bl false]),(true,[.bl false,.bl false]),(true,Qq c)]):=by
 have h1:(c+1000 * l) % 1000=c:=by omega
 have h2:(c+1000 * l) / 1000=l:=by omega
 have a:∀ {ls:Li Nat}{ρ:Env}{st:Za},ev (run T n) (.isc (0 :: 0 :: 0 :: ls) (.var 0)) (some (.obj (c+1000 * l)) :: ρ) st=some (.bl (ls.contains c),st):=fun {ls ρ st}=>by
  show some (D.bl (ls.contains ((c+1000 * l) % 1000)),st)=_;rw[h1]
 have a1:([224]:Li Nat).contains c=(c==224):=by
  show(c==224||false)=_;rw[cQ]
 have a2:([226]:Li Nat).contains c=(c==226):=by
  show(c==226||false)=_;rw[cQ]
 have a3:([224,226]:Li Nat).contains c=true:=by rcases hc with rfl|rfl<;>rfl
 refine Wt (d:=c__law_told_k16) rfl rfl ?_;have e1:ev (run T n) (.lstE (.aC (.isc [0,0,0,224] (.var 0)) (.aC (.isc [0,0,0] (.var 0)) (.aC (.isc [0,0,0,226] (.var 0)) (.aC (.isc [0,0,0] (.var 0)) .aN))))) [some (.obj (c+1000 * l)),none] st=some (.lst st.length,st++[(true,[.bl (c==224),.bl false,.bl (c==226),.bl false])]):=by
  show Zo (ev (run T n) _) JD _ st=_;unfold Zo;rw[Zv a (Zv a (Zv a (Zv a Y9 (by decide)) (show 1 < 1000 by decide)) (show 2 < 1000 by decide)) (show 3 < 1000 by decide),a1,a2]
  rfl
 have e2:∀ {x:Ot D}{st:Za},ev (run T n) (.lstE (.aC (.isc [0,0,0] (.var 0)) (.aC (.isc [0,0,0] (.var 0)) .aN))) [some (.obj (c+1000 * l)),x] st=some (.lst st.length,st++[(true,[.bl false,.bl false])]):=fun {x st}=>by
  show Zo (ev (run T n) _) JD _ st=_;unfold Zo;rw[Zv a (Zv a Y9 (by decide)) (show 1 < 1000 by decide)]
  rfl
 rw[show c__law_told_k16.body=.seq (.set 1 (.lstE (.aC (.isc [0,0,0,224] (.var 0)) (.aC (.isc [0,0,0] (.var 0)) (.aC (.isc [0,0,0,226] (.var 0)) (.aC (.isc [0,0,0] (.var 0)) .aN)))))) (.seq (.set 1 (.bin .Add (.var 1) (.lstE (.aC (.isc [0,0,0] (.var 0)) (.aC (.isc [0,0,0] (.var 0)) .aN))))) (.seq (.ret (.tupE (.aC (.var 1) (.aC (.and (.isc [0,0,0,224,226] (.var 0)) (.isc [0,0,0,224,226] (.var 0))) (.aC (.isc [0] (.var 0)) .aN))))) .skip)) from rfl]
 refine(Zm (YQ e1)).trans ?_;show ex (run T n) (.seq _ (.seq _ .skip)) [some (.obj (c+1000 * l)),some (.lst st.length)] _=_;have e3:ev (run T n) (.bin .Add (.var 1) (.lstE (.aC (.isc [0,0,0] (.var 0)) (.aC (.isc [0,0,0] (.var 0)) .aN)))) [some (.obj (c+1000 * l)),some (.lst st.length)] (st++[(true,[.bl (c==224),.bl false,.bl (c==226),.bl false])])=some (.lst (st.length+2),st++[(true,[.bl (c==224),.bl false,.bl (c==226),.bl false]),(true,[.bl false,.bl false]),(true,Qq c)]):=by
  refine Zjm (u:=.lst st.length) (by rfl) e2 ?_
  show Zbd st.length (st++[(true,[D.bl (c==224),.bl false,.bl (c==226),.bl false])]).length ((st++[(true,[.bl (c==224),.bl false,.bl (c==226),.bl false])])++[(true,[.bl false,.bl false])])=_;have l1:(st++[((true,[D.bl (c==224),.bl false,.bl (c==226),.bl false]):Z5)]).length=st.length+1:=by rw[aI];rfl
  have g1:((st++[((true,[D.bl (c==224),.bl false,.bl (c==226),.bl false]):Z5)])++[((true,[D.bl false,.bl false]):Z5)])[st.length]?=some (true,[D.bl (c==224),.bl false,.bl (c==226),.bl false]):=by
   rw[bF (by omega),aY (aD _),cK];rfl
  have g2:((st++[((true,[D.bl (c==224),.bl false,.bl (c==226),.bl false]):Z5)])++[((true,[D.bl false,.bl false]):Z5)])[st.length+1]?=some (true,[D.bl false,.bl false]):=by
   rw[aY (by omega),l1,cK];rfl
  rw[l1];unfold Zbd;rw[g1,g2];show(if 4+2<=Ze then some (D.lst ((st++[((true,[D.bl (c==224),.bl false,.bl (c==226),.bl false]):Z5)])++[((true,[D.bl false,.bl false]):Z5)]).length,((st++[((true,[D.bl (c==224),.bl false,.bl (c==226),.bl false]):Z5)])++[((true,[D.bl false,.bl false]):Z5)])++[(true,Qq c)]) else none)=_
  rw[if_pos (by decide),aI,l1,bO,bO]
  rfl
 refine(Zm (YQ e3)).trans ?_;show ex (run T n) (.seq _ .skip) [some (.obj (c+1000 * l)),some (.lst (st.length+2))] _=_;refine ZA (X2 ?_);refine Zv (x:=.lst (st.length+2)) (by rfl) (Zv (x:=.bl true) ((Qr (by rw[a,a3])).trans (by rw[a,a3])) (Zv (x:=.int (l:Int)) ?_ Y9 (by decide)) (show 1 < 1000 by decide)) (show 2 < 1000 by decide)
 show some (D.int (((c+1000 * l) / 1000:Nat):Int),_)=_;rw[h2]
theorem Zky{l:Li Nat}{q:CS}{k:Nat}(h:evX F e ρ st=some (mkX c (k:Int),st1))(hc:(c < 1000/\l.contains c=true/\exNums.contains c=true))(hq:ex F q (Zi ρ i (.obj (c+1000 * k))) st1=some (.nx ρ',st2)):ex F (.whl (.compT l (.var i) e .nop) q) ρ st=some (.nx (ρ'.set i none),st2):=by
 show(match evX F e ρ st with
  |some (.dct [_] [.int c,.int k],st1)=>if (0<=k/\c.toNat < 1000)/\l.contains c.toNat=true/\exNums.contains c.toNat=true then (match ex F q (Zi ρ i (.obj (c.toNat+1000 * k.toNat))) st1 with
   |some (.nx ρ',st2)=>some (Fl.nx (ρ'.set i none),st2)
   |_=>none) else none
  |_=>none)=_
 rw[h];show(if (0<=(k:Int)/\(c:Int).toNat < 1000)/\l.contains (c:Int).toNat=true/\exNums.contains (c:Int).toNat=true then (match ex F q (Zi ρ i (.obj ((c:Int).toNat+1000 * (k:Int).toNat))) st1 with
   |some (.nx ρ',st2)=>some (Fl.nx (ρ'.set i none),st2)
   |_=>none) else none)=_
 rw[bL,bL,if_pos ⟨⟨by omega,hc.1⟩,hc.2.1,hc.2.2⟩,hq]
theorem Za2{l:Nat}(hc:c=224\/c=226)(h:∃ st',run T (n+1) 245 [.str tx] st=some (mkX c (l:Int),st')/\Grw st st'):∃ q st',run T (n+2) 229 [.str tx] st=some (.tup [.lst q,.bl true,.int (l:Int)],st')/\Grw st st'/\st'[q]?=some (true,Qq c):=by
 obtain⟨st1,e1,x1⟩:=h;have e2:=ZeC (n:=n) (st:=st1) (l:=l) hc;obtain⟨st2,hst2⟩:∃ st2,st2=st1++[(true,[D.bl (c==224),.bl false,.bl (c==226),.bl false]),(true,[.bl false,.bl false]),(true,Qq c)]:=⟨_,rfl⟩;rw[<-hst2]at e2;have x2:Grw st1 st2:=⟨fun i hi=>by rw[hst2,bF hi],by rw[hst2,aI];omega⟩
 refine⟨st1.length+2,st2,Wt (d:=c__law_refused) rfl rfl ?_,x1.trans x2,?_⟩
 ·show ex (run T (n+1)) (.seq (.set 1 (.cst .non)) (.seq (.whl (.compT [224,226] (.var 2) (.call 245 (.aC (.var 0) .aN) []) .nop) (.set 1 (.call 230 (.aC (.var 2) .aN) []))) (.seq (.ret (.var 1)) .skip))) [some (.str tx),none,none] st=_
  rw[Zm (YQ (v:=.non) (st':=st) rfl)];show ex (run T (n+1)) _ [some (.str tx),some .non,none] st=_;rw[Zm (Zky (c:=c) (k:=l) (st1:=st1) (ρ':=[some (.str tx),some (.tup [.lst (st1.length+2),.bl true,.int (l:Int)]),some (.obj (c+1000 * l))]) (st2:=st2) ((ZiY (xs:=[.str tx]) (st1:=st) (by rfl)).trans e1) (by rcases hc with rfl|rfl<;>decide) (YQ (v:=.tup [.lst (st1.length+2),.bl true,.int (l:Int)]) (Xa (xs:=[.obj (c+1000 * l)]) (st1:=st1) (by rfl) e2)))]
  exact ZA (X2 (by rfl))
 ·rw[hst2,aY (by omega),Nat.add_sub_cancel_left]
  rfl
theorem Zey{v:D}(h:∃ st',run T (n+1) 245 [.str tx] st=some (v,st')/\Grw st st')(hv:∀ s,Wr (some (v,s))=some (v,s)):∃ st',run T (n+2) 248 [.str tx] st=some (v,st')/\Grw st st':=by
 obtain⟨st',e,x⟩:=h;refine⟨st',Wt (d:=c__law_read) rfl rfl ?_,x⟩;show ex (run T (n+1)) (.seq (.set 1 (.cst .non)) (.seq (.set 1 (.call 245 (.aC (.var 0) .aN) [])) (.seq (.ret (.var 1)) .skip))) [some (.str tx),none] st=_;rw[Zm (YQ (v:=.non) (st':=st) rfl),Zm (YQ (Xa (xs:=[.str tx]) (st1:=st) (by rfl) e (hv _)))]
 exact ZA (X2 (by rfl))
end
section
variable {n m s w t j:Nat}{st:Za}{N:Nat->Str}{x u v z sg:Str}{line:Int}
def Rfs(n:Nat)(N:Nat->Str)(t m j c:Nat)(wl:Li Str):Prop:=∀ {st:Za}{s:Nat},LI N t m s j st->∀ {w:Nat},st[w]?=some (true,wl.map D.str)->∀ {line:Int},∃ st',run T (n+7) 240 [.dic s,.lst w,.int line] st=some (mkX c line,st')/\Grw st st'
theorem Rfs.name(hx:Nm x)(hj:m < j\/m=5/\j=5):Rfs n N t m j 224 [S "name",x]:=fun {st s} d {w} hw {line}=>by
 refine Yt (n:=n+6) (k:=S "name") (ws:=[x]) d hw (ZbW (n:=n+1) hx) (fun st' x=>Zb0 (Dr.ext d x) XA) ?_
 rw[bQ,YM,cW,dJ];rcases hj with h|⟨h,h'⟩
 ·exact .inl (aK (by omega))
 ·subst h h'
  exact .inr rfl
theorem Rfs.take54(hx:Nm x):Rfs n N t m j 224 [S "take",x,S "5",S "4"]:=fun {st s} d {w} hw {line}=>
 Yt (n:=n+6) (k:=S "take") (ws:=[x,S "5",S "4"]) d hw (Q9 (n:=n+1) (a:=5) (b':=4) hx (by decide +kernel) (by decide +kernel)) (fun st' x=>Jb (Dr.ext d x) XA) rfl
theorem Rfs.take(hx:Nm x)(hm:m<=j)(ht:t<=m)(hj:t < m\/t=3\/m < j):Rfs n N t m j 224 [S "take",x,S "4",S "5"]:=fun {st s} d {w} hw {line}=>by
 refine Yt (n:=n+6) (k:=S "take") (ws:=[x,S "4",S "5"]) d hw (Q9 (n:=n+1) (a:=4) (b':=5) hx (by decide +kernel) (by decide +kernel)) (fun st' x=>Jb (Dr.ext d x) XA) ?_
 rw[bQ,YM,U5,show Nat.min j m=m from cF hm,show Nat.min j t=t from cF (by omega),dJ,dJ,dJ]
 rcases hj with h|h|h
 ·exact .inr (.inl (.inl (aK (by omega))))
 ·exact .inr (.inr (aK (by omega)))
 ·exact .inr (.inl (.inr (aK (by omega))))
theorem Rfs.tell(hx:Nm x)(hj:m+12<=j):Rfs n N t m j 224 [S "tell",x]:=fun {st s} d {w} hw {line}=>by
 refine Yt (n:=n+6) (k:=S "tell") (ws:=[x]) d hw (Zhe (n:=n+1) hx) (fun st' x=>WB (Dr.ext d x) (by simp) (by simp)) ?_
 rw[bQ,cW];exact aK (by omega)
theorem Rfs.tell2:Rfs n N t m j 224 [S "tell",x,u]:=fun {st s} d {w} hw {line}=>
 Yt (n:=n+6) (k:=S "tell") (ws:=[x,u]) d hw (Zet (n:=n+1)) (fun st' x=>WB (Dr.ext d x) (by simp) (by simp)) rfl
theorem Rfs.put(hx:Nm x):Rfs n N t m j 224 [S "put",x,S "1",S "**",S "1"]:=fun {st s} d {w} hw {line}=>
 Yt (n:=n+6) (k:=S "put") (ws:=[x,S "1",S "**",S "1"]) d hw (Zgz (n:=n+1) (r:=false) hx rfl) (fun st' x=>WB (Dr.ext d x) (by simp) (by simp)) rfl
theorem Rfs.if0(hx:Nm x):Rfs n N t m j 224 [S "if",x,S "==",S "1",S "go",S "0"]:=fun {st s} d {w} hw {line}=>
 Yt (n:=n+6) (k:=S "if") (ws:=[x,S "==",S "1",S "go",S "0"]) d hw (Zhc (n:=n+1) (r:=false) (ZaS hx) t_1 rfl (q:=0) (by decide +kernel)) (fun st' x=>WB (Dr.ext d x) (by simp) (by simp)) rfl
theorem Rfs.nn{k:Str}(hk:YS k [.str (S "take"),.str (S "name")]=some false)(k1:k≠S "take")(k2:k≠S "name")(hl:Zf T (n+6) 233 [.lst true ((k :: ws).map P.str)]=some (.bl true))(hn:Nd (n+5) (k :: ws) x)(hj:j < m+12)(hx:∀ i,i < Nat.min j m->N i≠x):Rfs n N t m j 226 (k :: ws):=fun {st s} d {w} hw {line}=>by
 refine Uz (n:=n+6) (c:=false) d hw hl (fun st' x=>(WB (Dr.ext d x) k1 k2).trans (by rw[bQ,aW (by omega)])) hk rfl (fun st' x=>?_) (.inr ⟨_,_,rfl⟩)
 obtain⟨st2,e,y⟩:=Zi8 (n:=n+5) (line:=line) (Dr.ext d x) XA (x.get hw) hn (ZaG hx);exact⟨st2,e,x.trans y⟩
theorem Rfs.putN(hx:Nm x)(hj:j < m+12)(h:∀ i,i < Nat.min j m->N i≠x):Rfs n N t m j 226 [S "put",x,S "1",S "+",S "1"]:=Rfs.nn rfl (by simp) (by simp) (Zgz (n:=n+1) (r:=true) hx rfl) (Zi7 (n:=n+2) hx) hj h
theorem Rfs.if1(hx:Nm x)(hj:j < m+12)(h:∀ i,i < Nat.min j m->N i≠x):Rfs n N t m j 226 [S "if",x,S "<",S "1",S "go",S "99"]:=Rfs.nn rfl (by simp) (by simp) (Zhc (n:=n+1) (r:=true) (ZaS hx) t_1 rfl (q:=99) (by decide +kernel)) (Zi5 (n:=n+2) hx) hj h
theorem Rfs.if2(hx:Nm x)(hj:j < m+12)(h:∀ i,i < Nat.min j m->N i≠x):Rfs n N t m j 226 [S "if",S "2",S "<",x,S "go",S "98"]:=Rfs.nn rfl (by simp) (by simp) (Zhc (n:=n+1) (r:=true) (Zg7 (v:=2) (by decide +kernel) (by decide +kernel)) (ZaS hx) rfl (q:=98) (by decide +kernel)) (Zi6 (n:=n+2) hx) hj h
end
section
variable {n m:Nat}{F:PFn}{π:ZH}{x y:Str}{c d:Int}{N:Nat->Str}
theorem WU{a:CE}{v w:Int}(h:pe F a π=some (.int v))(h1:0 < w)(h2:w < 1073741824):pe F (.bin .FloorDiv a (.cst (.int w))) π=some (.int (v / w)):=by
 rw[Yn,h,JJ,ZaJ,Ob,Ob,Qg,if_pos ⟨h1,h2⟩]
theorem JF{a b:CE}{v w:Int}(h:pe F a π=some (.int v))(h2:pe F b π=some (.int w))(h1:0 < w):pe F (.bin .Mod a b) π=some (.int (v % w)):=by
 rw[Yn,h,h2,Ob,Ob,ZeK,if_pos h1]
theorem Z2{v:Int}:pe F (.cst (.int v)) π=some (.int v):=by rw[JJ,ZaJ]
theorem YK{a:CE}{v w:Int}(h:pe F a π=some (.int v))(h1:0 < w):pe F (.bin .Mod a (.cst (.int w))) π=some (.int (v % w)):=JF h Z2 h1
theorem Wf{a b:CE}{v w:Int}(h:pe F a π=some (.int v))(h2:pe F b π=some (.int w)):pe F (.bin .Add a b) π=some (.int (v+w)):=by
 rw[Yn,h,h2,Ob,Ob,ZeJ]
theorem ZjO{a b:CE}{v w:Int}(h:pe F a π=some (.int v))(h2:pe F b π=some (.int w))(hl:ZM v=true):pe F (.bin .Mult a b) π=some (.int (v * w)):=by
 rw[Yn,h,h2,Ob,Ob,ZeL,hl,Bool.true_or,if_pos rfl]
theorem Zcf{a b:CE}{f:Nat}{x y:P}(ha:pe F a π=some x)(hb:pe F b π=some y):pe F (.call f (.aC a (.aC b .aN)) []) π=F f [x,y]:=by
 rw[pe_call,Zk,Zk,ha,hb];rfl
structure Lw(x:Str):Prop where
 lc:∀ c∈x.cps.toList,97<=c/\c<=122
 lo:1<=x.length
 hi:x.length<=8
theorem Zhs:∀ c,c < 123->97<=c->QK AZ ⟨#[c]⟩=true:=by decide +kernel
theorem Lw.nm(h:Lw x):nmB x=true:=by
 unfold nmB mdB mkd chS;have h1:=h.lo;have h2:=h.hi;rw[Ba,Ba,bR,bR,bY];refine⟨⟨by omega,by omega⟩,fun w hw=>?_⟩
 obtain⟨c,hc,rfl⟩:=bC.mp hw;have:=h.lc c hc;exact Zhs c (by omega) this.1
theorem Lw.wd(h:Lw x):Wd x:=⟨aG h.hi (by decide),fun c hc=>by have:=h.lc c hc;omega⟩
theorem Lw.vis(h:Lw x):Vis x:=fun c hc=>by have:=h.lc c hc;omega
def lcS(i:Nat):Str:=⟨#[97+i]⟩
theorem ZeH:AZ.cps.toList=(List.range 26).map (97+·):=by decide +kernel
theorem ZgC(h:i < 26):ixP (.str AZ) (.int (i:Int))=some (.str (lcS i)):=by
 show(if AZ.length<=Ze then atP ((chS AZ).map .str) (i:Int) else none)=_
 rw[if_pos (by decide +kernel),WC rfl]
 unfold chS;rw[ZeH,aV,aV,aX,dZ h];rfl
theorem Zhr{v:Int}:∃ i,i < 26/\ixP (.str AZ) (.int (v % 26))=some (.str (lcS i))/\v % 26=(i:Int):=by
 obtain⟨i,hi,h⟩:∃ i:Nat,v % 26=(i:Int)/\i < 26:=⟨(v % 26).toNat,by omega,by omega⟩
 exact⟨i,h,by rw[hi];exact ZgC h,hi⟩
theorem Zcs{k:Nat}:(WF x none (some (k:Int))).cps.toList=x.cps.toList.take k:=by
 show((x.cps.toList.drop 0).take ((if (k:Int) < 0 then ((k:Int)+(x.length:Int)).toNat else Nat.min (k:Int).toNat x.length) - 0))=_
 rw[if_neg (by omega),bL,List.drop_zero,Nat.sub_zero,<-Zn]
 by_cases h:k<=x.cps.toList.length
 ·rw[show Nat.min k x.cps.toList.length=k from bP h]
 ·rw[show Nat.min k x.cps.toList.length=x.cps.toList.length from cF (by omega),List.take_length,eE (by omega)]
theorem Zcq{k:Nat}:(WF x (some (k:Int)) none).cps.toList=x.cps.toList.drop k:=by
 show((x.cps.toList.drop (if (k:Int) < 0 then ((k:Int)+(x.length:Int)).toNat else Nat.min (k:Int).toNat x.length)).take (x.length - (if (k:Int) < 0 then ((k:Int)+(x.length:Int)).toNat else Nat.min (k:Int).toNat x.length)))=_
 rw[if_neg (by omega),bL,<-Zn]
 by_cases h:k<=x.cps.toList.length
 ·rw[show Nat.min k x.cps.toList.length=k from bP h]
  exact eE (by rw[cP];exact aD _)
 ·rw[show Nat.min k x.cps.toList.length=x.cps.toList.length from cF (by omega),List.drop_length,eD (by omega)]
  exact List.take_nil
def tkS(x:Str)(k:Nat):Str:=⟨(x.cps.toList.take k).toArray⟩
def dpS(x:Str)(k:Nat):Str:=⟨(x.cps.toList.drop k).toArray⟩
theorem Zkf{k:Nat}(h:x.length<=8):Yf (.str x) none (some (k:Int))=some (.str (tkS x k)):=by
 show(if x.length<=Ze then some (P.str (WF x none (some (k:Int)))) else none)=_
 rw[if_pos (by unfold Ze;omega)]
 congr 2
 exact YN Zcs
theorem Zke{k:Nat}(h:x.length<=8):Yf (.str x) (some (k:Int)) none=some (.str (dpS x k)):=by
 show(if x.length<=Ze then some (P.str (WF x (some (k:Int)) none)) else none)=_
 rw[if_pos (by unfold Ze;omega)]
 congr 2
 exact YN Zcq
theorem Za3{ds:Li Nat}(h:∀ i∈ds,i < 26)(hl:ds.length<=8):∃ x:Str,Uf (.str (S "")) (.lst true (ds.map fun i=>.str (lcS i)))=some (.str x)/\x.cps.toList=ds.map (97+·):=by
 have e1:W2 (ds.map fun i=>P.str (lcS i))=some (ds.map lcS):=by
  have:=VU (ys:=ds.map lcS);rw[aV]at this;exact this
 have e2:∀ l:Li Nat,W5 (l.map lcS)=l.map (97+·):=fun l=>by
  induction l with
  |nil=>rfl
  |cons a l ih=>
   show(lcS a).cps.toList++W5 (l.map lcS)=_;rw[ih];rfl
 refine⟨⟨(W5 (ds.map lcS)).toArray⟩,?_,by rw[cU,e2]⟩
 show(if (S "").length=0 then WK (ds.map fun i=>P.str (lcS i)) else WJ (S "") (ds.map fun i=>P.str (lcS i)))=_
 rw[if_pos (by decide +kernel)]
 unfold WK;rw[e1];exact if_pos (by rw[e2,aF];unfold Ze;omega)
def UE(b:Str)(q i:Nat):Str:=tkS b q++lcS i++dpS b (q+1)
theorem Vp{b:Str}{q:Nat}:(UE b q i).cps.toList=b.cps.toList.take q++[97+i]++b.cps.toList.drop (q+1):=by
 unfold UE;rw[ZK,ZK];show(b.cps.toList.take q).toArray.toList++[97+i]++(b.cps.toList.drop (q+1)).toArray.toList=_;rw[cU,cU]

theorem ZeI{l:Nat}(hl:1+d % 8=(l:Int))(h8:l<=8)(h0:π[0]?=some (some (.int c)))(h1:π[1]?=some (some (.int d)))(h2:π[2]?=some (some (.str AZ))):∃ x:Str,pe F (.joinE (.cst (.str (S ""))) Z9) π=some (.str x)/\x.length=l/\∀ c∈x.cps.toList,97<=c/\c<=122:=by
 have e:pe F Z9 π=some (.lst true ((List.range l).map fun(k:Nat)=>P.str (lcS ((c / ((k:Int)+1)) % 26).toNat))):=by
  unfold Z9;refine Y0 (enc:=fun(k:Nat)=>P.int (k:Int)) (g:=fun(k:Nat)=>P.str (lcS ((c / ((k:Int)+1)) % 26).toNat)) (x:=.int (l:Int)) (l:=List.range l) ?_ ?_ (by rw[bK];omega) (fun k hk=>?_)
  ·rw[<-hl]
   exact Wf Z2 (YK (by show YG 1 π=_;unfold YG;rw[h1]) (by decide))
  ·rw[X7 (by omega)]
   unfold Xe;rw[bL]
  ·have hk:=bS.mp hk
   have en:Y1 π [0,2] (.int (k:Int))=[some (.int (k:Int)),some (.int c),some (.str AZ)]:=by
    show some (P.int (k:Int)) :: [(π[0]?).join,(π[2]?).join]=_;rw[h0,h2];rfl
   rw[en];have e1:pe F (.bin .Mod (.bin .FloorDiv (.var 1) (.bin .Add (.var 0) (.cst (.int 1)))) (.cst (.int 26))) [some (.int (k:Int)),some (.int c),some (.str AZ)]=some (.int ((c / ((k:Int)+1)) % 26)):=by
    refine YK ?_ (by decide)
    rw[Yn,Wf (v:=(k:Int)) rfl Z2,show pe F (.var 1) [some (.int (k:Int)),some (.int c),some (.str AZ)]=some (.int c) from rfl,Ob,Ob,Qg,if_pos (by omega)]
   rw[pe_ix,e1];obtain⟨i,hi,h,hv⟩:=Zhr (v:=c / ((k:Int)+1));show ixP (.str AZ) (.int ((c / ((k:Int)+1)) % 26))=_;rw[h,hv,bL]
 obtain⟨x,e2,e3⟩:=Za3 (ds:=(List.range l).map fun(k:Nat)=>((c / ((k:Int)+1)) % 26).toNat) (fun i hi=>by
  obtain⟨k,_,rfl⟩:=bC.mp hi;have:=cV (c / ((k:Int)+1)) (show(0:Int) < 26 by decide)
  have:=cJ (c / ((k:Int)+1)) (show(26:Int)≠0 by decide)
  omega) (by rw[aF,bK];exact h8)
 refine⟨x,?_,?_,fun a ha=>?_⟩
 ·rw[QN,e]
  rw[aV]at e2;exact e2
 ·rw[<-Zn,e3,aF,aF,bK]
 ·rw[e3]at ha
  obtain⟨i,hi,rfl⟩:=bC.mp ha;obtain⟨k,_,rfl⟩:=bC.mp hi;have:=cV (c / ((k:Int)+1)) (show(0:Int) < 26 by decide)
  have:=cJ (c / ((k:Int)+1)) (show(26:Int)≠0 by decide)
  show 97<=97+_/\97+_<=122;omega
def nlP(N:Nat->Str):P:=.lst true ((List.range 7).map fun k=>.str (N k))
theorem ZjQ(h:Lw x):Nm x:=⟨h.nm,h.wd,h.vis⟩
theorem ZhD{b:Str}{q:Nat}(hb:b.length<=8)(hq:q < b.length)(hl:∀ c∈b.cps.toList,97<=c/\c<=122)(hi:i < 26):Nm (UE b q i):=by
 have l:(UE b q i).length=b.length:=by
  rw[<-Zn,Vp,aI,aI,cG,cP,Zn];show min q b.length+1+(b.length - (q+1))=b.length;omega
 refine ZjQ ⟨fun c hc=>?_,by omega,by omega⟩
 rw[Vp]at hc;rcases bM.mp hc with hc|hc
 ·rcases bM.mp hc with hc|hc
  ·exact hl c (List.mem_of_mem_take hc)
  ·rw[bW.mp hc];omega
 ·exact hl c (List.mem_of_mem_drop hc)
theorem ZeT{b:Str}{q:Nat}(hq:q < b.length)(h:UE b q i=UE b q j):i=j:=by
 have e:=congrArg (fun x:Str=>x.cps.toList[q]?) h
 simp only[Vp]at e;have t:(b.cps.toList.take q).length=q:=by rw[cG,Zn];omega
 have g:∀ i,(b.cps.toList.take q++[97+i]++b.cps.toList.drop (q+1))[q]?=some (97+i):=fun i=>by
  rw[bO,aY (by omega),t,cK];rfl
 rw[g,g]at e;have:97+i=97+j:=Option.some.inj e;omega
theorem ZbX:∃ N,Nms N/\Zf T (n+1) 249 [.int c,.int d]=some (nlP N):=by
 rw[ZU (f:=c__law_names) rfl rfl];obtain⟨l,hl,h8⟩:∃ l:Nat,1+d % 8=(l:Int)/\l<=8/\1<=l:=⟨(1+d % 8).toNat,by omega,by omega,by omega⟩
 obtain⟨b,eb,lb,cb⟩:=ZeI (F:=Zf T n) (c:=c) hl h8.1 (π:=[some (.int c),some (.int d),some (.str AZ),none,none,none]) rfl rfl rfl;obtain⟨q,hq,hq2⟩:∃ q:Nat,d / 8 % (l:Int)=(q:Int)/\q < l:=⟨(d / 8 % (l:Int)).toNat,by
  have:=cJ (d / 8) (show(l:Int)≠0 by omega)
  omega,by
  have:=cJ (d / 8) (show(l:Int)≠0 by omega)
  have:=cV (d / 8) (show(0:Int) < (l:Int) by omega)
  omega⟩
 obtain⟨f,hf,hf2⟩:∃ f:Nat,d / 64 % 26=(f:Int)/\f < 26:=⟨(d / 64 % 26).toNat,by omega,by omega⟩
 refine⟨fun k=>UE b q ((f+3 * k) % 26),⟨fun i _=>ZhD (by omega) (by omega) cb (Nat.mod_lt _ (by decide)),fun i j hi hj e=>?_⟩,?_⟩
 ·have:=ZeT (by omega) e
  omega
 show Wv (px (Zf T n) [] c__law_names.body [some (.int c),some (.int d),none,none,none,none])=_;unfold c__law_names;rw[Xg (v:=.str AZ) (by rfl)]
 simp only[ZE,ZC];rw[Xg eb];simp only[ZE,ZC];rw[Xg (v:=.int (q:Int)) (by
  rw[<-hq];refine JF (WU rfl (by decide) (by decide)) ?_ (by omega)
  rw[UY,show pe (Zf T n) (.var 3) [some (.int c),some (.int d),some (.str AZ),some (.str b),none,none]=some (.str b) from rfl,Ob];show(if b.length<=Ze then some (P.int b.length) else none)=_
  rw[if_pos (by unfold Ze;omega),lb])]
 simp only[ZE,ZC];rw[Xg (v:=.int (f:Int)) (by rw[<-hf];exact YK (WU rfl (by decide) (by decide)) (by decide))]
 simp only[ZE,ZC];rw[YV (v:=nlP fun k=>UE b q ((f+3 * k) % 26)) (by
  unfold Xs;exact Y0 (enc:=fun(k:Nat)=>P.int (k:Int)) (g:=fun(k:Nat)=>P.str (UE b q ((f+3 * k) % 26))) (x:=.int 7) (l:=List.range 7) rfl rfl (by decide) (fun k hk=>by
   have hk:=bS.mp hk;show pe (Zf T n) (.bin .Add (.bin .Add (.slice (.var 2) .nop (.part (.var 1))) (.ix (.var 4) (.bin .Mod (.bin .Add (.var 3) (.bin .Mult (.cst (.int 3)) (.var 0))) (.cst (.int 26))))) (.slice (.var 2) (.part (.bin .Add (.var 1) (.cst (.int 1)))) .nop)) [some (.int (k:Int)),some (.int (q:Int)),some (.str b),some (.int (f:Int)),some (.str AZ)]=_;have lt1:(tkS b q).length<=8:=by
    rw[<-Zn];show(b.cps.toList.take q).toArray.toList.length<=8;rw[cU,cG];omega
   have lt2:(dpS b (q+1)).length<=8:=by
    rw[<-Zn];show(b.cps.toList.drop (q+1)).toArray.toList.length<=8;rw[cU,cP,Zn];omega
   have t1:Tx (Zf T n) [some (.int (k:Int)),some (.int (q:Int)),some (.str b),some (.int (f:Int)),some (.str AZ)] 8 (.slice (.var 2) .nop (.part (.var 1))) (tkS b q):=⟨Zkf (by omega),lt1⟩
   have e1:pe (Zf T n) (.bin .Mod (.bin .Add (.var 3) (.bin .Mult (.cst (.int 3)) (.var 0))) (.cst (.int 26))) [some (.int (k:Int)),some (.int (q:Int)),some (.str b),some (.int (f:Int)),some (.str AZ)]=some (.int (((f+3 * k) % 26:Nat):Int)):=by
    rw[show(((f+3 * k) % 26:Nat):Int)=((f:Int)+3 * (k:Int)) % 26 by omega]
    exact YK (Wf (v:=(f:Int)) rfl (ZjO (v:=3) (w:=(k:Int)) Z2 rfl (by decide))) (by decide)
   have t2:Tx (Zf T n) [some (.int (k:Int)),some (.int (q:Int)),some (.str b),some (.int (f:Int)),some (.str AZ)] 1 (.ix (.var 4) (.bin .Mod (.bin .Add (.var 3) (.bin .Mult (.cst (.int 3)) (.var 0))) (.cst (.int 26)))) (lcS ((f+3 * k) % 26)):=⟨by rw[pe_ix,e1,show pe (Zf T n) (.var 4) [some (.int (k:Int)),some (.int (q:Int)),some (.str b),some (.int (f:Int)),some (.str AZ)]=some (.str AZ) from rfl,Ob,Ob,ZgC (Nat.mod_lt _ (by decide))],aD _⟩
   have t3:Tx (Zf T n) [some (.int (k:Int)),some (.int (q:Int)),some (.str b),some (.int (f:Int)),some (.str AZ)] 8 (.slice (.var 2) (.part (.bin .Add (.var 1) (.cst (.int 1)))) .nop) (dpS b (q+1)):=⟨by
    show Yf (.str b) (some ((q:Int)+1)) none=_;rw[show(q:Int)+1=((q+1:Nat):Int) by omega]
    exact Zke (by omega),lt2⟩
   exact((t1.add t2 (by decide)).add t3 (by decide)).e))]
 rfl
end
def mxI(i j:Int):Int:=if j > i then j else i
def mnI(i j:Int):Int:=if j < i then j else i
def szR:CS:=match c__law_sizes.body with
 |.seq _ (.seq _ (.seq _ r))=>r
 |s=>s
section
variable {n:Nat}{F:PFn}{c t h r:Int}
abbrev szE(w c t h r:Int):ZH:=[some (.int w),some (.int c),some (.int t),some (.int h),some (.int r)]
theorem Zlx{w:Int}{v:P}(hv:px (Zf T n) [] szR (szE w c (c % 4) (c % 4+c / 4 % (6 - c % 4)) (c / 120 % 12))=some (.rt v)):Zf T (n+1) 252 [.int w,.int c]=some v:=by
 rw[ZU (f:=c__law_sizes) rfl rfl];show Wv (px (Zf T n) [] (.seq (.set 2 _) (.seq (.set 3 _) (.seq (.set 4 _) szR))) [some (.int w),some (.int c),none,none,none])=_;rw[Xg (v:=.int (c % 4)) (YK rfl (by decide))]
 simp only[ZE,ZC];rw[Xg (v:=.int (c % 4+c / 4 % (6 - c % 4))) (Wf (v:=c % 4) rfl (JF (WU rfl (by decide) (by decide)) (by rfl) (by omega)))]
 simp only[ZE,ZC];rw[Xg (v:=.int (c / 120 % 12)) (YK (WU rfl (by decide) (by decide)) (by decide))]
 simp only[ZE,ZC];rw[hv];rfl
theorem s_0:px F [] szR (szE 0 c t h r)=some (.rt (.tup [.int t,.int 5,.int 0])):=Zy rfl rfl
theorem s_1{w:Int}(hw:w=1\/w=9):px F [] szR (szE w c t h r)=some (.rt (.tup [.int t,.int (mxI 1 (mnI h 4)),.int r])):=by
 rcases hw with rfl|rfl<;>exact(Zg rfl).trans (Zy rfl rfl)
theorem s_2:px F [] szR (szE 2 c t h r)=some (.rt (.tup [.int (mxI 1 (mnI t 2)),.int (mxI 1 (mnI t 2)),.int 0])):=(Zg rfl).trans ((Zg rfl).trans (Zy rfl rfl))
theorem s_3(h0:mnI t 2 < 4):px F [] szR (szE 3 c t h r)=some (.rt (.tup [.int (mnI t 2),.int (1+mnI t 2+c / 120 % (4 - mnI t 2)),.int 0])):=by
 refine(Zg rfl).trans ((Zg rfl).trans ((Zg rfl).trans (Zy rfl ?_)));have e:pe F (.min (.var 2) (.cst (.int 2))) (szE 3 c t h r)=some (.int (mnI t 2)):=rfl;have e2:pe F (.bin .Add (.bin .Add (.cst (.int 1)) (.min (.var 2) (.cst (.int 2)))) (.bin .Mod (.bin .FloorDiv (.var 1) (.cst (.int 120))) (.bin .Sub (.cst (.int 4)) (.min (.var 2) (.cst (.int 2)))))) (szE 3 c t h r)=some (.int (1+mnI t 2+c / 120 % (4 - mnI t 2))):=
  Wf (Wf Z2 e) (JF (WU rfl (by decide) (by decide)) (w:=4 - mnI t 2) (by rw[Yn,Z2,e];rfl) (by omega))
 rw[Vh,Zk,Zk,e,e2];rfl
theorem s_4{w:Int}(hw:w=4\/w=5):px F [] szR (szE w c t h r)=some (.rt (.tup [.int 3,.int (3+c / 120 % 2),.int 0])):=by
 have e2:∀ w,pe F (.bin .Add (.cst (.int 3)) (.bin .Mod (.bin .FloorDiv (.var 1) (.cst (.int 120))) (.cst (.int 2)))) (szE w c t h r)=some (.int (3+c / 120 % 2)):=fun w=>Wf Z2 (YK (WU rfl (by decide) (by decide)) (by decide))
 rcases hw with rfl|rfl<;>exact(Zg rfl).trans ((Zg rfl).trans ((Zg rfl).trans ((Zg rfl).trans (Zy rfl (by rw[Vh,Zk,Zk,e2];rfl)))))
theorem s_6:px F [] szR (szE 6 c t h r)=some (.rt (.tup [.int t,.int h,.int 12])):=(Zg rfl).trans ((Zg rfl).trans ((Zg rfl).trans ((Zg rfl).trans ((Zg rfl).trans (Zy rfl rfl)))))
theorem Zlu:px F [] szR (szE 10 c t h r)=some (.rt (.tup [.int (mnI t 2),.int (mnI t 2),.int (mxI 1 r)])):=(Zg rfl).trans ((Zg rfl).trans ((Zg rfl).trans ((Zg rfl).trans ((Zg rfl).trans ((Zg rfl).trans (Zy rfl rfl))))))
theorem Zlv:px F [] szR (szE 11 c t h r)=some (.rt (.tup [.int t,.int (mnI h 4),.int (mxI 1 r)])):=(Zg rfl).trans ((Zg rfl).trans ((Zg rfl).trans ((Zg rfl).trans ((Zg rfl).trans ((Zg rfl).trans ((Zg rfl).trans (Zy rfl rfl)))))))
theorem s_7{w:Int}(hw:w=7\/w=8):px F [] szR (szE w c t h r)=some (.rt (.tup [.int t,.int h,.int r])):=by
 rcases hw with rfl|rfl<;>exact(Zg rfl).trans ((Zg rfl).trans ((Zg rfl).trans ((Zg rfl).trans ((Zg rfl).trans ((Zg rfl).trans ((Zg rfl).trans ((Zg rfl).trans (YV rfl))))))))
structure Sz(w:Nat)(t m r:Nat):Prop where
 ht:t<=3
 hm:m<=5
 tm:t<=m
 hr:r<=12
 w0:w=0->m=5/\r=0
 w1:w=1->1<=m
 w2:w=2->1<=m
 w3:w=3->t < m/\r=0
 w4:w=4\/w=5->t=3/\r=0
 w6:w=6->r=12
 w8:w=8->r<=11
 w9:w=9->m<=4
 w10:w=10->1<=r
 w11:w=11->1<=r
local macro_rules
 |`(tactic| trivial)=>`(tactic| (constructor<;>first|exact fun h=>absurd h (by decide)|omega))
theorem Zew(hw:w < 12):∃ t m r:Nat,Sz w t m r/\Zf T (n+1) 252 [.int (w:Int),.int c]=some (.tup [.int (t:Int),.int (m:Int),.int (r:Int)]):=by
 obtain⟨t,et,ht⟩:∃ t:Nat,c % 4=(t:Int)/\t<=3:=⟨(c % 4).toNat,by omega,by omega⟩
 have sw:∀ {w:Int}{v:P},px (Zf T n) [] szR (szE w c (c % 4) (c % 4+c / 4 % (6 - c % 4)) (c / 120 % 12))=some (.rt v)->Zf T (n+1) 252 [.int w,.int c]=some v:=Zlx;rw[et]at sw;obtain⟨h,eh,hh⟩:∃ h:Nat,(t:Int)+c / 4 % (6 - t)=(h:Int)/\t<=h/\h<=5:=by
  have h1:=cJ (c / 4) (show(6:Int) - t≠0 by omega)
  have h2:=cV (c / 4) (show(0:Int) < 6 - t by omega)
  generalize c / 4 % (6 - (t:Int))=q at h1 h2;exact⟨(t+q).toNat,by omega,by omega,by omega⟩
 rw[eh]at sw;obtain⟨r,er,hr⟩:∃ r:Nat,c / 120 % 12=(r:Int)/\r<=11:=⟨(c / 120 % 12).toNat,by omega,by omega⟩
 rw[er]at sw;clear et eh er;obtain⟨a,ea,ha⟩:∃ a:Nat,mnI t 2=(a:Int)/\a<=2/\a<=t:=by
  unfold mnI;split
  ·exact⟨2,rfl,by omega,by omega⟩
  ·exact⟨t,rfl,by omega,by omega⟩
 have mx:∀ k:Nat,∃ b:Nat,mxI 1 k=(b:Int)/\1<=b/\k<=b/\(b=k\/b=1):=fun k=>by
  unfold mxI;split
  ·exact⟨k,rfl,by omega,by omega,.inl rfl⟩
  ·exact⟨1,rfl,by omega,by omega,.inr rfl⟩
 obtain⟨b,eb,hb⟩:=mx a;obtain⟨d,ed,hd⟩:∃ d:Nat,mnI h 4=(d:Int)/\d<=4/\t<=d:=by
  unfold mnI;split
  ·exact⟨4,rfl,by omega,by omega⟩
  ·exact⟨h,rfl,by omega,by omega⟩
 obtain⟨e,ee,he⟩:=mx d;obtain⟨f,ef,hf⟩:=mx r;have q2:∃ q:Nat,3+c / 120 % 2=(q:Int)/\3<=q/\q<=4:=⟨(3+c / 120 % 2).toNat,by omega,by omega,by omega⟩
 obtain⟨q,eq,hq⟩:=q2;obtain⟨p,ep,hp⟩:∃ p:Nat,1+(a:Int)+c / 120 % (4 - a)=(p:Int)/\a < p/\p<=5:=by
  have h1:=cJ (c / 120) (show(4:Int) - a≠0 by omega)
  have h2:=cV (c / 120) (show(0:Int) < 4 - a by omega)
  generalize c / 120 % (4 - (a:Int))=q at h1 h2;exact⟨(1+a+q).toNat,by omega,by omega,by omega⟩
 have s3:=s_3 (F:=Zf T n) (c:=c) (t:=t) (h:=h) (r:=r) (by rw[ea];omega)
 have s2:=s_2 (F:=Zf T n) (c:=c) (t:=t) (h:=h) (r:=r);have s10:=Zlu (F:=Zf T n) (c:=c) (t:=t) (h:=h) (r:=r);have s1:=fun w hw=>s_1 (F:=Zf T n) (c:=c) (t:=t) (h:=h) (r:=r) (w:=w) hw
 have s11:=Zlv (F:=Zf T n) (c:=c) (t:=t) (h:=h) (r:=r);have s4:=fun w hw=>s_4 (F:=Zf T n) (c:=c) (t:=t) (h:=h) (r:=r) (w:=w) hw
 rw[ea,ep]at s3;rw[ea,eb]at s2;rw[ea,ef]at s10;simp only[ed,ee]at s1;rw[ed,ef]at s11;simp only[eq]at s4;clear ea eb ed ee ef eq ep mx;rcases Zh5 w hw with rfl|rfl|rfl|rfl|rfl|rfl|rfl|rfl|rfl|rfl|rfl|rfl
 ·exact⟨t,5,0,by trivial,sw s_0⟩
 ·exact⟨t,e,r,by trivial,sw (s1 _ (.inl rfl))⟩
 ·exact⟨b,b,0,by trivial,sw s2⟩
 ·exact⟨a,p,0,by trivial,sw s3⟩
 ·exact⟨3,q,0,by trivial,sw (s4 _ (.inl rfl))⟩
 ·exact⟨3,q,0,by trivial,sw (s4 _ (.inr rfl))⟩
 ·exact⟨t,h,12,by trivial,sw s_6⟩
 ·exact⟨t,h,r,by trivial,sw (s_7 (.inl rfl))⟩
 ·exact⟨t,h,r,by trivial,sw (s_7 (.inr rfl))⟩
 ·exact⟨t,e,r,by trivial,sw (s1 _ (.inr rfl))⟩
 ·exact⟨a,a,f,by trivial,sw s10⟩
 ·exact⟨t,d,f,by trivial,sw s11⟩
end
def laR:CS:=match c__law_last.body with
 |.seq _ (.seq _ r)=>r
 |s=>s
section
variable {n:Nat}{F:PFn}{π:ZH}{c:Int}{N:Nat->Str}{x y z:Str}{wl:Li Str}{t m r:Nat}
theorem VD(h:i < 7):ixP (nlP N) (.int (i:Int))=some (.str (N i)):=by
 show atP ((List.range 7).map fun k=>P.str (N k)) (i:Int)=_
 rw[WC rfl,aX,dZ h];rfl
theorem QF(h:y.cps.toList=Xv (S " ") wl):y=ln wl:=YN (h.trans gl_list.symm)
theorem ZbC{a:Str}(ha:a.cps.toList=k.cps.toList++(S " ").cps.toList):a++x=ln [k,x]:=QF (by
 rw[ZK,ha];show _=k.cps.toList++(((S " ").cps.toList++x.cps.toList)++[]);rw[bU,bO])
theorem JA{a b:Str}(ha:a.cps.toList=k.cps.toList++(S " ").cps.toList)(hb:b.cps.toList=Z6 (S " ") ws):a++x++b=ln (k :: x :: ws):=QF (by
 rw[ZK,ZK,ha,hb];show _=k.cps.toList++(((S " ").cps.toList++x.cps.toList)++Z6 (S " ") ws);simp only[bO])
theorem Zk2{a b:Str}{u v:Str}(ha:a.cps.toList=k.cps.toList++((S " ").cps.toList++(u.cps.toList++((S " ").cps.toList++(v.cps.toList++(S " ").cps.toList)))))(hb:b.cps.toList=Z6 (S " ") ws):a++x++b=ln (k :: u :: v :: x :: ws):=QF (by
 rw[ZK,ZK,ha,hb];show _=k.cps.toList++(((S " ").cps.toList++u.cps.toList)++(((S " ").cps.toList++v.cps.toList)++(((S " ").cps.toList++x.cps.toList)++Z6 (S " ") ws)));simp only[bO])
theorem tx3{a b:Str}(h:Tx F π 60 e x)(ha:a.length<=60)(hb:b.length<=60):pe F (.bin .Add (.bin .Add (.cst (.str a)) e) (.cst (.str b))) π=some (.str (a++x++b)):=(((Tx.cst (j:=60) ha).add h (by decide)).add (Tx.cst (j:=60) hb) (by decide)).e
theorem tx2{a:Str}(h:Tx F π 60 e x)(ha:a.length<=60):pe F (.bin .Add (.cst (.str a)) e) π=some (.str (a++x)):=((Tx.cst (j:=60) ha).add h (by decide)).e
abbrev laE(w m c:Int)(N:Nat->Str)(x y:Str):ZH:=[some (.int w),some (nlP N),some (.int m),some (.int c),some (.str x),some (.str y)]
theorem v4{w m:Int}(h:Nm x):Tx F (laE w m c N x y) 60 (.var 4) x:=⟨rfl,h.wd.len⟩
theorem v5{w m:Int}(h:Nm y):Tx F (laE w m c N x y) 60 (.var 5) y:=⟨rfl,h.wd.len⟩
theorem ZgU{k:Int}(h0:0 < k)(h5:k<=5):∃ i:Nat,i < 5/\c % k=(i:Int):=⟨(c % k).toNat,by
 have:=cJ c (show k≠0 by omega)
 have:=cV c h0;omega,by
 have:=cJ c (show k≠0 by omega)
 omega⟩
theorem ZkV{w:Int}{v:P}(hm:m<=5)(hv:∀ i,i < 5->px (Zf T n) [] laR (laE w m c N (N i) (N 6))=some (.rt v)->True)(h:∀ i,i < 5->∃ v,px (Zf T n) [] laR (laE w m c N (N i) (N 6))=some (.rt v)):∃ i v,i < 5/\px (Zf T n) [] laR (laE w m c N (N i) (N 6))=some (.rt v)/\Zf T (n+1) 253 [.int w,nlP N,.int (m:Int),.int c]=some v:=by
 obtain⟨i,hi,ei⟩:=ZgU (c:=c) (k:=mxI 1 (m:Int)) (by unfold mxI;split<;>omega) (by unfold mxI;split<;>omega)
 obtain⟨v,e⟩:=h i hi;refine⟨i,v,hi,e,?_⟩;rw[ZU (f:=c__law_last) rfl rfl];show Wv (px (Zf T n) [] (.seq (.set 4 (.ix (.var 1) (.bin .Mod (.var 3) (.max (.cst (.int 1)) (.var 2))))) (.seq (.set 5 (.ix (.var 1) (.cst (.int 6)))) laR)) [some (.int w),some (nlP N),some (.int (m:Int)),some (.int c),none,none])=_;rw[Xg (v:=.str (N i)) (by
  rw[pe_ix,JF (v:=c) (w:=mxI 1 (m:Int)) rfl rfl (by unfold mxI;split<;>omega),ei]
  exact VD (by omega))]
 simp only[ZE,ZC];rw[Xg (v:=.str (N 6)) (by rw[pe_ix,Z2];exact VD (i:=6) (by omega))]
 simp only[ZE,ZC];rw[e];rfl
def La(n:Nat)(N:Nat->Str)(w t m r:Nat)(v:P):Prop:=∃ wl,v=.str (ln wl)/\Lnw wl/\(w≠9->Rfs n N t m (m+r) (if w=8 then 226 else 224) wl)
theorem QJ(h:Nm x):Vis x/\x.length<=60:=⟨h.vis,h.wd.len⟩
def J3(x:Str):Bool:=decide (x.length<=60)&&x.cps.toList.all fun c=>decide (33<=c)
theorem vc(h:J3 x=true):Vis x/\x.length<=60:=by
 have h:=bJ.mp h;exact⟨fun c hc=>of_decide_eq_true (bY.mp h.2 c hc),of_decide_eq_true h.1⟩
theorem Ve(h:Nm x):Lnw [S "name",x]:=⟨_,_,rfl,.inr (.inl rfl),Zu (QJ h) Xb,(show 1<=5 by decide)⟩
theorem ZaE(h:Nm x)(hy:J3 y=true)(hz:J3 z=true):Lnw [S "take",x,y,z]:=⟨_,_,rfl,.inl rfl,Zu (QJ h) (Zu (vc hy) (Zu (vc hz) Xb)),(show 3<=5 by decide)⟩
theorem Zdn(h:Nm x)(hy:J3 y=true):Lnw [S "put",x,S "1",y,S "1"]:=⟨_,_,rfl,.inr (.inr (.inl rfl)),Zu (QJ h) (Zu (vc (by decide +kernel)) (Zu (vc hy) (Zu (vc (by decide +kernel)) Xb))),(show 4<=5 by decide)⟩
theorem t45{w:Int}(hx:Nm (N i))(h:Tx F π 60 e (N i)):pe F (.bin .Add (.bin .Add (.cst (.str (S "take "))) e) (.cst (.str (S " 4 5")))) π=some (.str (ln [S "take",N i,S "4",S "5"])):=by
 rw[tx3 h (by decide +kernel) (by decide +kernel),JA (k:=S "take") (ws:=[S "4",S "5"]) rfl rfl]
theorem Zhf{n2:Nat}(hN:Nms N)(hw:w < 12)(s:Sz w t m r)(h1:w=1->1<=r):∃ v,La n2 N w t m r v/\Zf T (n+1) 253 [.int (w:Int),nlP N,.int (m:Int),.int c]=some v:=by
 have n6:=hN.nm 6 (by decide)
 have go:(∀ i,i < 5->∃ v,La n2 N w t m r v/\px (Zf T n) [] laR (laE (w:Int) m c N (N i) (N 6))=some (.rt v))->∃ v,La n2 N w t m r v/\Zf T (n+1) 253 [.int (w:Int),nlP N,.int (m:Int),.int c]=some v:=fun h=>by
  obtain⟨i,v,hi,e,e2⟩:=ZkV (v:=.non) s.hm (fun _ _ _=>trivial) (fun i hi=>let ⟨v,_,e⟩:=h i hi;⟨v,e⟩)
  obtain⟨v',l,e'⟩:=h i hi;rw[e]at e';cases e';exact⟨v,l,e2⟩
 refine go fun i hi=>?_
 have ni:=hN.nm i (by omega)
 have a4:J3 (S "4")=true:=by decide +kernel
 have a5:J3 (S "5")=true:=by decide +kernel
 have tk:∀ {j:Nat},j < 7->t < m\/t=3\/1<=r->w≠8->La n2 N w t m r (.str (ln [S "take",N j,S "4",S "5"])):=fun {j} hj h h8=>⟨_,rfl,ZaE (hN.nm j hj) a4 a5,fun _=>by
  rw[if_neg h8];exact Rfs.take (hN.nm j hj) (by omega) s.tm (by omega)⟩
 have nn:∀ k,k < Nat.min (m+r) m->N k≠N 6:=fun k hk z=>by
  have:=hN.inj k 6 (by have:=s.hm;have:Nat.min (m+r) m<=m:=Nat.min_le_right _ _;omega) (by decide) z
  have:=s.hm;have:Nat.min (m+r) m<=m:=Nat.min_le_right _ _;omega
 have two:∀ u:Nat,u=8\/u=9->(u=8->m+r < m+12)->∃ v,La n2 N u t m r v/\pe (Zf T n) (.ix (.lstE (.aC (.bin .Add (.bin .Add (.cst (.str (S "if "))) (.var 5)) (.cst (.str (S " < 1 go 99")))) (.aC (.bin .Add (.bin .Add (.cst (.str (S "if 2 < "))) (.var 5)) (.cst (.str (S " go 98")))) .aN))) (.bin .Mod (.var 3) (.cst (.int 2)))) (laE (u:Int) m c N (N i) (N 6))=some v:=fun u hu h8=>by
  have e:pe (Zf T n) (.lstE (.aC (.bin .Add (.bin .Add (.cst (.str (S "if "))) (.var 5)) (.cst (.str (S " < 1 go 99")))) (.aC (.bin .Add (.bin .Add (.cst (.str (S "if 2 < "))) (.var 5)) (.cst (.str (S " go 98")))) .aN))) (laE (u:Int) m c N (N i) (N 6))=some (.lst true [.str (ln [S "if",N 6,S "<",S "1",S "go",S "99"]),.str (ln [S "if",S "2",S "<",N 6,S "go",S "98"])]):=by
   rw[XQ,Zk,Zk,tx3 (v5 n6) (by decide +kernel) (by decide +kernel),tx3 (v5 n6) (by decide +kernel) (by decide +kernel),JA (k:=S "if") (ws:=[S "<",S "1",S "go",S "99"]) rfl rfl,Zk2 (k:=S "if") (u:=S "2") (v:=S "<") (ws:=[S "go",S "98"]) rfl rfl]
   rfl
  have c2:c % 2=0\/c % 2=1:=by omega
  have lw:∀ {a b:Str},Vis a/\a.length<=60->Vis b/\b.length<=60->∀ {z:Str},J3 z=true->Lnw [S "if",a,S "<",b,S "go",z]:=fun {a b} ha hb {z} hz=>⟨_,_,rfl,.inr (.inr (.inr (.inl rfl))),Zu ha (Zu (vc (by decide +kernel)) (Zu hb (Zu (vc (by decide +kernel)) (Zu (vc hz) Xb)))),(show 5<=5 by decide)⟩
  rw[pe_ix,e,YK (v:=c) rfl (by decide)]
  rcases c2 with h|h<;>rw[h]
  ·refine⟨_,⟨_,rfl,lw (QJ n6) (vc (by decide +kernel)) (by decide +kernel),fun h9=>?_⟩,rfl⟩
   by_cases z:u=8
   ·rw[if_pos z];exact Rfs.if1 n6 (h8 z) nn
   ·exact absurd (hu.resolve_left z) h9
  ·refine⟨_,⟨_,rfl,lw (vc (by decide +kernel)) (QJ n6) (by decide +kernel),fun h9=>?_⟩,rfl⟩
   by_cases z:u=8
   ·rw[if_pos z];exact Rfs.if2 n6 (h8 z) nn
   ·exact absurd (hu.resolve_left z) h9
 rcases Zh5 w hw with rfl|rfl|rfl|rfl|rfl|rfl|rfl|rfl|rfl|rfl|rfl|rfl
 ·exact⟨_,⟨_,rfl,Ve ni,fun _=>Rfs.name ni (.inr ⟨(s.w0 rfl).1,by have:=s.w0 rfl;omega⟩)⟩,Zy rfl ((tx2 (v4 ni) (by decide +kernel)).trans (by rw[ZbC (k:=S "name") rfl]))⟩
 ·exact⟨_,⟨_,rfl,Ve ni,fun _=>Rfs.name ni (.inl (by have:=h1 rfl;omega))⟩,Zy rfl ((tx2 (v4 ni) (by decide +kernel)).trans (by rw[ZbC (k:=S "name") rfl]))⟩
 ·exact⟨_,⟨_,rfl,ZaE ni a5 a4,fun _=>Rfs.take54 ni⟩,(Zg rfl).trans (Zy rfl ((tx3 (v4 ni) (by decide +kernel) (by decide +kernel)).trans (by rw[JA (k:=S "take") (ws:=[S "5",S "4"]) rfl rfl])))⟩
 ·have hs:=s.w3 rfl
  by_cases q:c % 2=0
  ·refine⟨_,tk (j:=i) (by omega) (.inl hs.1) (by decide),(Zg rfl).trans ((Zg rfl).trans (Zy ?_ (t45 (w:=0) ni (v4 ni))))⟩
   rw[pe_or,show pe (Zf T n) (.cmp .Eq (.var 0) (.cst (.int 4))) (laE ((3:Nat):Int) m c N (N i) (N 6))=some (.bl false) from rfl,pe_and,show pe (Zf T n) (.cmp .Eq (.var 0) (.cst (.int 3))) (laE ((3:Nat):Int) m c N (N i) (N 6))=some (.bl true) from rfl,Z1,YK (v:=c) rfl (by decide),Z2]
   show Yw _ _ (Yw _ (some (.bl (decide (c % 2=0)))) _)=_;rw[aW q];rfl
  ·refine⟨_,tk (j:=6) (by omega) (.inl hs.1) (by decide),(Zg rfl).trans ((Zg rfl).trans ((Zg ?_).trans (Zy rfl (t45 (w:=0) n6 (v5 n6)))))⟩
   rw[pe_or,show pe (Zf T n) (.cmp .Eq (.var 0) (.cst (.int 4))) (laE ((3:Nat):Int) m c N (N i) (N 6))=some (.bl false) from rfl,pe_and,show pe (Zf T n) (.cmp .Eq (.var 0) (.cst (.int 3))) (laE ((3:Nat):Int) m c N (N i) (N 6))=some (.bl true) from rfl,Z1,YK (v:=c) rfl (by decide),Z2]
   show Yw _ _ (Yw _ (some (.bl (decide (c % 2=0)))) _)=_;rw[aK q];rfl
 ·exact⟨_,tk (j:=i) (by omega) (.inr (.inl (s.w4 (.inl rfl)).1)) (by decide),(Zg rfl).trans ((Zg rfl).trans (Zy rfl (t45 (w:=0) ni (v4 ni))))⟩
 ·exact⟨_,tk (j:=6) (by omega) (.inr (.inl (s.w4 (.inr rfl)).1)) (by decide),(Zg rfl).trans ((Zg rfl).trans ((Zg rfl).trans ((Zg rfl).trans (Zy rfl (t45 (w:=0) n6 (v5 n6))))))⟩
 ·exact⟨_,⟨_,rfl,⟨_,_,rfl,.inr (.inr (.inr (.inr (.inr (.inl rfl))))),Zu (QJ n6) Xb,(show 1<=5 by decide)⟩,fun _=>Rfs.tell n6 (by have:=s.w6 rfl;omega)⟩,(Zg rfl).trans ((Zg rfl).trans ((Zg rfl).trans ((Zg rfl).trans ((Zg rfl).trans ((Zg rfl).trans ((Zg rfl).trans (Zy rfl ((tx2 (v5 n6) (by decide +kernel)).trans (by rw[ZbC (k:=S "tell") rfl]))))))))) ⟩
 ·obtain⟨v,l,e⟩:∃ v,La n2 N 7 t m r v/\pe (Zf T n) (.ix (.lstE (.aC (.bin .Add (.bin .Add (.cst (.str (S "put "))) (.var 5)) (.cst (.str (S " 1 ** 1")))) (.aC (.bin .Add (.bin .Add (.cst (.str (S "if "))) (.var 5)) (.cst (.str (S " == 1 go 0")))) (.aC (.bin .Add (.bin .Add (.cst (.str (S "tell "))) (.var 5)) (.cst (.str (S " 1")))) .aN)))) (.bin .Mod (.var 3) (.cst (.int 3)))) (laE ((7:Nat):Int) m c N (N i) (N 6))=some v:=by
   have e:pe (Zf T n) (.lstE (.aC (.bin .Add (.bin .Add (.cst (.str (S "put "))) (.var 5)) (.cst (.str (S " 1 ** 1")))) (.aC (.bin .Add (.bin .Add (.cst (.str (S "if "))) (.var 5)) (.cst (.str (S " == 1 go 0")))) (.aC (.bin .Add (.bin .Add (.cst (.str (S "tell "))) (.var 5)) (.cst (.str (S " 1")))) .aN)))) (laE ((7:Nat):Int) m c N (N i) (N 6))=some (.lst true [.str (ln [S "put",N 6,S "1",S "**",S "1"]),.str (ln [S "if",N 6,S "==",S "1",S "go",S "0"]),.str (ln [S "tell",N 6,S "1"])]):=by
    rw[XQ,Zk,Zk,Zk,tx3 (v5 n6) (by decide +kernel) (by decide +kernel),tx3 (v5 n6) (by decide +kernel) (by decide +kernel),tx3 (v5 n6) (by decide +kernel) (by decide +kernel),JA (k:=S "put") (ws:=[S "1",S "**",S "1"]) rfl rfl,JA (k:=S "if") (ws:=[S "==",S "1",S "go",S "0"]) rfl rfl,JA (k:=S "tell") (ws:=[S "1"]) rfl rfl]
    rfl
   have c3:c % 3=0\/c % 3=1\/c % 3=2:=by omega
   rw[pe_ix,e,YK (v:=c) rfl (by decide)]
   rcases c3 with h|h|h<;>rw[h]
   ·exact⟨_,⟨_,rfl,Zdn n6 (by decide +kernel),fun _=>Rfs.put n6⟩,rfl⟩
   ·exact⟨_,⟨_,rfl,⟨_,_,rfl,.inr (.inr (.inr (.inl rfl))),Zu (QJ n6) (Zu (vc (by decide +kernel)) (Zu (vc (by decide +kernel)) (Zu (vc (by decide +kernel)) (Zu (vc (by decide +kernel)) Xb)))),(show 5<=5 by decide)⟩,fun _=>Rfs.if0 n6⟩,rfl⟩
   ·exact⟨_,⟨_,rfl,⟨_,_,rfl,.inr (.inr (.inr (.inr (.inr (.inl rfl))))),Zu (QJ n6) (Zu (vc (by decide +kernel)) Xb),(show 2<=5 by decide)⟩,fun _=>Rfs.tell2⟩,rfl⟩
  exact⟨v,l,(Zg rfl).trans ((Zg rfl).trans ((Zg rfl).trans ((Zg rfl).trans ((Zg rfl).trans ((Zg rfl).trans ((Zg rfl).trans ((Zg rfl).trans (Zy rfl e))))))))⟩
 ·obtain⟨v,l,e⟩:=two 8 (.inl rfl) (fun _=>by have:=s.w8 rfl;omega)
  exact⟨v,l,(Zg rfl).trans ((Zg rfl).trans ((Zg rfl).trans ((Zg rfl).trans ((Zg rfl).trans ((Zg rfl).trans ((Zg rfl).trans ((Zg rfl).trans ((Zg rfl).trans (YV e)))))))))⟩
 ·obtain⟨v,l,e⟩:=two 9 (.inr rfl) (fun z=>absurd z (by decide))
  exact⟨v,l,(Zg rfl).trans ((Zg rfl).trans ((Zg rfl).trans ((Zg rfl).trans ((Zg rfl).trans ((Zg rfl).trans ((Zg rfl).trans ((Zg rfl).trans ((Zg rfl).trans (YV e)))))))))⟩
 ·have hr:=s.w10 rfl
  have c1:pe (Zf T n) (.or (.cmp .Eq (.var 0) (.cst (.int 5))) (.and (.cmp .Eq (.var 0) (.cst (.int 10))) (.or (.cmp .Eq (.bin .Mod (.var 3) (.cst (.int 2))) (.cst (.int 0))) (.cmp .Eq (.var 2) (.cst (.int 0)))))) (laE ((10:Nat):Int) m c N (N i) (N 6))=some (.bl (decide (c % 2=0)||decide ((m:Int)=0))):=by
   rw[pe_or,show pe (Zf T n) (.cmp .Eq (.var 0) (.cst (.int 5))) (laE ((10:Nat):Int) m c N (N i) (N 6))=some (.bl false) from rfl,pe_and,show pe (Zf T n) (.cmp .Eq (.var 0) (.cst (.int 10))) (laE ((10:Nat):Int) m c N (N i) (N 6))=some (.bl true) from rfl,pe_or,Z1,YK (v:=c) rfl (by decide),Z2,show pe (Zf T n) (.cmp .Eq (.var 2) (.cst (.int 0))) (laE ((10:Nat):Int) m c N (N i) (N 6))=some (.bl (decide ((m:Int)=0))) from rfl]
   show Yw _ _ (Yw _ (Yw (some (.bl (decide (c % 2=0)))) _ _) _)=_;cases decide (c % 2=0)<;>rfl
  cases q:(decide (c % 2=0)||decide ((m:Int)=0)) with
  |true=>
   rw[q]at c1;exact⟨_,tk (j:=6) (by omega) (.inr (.inr hr)) (by decide),(Zg rfl).trans ((Zg rfl).trans ((Zg rfl).trans ((Zg rfl).trans (Zy c1 (t45 (w:=0) n6 (v5 n6))))))⟩
  |false=>
   rw[q]at c1;have hm0:0 < (m:Int):=by
    have:=of_decide_eq_false (Bool.or_eq_false_iff.mp q).2;omega
   obtain⟨k,hk,ek⟩:=ZgU (c:=c / 2) hm0 (by have:=s.hm;omega)
   have nk:=hN.nm k (by omega)
   refine⟨_,tk (j:=k) (by omega) (.inr (.inr hr)) (by decide),(Zg rfl).trans ((Zg rfl).trans ((Zg rfl).trans ((Zg rfl).trans ((Zg c1).trans (Zy rfl (t45 (w:=0) nk ⟨?_,nk.wd.len⟩))))))⟩
   rw[pe_ix,JF (w:=(m:Int)) (WU (v:=c) rfl (by decide) (by decide)) rfl hm0,ek]
   exact VD (by omega)
 ·exact⟨_,⟨_,rfl,Ve n6,fun _=>Rfs.name n6 (.inl (by have:=s.w11 rfl;omega))⟩,(Zg rfl).trans ((Zg rfl).trans ((Zg rfl).trans ((Zg rfl).trans ((Zg rfl).trans ((Zg rfl).trans (Zy rfl ((tx2 (v5 n6) (by decide +kernel)).trans (by rw[ZbC (k:=S "name") rfl]))))))))⟩
end
section
variable {n:Nat}{F:PFn}{π:ZH}{c:Int}{N:Nat->Str}{x y z:Str}{wl:Li Str}{t m r j q:Nat}
theorem Wm:∀ q j,ZB N t m j q=(List.range q).map fun i=>ln (Yc N t m (j+i))
 |0,_=>rfl
 |q+1,j=>by
  rw[dU,aP,aV];show ln (Yc N t m j) :: ZB N t m (j+1) q=_;rw[Wm q (j+1)]
  congr 1
  exact dB fun i _=>by show ln (Yc N t m (j+1+i))=ln (Yc N t m (j+(i+1)));rw[show j+1+i=j+(i+1) by omega]
theorem sk_ln:S "skip"=ln [S "skip"]:=QF rfl
theorem ZcM(htm:t<=m):((List.range t).map fun i=>ln [S "take",N i,nu i,S "9"])++((List.range (m - t)).map fun i=>ln [S "name",N (t+i)])++List.replicate r (S "skip")=ZB N t m 0 (m+r):=by
 rw[Wm,show m+r=t+((m - t)+r) by omega,List.range_add,List.range_add,cA,cA,aV,cA,aV,aV,bO]
 congr 1
 ·exact dB fun i hi=>by
   have:=bS.mp hi;show _=ln (Yc N t m (0+i));rw[bX,Yc,if_pos this]
 congr 1
 ·exact dB fun i hi=>by
   have:=bS.mp hi;show _=ln (Yc N t m (0+(t+i)));rw[bX,Yc,if_neg (by omega),if_pos (by omega)]
 ·refine(List.eq_replicate_iff.mpr ⟨by rw[aF,bK],fun b hb=>?_⟩).symm
  obtain⟨i,_,rfl⟩:=bC.mp hb;show ln (Yc N t m (0+(t+((m - t)+i))))=_;rw[bX,Yc,if_neg (by omega),if_neg (by omega)]
  exact sk_ln.symm
theorem Zbr:(ZB N t m 0 (m+r)).take m=ZB N t m 0 m:=by
 rw[Wm,Wm,<-List.map_take,List.take_range,bP (by omega)]
theorem Zia(h:j < 3):Zea (.int ((j:Int) - 9))=some (.str (nu j)):=by
 have:j=0\/j=1\/j=2:=by omega
 rcases this with rfl|rfl|rfl<;>rfl
theorem ZjK{a b d:Str}(ha:a.cps.toList=k.cps.toList++(S " ").cps.toList)(hb:b.cps.toList=(S " ").cps.toList)(hd:d.cps.toList=(S " ").cps.toList++z.cps.toList):a++x++b++y++d=ln [k,x,y,z]:=QF (by
 rw[ZK,ZK,ZK,ZK,ha,hb,hd];show _=k.cps.toList++(((S " ").cps.toList++x.cps.toList)++(((S " ").cps.toList++y.cps.toList)++(((S " ").cps.toList++z.cps.toList)++[])));simp only[bU,bO])
theorem e_0(hN:Nms N)(ht:t<=3)(h1:π[1]?=some (some (nlP N)))(h5:π[5]?=some (some (.int (t:Int)))):pe F YH π=some (.lst true (((List.range t).map fun i=>ln [S "take",N i,nu i,S "9"]).map P.str)):=by
 unfold YH;rw[aV];refine Y0 (enc:=fun(k:Nat)=>P.int (k:Int)) (g:=fun(k:Nat)=>P.str (ln [S "take",N k,nu k,S "9"])) (x:=.int (t:Int)) (l:=List.range t) (by show YG 5 π=_;unfold YG;rw[h5]) ?_ (by rw[bK];omega) (fun k hk=>?_)
 ·rw[X7 (by omega)]
  unfold Xe;rw[bL]
 ·have hk:=bS.mp hk
  have nk:=hN.nm k (by omega)
  have en:Y1 π [1] (.int (k:Int))=[some (.int (k:Int)),some (nlP N)]:=by
   show some (P.int (k:Int)) :: [(π[1]?).join]=_;rw[h1];rfl
  rw[en];have a:Tx F [some (.int (k:Int)),some (nlP N)] 60 (.ix (.var 1) (.var 0)) (N k):=⟨VD (by omega),nk.wd.len⟩
  have b:Tx F [some (.int (k:Int)),some (nlP N)] 60 (.strOf (.bin .Sub (.var 0) (.cst (.int 9)))) (nu k):=⟨Zia (by omega),(ZjS (by omega)).2⟩
  have:=((((Tx.cst (F:=F) (π:=[some (.int (k:Int)),some (nlP N)]) (j:=60) (s:=S "take ") (by decide +kernel)).add a (by decide)).add (Tx.cst (j:=60) (s:=S " ") (by decide +kernel)) (by decide)).add b (by decide)).add (Tx.cst (j:=60) (s:=S " 9") (by decide +kernel)) (by decide)
  rw[this.e,ZjK (k:=S "take") (z:=S "9") rfl rfl rfl]
theorem JP(h:t<=m):ZG (t:Int) (m:Int) 1=(List.range (m - t)).map fun(i:Nat)=>((t+i:Nat):Int):=by
 unfold ZG;have e:ZJ (t:Int) (m:Int) 1=m - t:=by
  unfold ZJ;rw[if_pos (by decide)]
  by_cases c:(t:Int) < (m:Int)
  ·rw[if_pos c,cX];omega
  ·rw[if_neg c];omega
 rw[e];exact dB fun i _=>by omega
theorem e_1(hN:Nms N)(htm:t<=m)(hm:m<=5)(h1:π[1]?=some (some (nlP N)))(h5:π[5]?=some (some (.int (t:Int))))(h6:π[6]?=some (some (.int (m:Int)))):pe F YI π=some (.lst true (((List.range (m - t)).map fun i=>ln [S "name",N (t+i)]).map P.str)):=by
 unfold YI;rw[aV];refine Y0 (enc:=fun(k:Nat)=>P.int ((t+k:Nat):Int)) (g:=fun(k:Nat)=>P.str (ln [S "name",N (t+k)])) (x:=.dct [] [.int (t:Int),.int (m:Int)]) (l:=List.range (m - t)) ?_ ?_ (by rw[bK];omega) (fun k hk=>?_)
 ·show pq2 (YG 5) (YG 6) ZdW π=_
  unfold pq2 YG;rw[h5,h6];show(if ZP (t:Int) (m:Int) 1=true then some (P.dct [] [.int (t:Int),.int (m:Int)]) else none)=_
  rw[if_pos (by unfold ZP;exact aW ⟨⟨by omega,by omega⟩,⟨by omega,by omega⟩,.inl rfl⟩)]
 ·show some ((ZG (t:Int) (m:Int) 1).map P.int)=_
  rw[JP htm,aV];rfl
 ·have hk:=bS.mp hk
  have nk:=hN.nm (t+k) (by omega)
  have en:Y1 π [1] (.int ((t+k:Nat):Int))=[some (.int ((t+k:Nat):Int)),some (nlP N)]:=by
   show some (P.int ((t+k:Nat):Int)) :: [(π[1]?).join]=_;rw[h1];rfl
  rw[en];have a:Tx F [some (.int ((t+k:Nat):Int)),some (nlP N)] 60 (.ix (.var 1) (.var 0)) (N (t+k)):=⟨VD (by omega),nk.wd.len⟩
  rw[tx2 a (by decide +kernel),ZbC (k:=S "name") rfl]
def tkP(t:Nat):Li P:=(List.range t).map fun(k:Nat)=>.tup [.int ((k:Int) - 9),.int 9]
theorem e_2(ht:t<=3)(h5:π[5]?=some (some (.int (t:Int)))):pe F Yj π=some (.lst true (tkP t)):=by
 unfold Yj;refine Y0 (enc:=fun(k:Nat)=>P.int (k:Int)) (g:=fun(k:Nat)=>P.tup [.int ((k:Int) - 9),.int 9]) (x:=.int (t:Int)) (l:=List.range t) (by show YG 5 π=_;unfold YG;rw[h5]) ?_ (by rw[bK];omega) (fun k hk=>rfl)
 rw[X7 (by omega)]
 unfold Xe;rw[bL]
def duP(c:Nat):Li P:=[.bl (c==224),.bl false,.bl (c==226),.bl false,.bl false,.bl false]
def Ji(w:Nat):Nat:=if w=8\/w=9 then 226 else 224
theorem e_3(hw:w < 12)(h4:π[4]?=some (some (.int (w:Int)))):pe F (.bin .Add Z3 (.lstE (.aC (.cst (.bl false)) (.aC (.cst (.bl false)) .aN)))) π=some (.lst true (duP (Ji w))):=by
 have e:pe F Z3 π=some (.lst true ((List.range 4).map fun(k:Nat)=>P.bl (decide ((k:Int)=if w=8\/w=9 then 2 else 0)))):=by
  unfold Z3;refine Y0 (enc:=fun(k:Nat)=>P.int (k:Int)) (g:=fun(k:Nat)=>P.bl (decide ((k:Int)=if w=8\/w=9 then 2 else 0))) (x:=.int 4) (l:=List.range 4) rfl rfl (by decide) (fun k hk=>?_)
  have en:Y1 π [4] (.int (k:Int))=[some (.int (k:Int)),some (.int (w:Int))]:=by
   show some (P.int (k:Int)) :: [(π[4]?).join]=_;rw[h4];rfl
  rw[en];rcases Zh5 w hw with rfl|rfl|rfl|rfl|rfl|rfl|rfl|rfl|rfl|rfl|rfl|rfl<;>rfl
 rw[Yn,e];unfold Ji;by_cases c:w=8\/w=9
 ·simp only[if_pos c];rfl
 ·simp only[if_neg c];rfl
end
section
variable {n i j:Nat}{st st' st1 st2:Za}{π:ZH}{ρ:Env}{p:P}{d v1:D}{e:CE}{a q:CS}{o:Ot (Fl×Za)}
def W(st:Za)(v1:D)(o:Ot (Fl×Za)):Prop:=∃ ρ' st',o=some (.nx ρ',st')/\Grw st st'/\ρ'.length=13/\ρ'[0]?=some (some (.lst 0))/\ρ'[1]?=some (some v1)
theorem W.grw(x:Grw st st')(h:W st' v1 o):W st v1 o:=let ⟨ρ',s,a,b,c⟩:=h;⟨ρ',s,a,x.trans b,c⟩
structure Ek(st:Za)(v1:D)(π:ZH)(ρ:Env):Prop where
 e:EnvAll (Al st) st π ρ
 l:ρ.length=13
 r0:ρ[0]?=some (some (.lst 0))
 r1:ρ[1]?=some (some v1)
theorem UZ(x:Grw st st')(r:Rel (Al st) st p d):Rel (Al st') st' p d:=r.mono (fun i hi=>aJ hi x.len) fun i hi=>x.old i hi
theorem Ek.grw(x:Grw st st')(E:Ek st v1 π ρ):Ek st' v1 π ρ:=⟨fun i p h=>let ⟨d,a,b⟩:=E.e i p h;⟨d,a,UZ x b⟩,E.l,E.r0,E.r1⟩
theorem Ek.fix(E:Ek st v1 π ρ)(h2:2<=i)(h:EnvAll (Al st) st π (Zi ρ i d)):Ek st v1 π (Zi ρ i d):=by
 unfold Zi at *
 exact⟨h,by rw[bI];exact E.l,by rw[aR (by omega)];exact E.r0,by rw[aR (by omega)];exact E.r1⟩
theorem Ek.set(E:Ek st v1 π ρ)(h2:2<=i)(hi:i < 13)(r:Rel (Al st) st p d):Ek st v1 (Ym π i p) (Zi ρ i d):=by
 have h:EnvAll (Al st) st (Ym π i p) (Zi ρ i d):=fun j q hq=>by
  unfold Ym at hq;unfold Zi;by_cases z:i=j
  ·subst z
   rw[dD]at hq;simp only[if_true]at hq;split at hq
   ·cases hq
    exact⟨d,bN (by rw[E.l];exact hi),r⟩
   ·cases hq
  ·rw[aR z]at hq ⊢
   exact E.e j q hq
 unfold Zi at *
 exact⟨h,by rw[bI];exact E.l,by rw[aR (by omega)];exact E.r0,by rw[aR (by omega)];exact E.r1⟩
theorem Ek.put(E:Ek st v1 π ρ)(h2:2<=i)(hp:π[i]?=some none):Ek st v1 π (Zi ρ i d):=E.fix h2 fun j q hq=>by
 unfold Zi;by_cases z:i=j
 ·subst z;rw[hp]at hq;cases hq
 ·rw[aR z];exact E.e j q hq
theorem X1(h:pe (Zf T n) e π=some p)(E:Ek st v1 π ρ)(h2:2<=i)(hi:i < 13)(k:∀ d st',Grw st st'->Ek st' v1 (Ym π i p) (Zi ρ i d)->W st' v1 (ex (run T n) q (Zi ρ i d) st')):W st v1 (ex (run T n) (.seq (.set i e) q) ρ st):=by
 obtain⟨d,st',e1,x,r⟩:=ZO h E.e;rw[Zm (YQ e1)];exact(k d st' x ((E.grw x).set h2 hi r)).grw x
theorem Zks(h:pe (Zf T n) e π=some (.bl false))(E:Ek st v1 π ρ)(k:∀ st',Grw st st'->Ek st' v1 π ρ->W st' v1 (ex (run T n) q ρ st')):W st v1 (ex (run T n) (.seq (.ite e a .skip) q) ρ st):=by
 obtain⟨d,st',e1,x,r⟩:=ZO h E.e;cases r;rw[Zm ((We e1).trans Zr)];exact(k st' x (E.grw x)).grw x
theorem J5{b:CS}{F:Nat->Fn}:ex F (.seq (.seq a b) q) ρ st=ex F (.seq a (.seq b q)) ρ st:=by
 show Y4 (Y4 (ex F a) (ex F b)) (ex F q) ρ st=Y4 (ex F a) (Y4 (ex F b) (ex F q)) ρ st;unfold Y4;cases ex F a ρ st with
 |none=>rfl
 |some r=>
  obtain⟨f,s⟩:=r;cases f<;>rfl
theorem Zg8(h:pe (Zf T n) e π=some (.bl true))(E:Ek st v1 π ρ)(k:∀ st',Grw st st'->Ek st' v1 π ρ->W st' v1 (ex (run T n) (.seq a q) ρ st')):W st v1 (ex (run T n) (.seq (.ite e a .skip) q) ρ st):=by
 obtain⟨d,st',e1,x,r⟩:=ZO h E.e;cases r;have:=k st' x (E.grw x);have e2:ex (run T n) (.seq (.ite e a .skip) q) ρ st=ex (run T n) (.seq a q) ρ st':=by
  show Y4 (ex (run T n) (.ite e a .skip)) (ex (run T n) q) ρ st=Y4 (ex (run T n) a) (ex (run T n) q) ρ st';unfold Y4;rw[XM e1]
 rw[e2];exact this.grw x
theorem ZiX{x y z:Int}(h:pe (Zf T n) e π=some (.tup [.int x,.int y,.int z]))(E:Ek st v1 π ρ)(k:∀ st',Grw st st'->Ek st' v1 (Ym (Ym (Ym π 5 (.int x)) 6 (.int y)) 7 (.int z)) (Zi (Zi (Zi ρ 5 (.int x)) 6 (.int y)) 7 (.int z))->W st' v1 (ex (run T n) q (Zi (Zi (Zi ρ 5 (.int x)) 6 (.int y)) 7 (.int z)) st')):W st v1 (ex (run T n) (.seq (.set3 5 6 7 e) q) ρ st):=by
 obtain⟨d,st',e1,x1,r⟩:=ZO h E.e;cases XH (p:=.tup [.int x,.int y,.int z]) rfl r
 have e2:ex (run T n) (.set3 5 6 7 e) ρ st=some (.nx (Zi (Zi (Zi ρ 5 (.int x)) 6 (.int y)) 7 (.int z)),st'):=by
  show QW 5 6 7 (ev (run T n) e) ρ st=_;unfold QW;rw[e1];rfl
 rw[Zm e2];exact(k st' x1 ((((E.grw x1).set (by decide) (by decide) (.int x)).set (by decide) (by decide) (.int y)).set (by decide) (by decide) (.int z))).grw x1
theorem Zhq(h:ρ.length=13)(hi:i < 13){F:Nat->Fn}:ev F (.var i) (Zi ρ i d) st=some (d,st):=by
 show ZV i (Zi ρ i d) st=_;unfold ZV Zi;rw[bN (by rw[h];exact hi)]
end
section
variable {n t m r J c:Nat}{st:Za}{π:ZH}{ρ:Env}{v1:D}{N:Nat->Str}{wl:Li Str}{mo:Li Str}{w:Nat}
theorem Zh1(h:Lns mo):∀ x∈mo,x.length<=366:=fun x hx=>by
 obtain⟨wl,q,rfl⟩:=h x hx;obtain⟨k,ws,rfl,hk,hv,h5⟩:=q.k;exact UP hk hv h5
theorem nl1:(S "\n").length=1:=by decide +kernel
theorem Zae{F:PFn}{a b:CE}{xs ys:Li P}{b1 b2:Bool}(ha:pe F a π=some (.lst b1 xs))(hb:pe F b π=some (.lst b2 ys))(h:xs.length+ys.length<=1000):pe F (.bin .Add a b) π=some (.lst true (xs++ys)):=by
 rw[Yn,ha,hb,Ob,Ob,Zb7,if_pos (by unfold Ze;omega)]
theorem Zdg{F:PFn}{L:Li Str}{b:Bool}(h:pe F e π=some (.lst b (L.map P.str)))(hL:Lns L)(hl:L.length<=40):pe F (.aC (.joinE (.cst (.str (S "\n"))) e) .aN) π=some (.tup [.str (gl NL L)]):=by
 rw[Zk,QN,h,JJ];show(((Uf (.str (S "\n")) (.lst b (L.map P.str)))).bind _)=_;rw[Zft (j:=366) nl1 (Zh1 hL) (by have:=Nat.mul_le_mul_right 367 hl;omega)]
 rfl
theorem Jm{F:Nat->Fn}{x y:CE}{st2:Za}(h:ev F x ρ st=some (.bl false,st1))(h2:ev F y ρ st1=some (.bl false,st2)):ev F (.or x y) ρ st=some (.bl false,st2):=(Zjo h).trans h2
theorem ZaQ(E:Ek st v1 π ρ)(hw:w < 12)(hc:c=Ji w)(h4:π[4]?=some (some (.int (w:Int))))(h8:π[8]?=some (some (.lst true ((ZB N t m 0 J).map P.str))))(h9:π[9]?=some (some (.str (ln wl))))(h10:π[10]?=some (some (.lst true (mo.map P.str))))(h11:π[11]?=some none)(h12:π[12]?=some none)(hN:Nms N)(ht:t<=3)(hm:m<=5)(htm:t<=m)(hJ:J<=m+12)(hL:Lnw wl)(hM:Lns mo)(hk:mo.length<=1)(hR:Rfs n N t m J c wl) :
  W st v1 (ex (run T (n+9)) (.seq (.set 11 (.call 229 (.aC (.joinE (.cst (.str (S "\n"))) (.bin .Add (.bin .Add (.var 8) (.lstE (.aC (.var 9) .aN))) (.var 10))) .aN) []))
   (.seq (.set 12 (.bin .Add Z3 (.lstE (.aC (.cst (.bl false)) (.aC (.cst (.bl false)) .aN)))))
   (.seq (.ite (.or (.cmp .Is (.var 11) (.cst .non)) (.or (.not (.call 17 (.aC (.ix (.var 11) (.cst (.int 2))) .aN) [])) (.or (.cmp .NotEq (.slice (.var 11) .nop (.part (.cst (.int 2)))) (.tupE (.aC (.var 12) (.aC (.cst (.bl true)) .aN)))) (.cmp .NotEq (.ix (.var 11) (.cst (.int 2))) (.bin .Add (.len (.var 8)) (.cst (.int 1))))))) (.seq (.ret (.cst (.bl false)))
   .skip) .skip)
   .skip))) ρ st):=by
 have hcc:c=224\/c=226:=by
  rw[hc];unfold Ji;split
  ·exact .inr rfl
  ·exact .inl rfl
 have gl8:=YY (N:=N) (t:=t) (m:=m) J 0;have p8:∀ {F:PFn},pe F (.var 8) π=some (.lst true ((ZB N t m 0 J).map P.str)):=fun {F}=>by show YG 8 π=_;unfold YG;rw[h8]
 have hl:Lns (ZB N t m 0 J++[ln wl]++mo):=fun x hx=>by
  rcases bM.mp hx with hx|hx
  ·rcases bM.mp hx with hx|hx
   ·exact Xw hN ht hm htm J 0 x hx
   ·exact⟨wl,hL,bW.mp hx⟩
  ·exact hM x hx
 have e1:pe (Zf T (n+9)) (.aC (.joinE (.cst (.str (S "\n"))) (.bin .Add (.bin .Add (.var 8) (.lstE (.aC (.var 9) .aN))) (.var 10))) .aN) π=some (.tup [.str (gl NL (ZB N t m 0 J++[ln wl]++mo))]):=by
  refine Zdg (b:=true) ?_ hl (by rw[aI,aI,gl8];show J+1+mo.length<=40;omega)
  rw[cA,cA];refine Zae (b1:=true) (b2:=true) (Zae (b1:=true) (b2:=true) p8 ?_ (by rw[aF,gl8];show J+1<=1000;omega)) (by show YG 10 π=_;unfold YG;rw[h10]) (by rw[aI,aF,aF,aF,gl8];show J+1+mo.length<=1000;omega)
  rw[XQ,Zk,show pe (Zf T (n+9)) (.var 9) π=some (.str (ln wl)) from(by show YG 9 π=_;unfold YG;rw[h9])]
  rfl
 obtain⟨d1,st1,f1,x1,r1⟩:=ZO e1 E.e;cases XH (p:=.tup [.str (gl NL (ZB N t m 0 J++[ln wl]++mo))]) rfl r1
 obtain⟨q,st2,f2,x2,g2⟩:=Za2 (n:=n+7) (st:=st1) (l:=J+1) hcc (Zb1 hN (n:=n) (st:=st1) ht hm htm hJ hL hM hk (fun {st s} d {w} hw=>hR d hw))
 rw[Zm (YQ (Xa (xs:=[.str (gl NL (ZB N t m 0 J++[ln wl]++mo))]) f1 f2))];have E2:Ek st2 v1 π (Zi ρ 11 (.tup [.lst q,.bl true,.int ((J+1:Nat):Int)])):=(E.grw (x1.trans x2)).put (by decide) h11
 obtain⟨d3,st3,f3,x3,r3⟩:=ZO (e_3 (F:=Zf T (n+9)) hw h4) E2.e;cases r3 with
 |lst hz hj rs=>
  rename_i j ds;have ed:=Wu (ps:=duP (Ji w)) rfl rs;rw[<-hc]at ed;have ed:ds=Qq c:=ed;subst ed;rw[Zm (YQ f3)];have g3:=x3.get g2;obtain⟨ρ2,hρ2⟩:∃ ρ2,ρ2=Zi (Zi ρ 11 (.tup [.lst q,.bl true,.int ((J+1:Nat):Int)])) 12 (.lst j):=⟨_,rfl⟩;rw[<-hρ2];have l2:ρ2.length=13:=by rw[hρ2];unfold Zi;rw[bI];exact E2.l
  have a11:∀ {S:Za},ev (run T (n+9)) (.var 11) ρ2 S=some (.tup [.lst q,.bl true,.int ((J+1:Nat):Int)],S):=fun {S}=>by
   show ZV 11 ρ2 S=_;unfold ZV;rw[hρ2];unfold Zi;rw[aR (by decide),bN (by rw[E.l];decide)]
  have a12:∀ {S:Za},ev (run T (n+9)) (.var 12) ρ2 S=some (.lst j,S):=fun {S}=>by rw[hρ2];exact Zhq E2.l (by decide)
  have ix2:∀ {S:Za},ev (run T (n+9)) (.ix (.var 11) (.cst (.int 2))) ρ2 S=some (.int ((J+1:Nat):Int),S):=fun {S}=>by
   show Zz (ev (run T (n+9)) (.var 11)) (evC (.int 2)) ixR ρ2 S=_;unfold Zz;rw[a11];rfl
  obtain⟨st4,f4,x4⟩:=Wb (st:=st3) (n:=n+9) (Zeu (T:=T) (n:=n+8) (x:=((J+1:Nat):Int)) rfl) rfl (.cons (.int _) .nil);have g4:=x4.get g3;have j4:=x4.get hj;obtain⟨d5,st5,f5,x5,r5⟩:=ZO (π:=π) (n:=n+9) (st:=st4) (ρ:=ρ2) (e:=.bin .Add (.len (.var 8)) (.cst (.int 1))) (p:=.int ((J+1:Nat):Int)) (by
   rw[show((J+1:Nat):Int)=(J:Int)+1 by omega]
   refine Wf ?_ Z2;rw[UY,p8];show some (P.int (((ZB N t m 0 J).map P.str).length:Int))=_;rw[aF,gl8]) (fun i p hp=>by
    by_cases z:i=12
    ·rw[z,h12]at hp;cases hp
    ·obtain⟨d,a,b⟩:=(E2.grw (x3.trans x4)).e i p hp
     exact⟨d,by rw[hρ2];unfold Zi at a ⊢;rw[aR (Ne.symm z)];exact a,b⟩)
  cases r5;have hd:dEq st4 8 (.lst q) (.lst j)=true:=by
   show(match st4[q]? with
    |some c=>(match st4[j]? with
     |some d=>Jk (dEq st4 7) c.2 d.2
     |none=>false)
    |none=>false)=true
   rw[g4,j4];show Jk (dEq st4 7) (Qq c) (Qq c)=true;rcases hcc with rfl|rfl<;>rfl
  have c3:X6 .NotEq (.tup [.lst q,.bl true]) (.tup [.lst j,.bl true]) st4=some false:=by
   show(if dEq st4 8 (.lst q) (.lst j)=true/\true=true then some true else none).map not=_
   rw[if_pos ⟨hd,rfl⟩];rfl
  refine⟨ρ2,st5,?_,((((x1.trans x2).trans x3).trans x4).trans x5),l2,?_,?_⟩
  ·refine(Zm ((We (st':=st5) ?_).trans Zr)).trans Zr
   refine Jm (Ya a11 YX (k:=false) rfl) (Jm (Zam (k:=true) (Xa (xs:=[.int ((J+1:Nat):Int)]) (Zv ix2 Y9 (by decide)) f4)) (Jm (st1:=st4) (Ya (u:=.tup [.lst q,.bl true]) (w:=.tup [.lst j,.bl true]) (st1:=st4) ?_ (Zv a12 (Zv (st1:=st4) YX Y9 (by decide)) (show 1 < 1000 by decide)) c3) (Ya ix2 f5 (k:=false) ?_)))
   ·show JS (ev (run T (n+9)) (.var 11)) (evC .non) (Zo (evC (.int 2)) QM) Wc ρ2 st4=_
    unfold JS;rw[a11];rfl
   ·show some (!decide (((J+1:Nat):Int)=((J+1:Nat):Int)))=_
    rw[aW rfl];rfl
  ·rw[hρ2];unfold Zi;rw[aR (by decide),aR (by decide)];exact E.r0
  ·rw[hρ2];unfold Zi;rw[aR (by decide),aR (by decide)];exact E.r1
end
section
variable {n t m r J w i j:Nat}{st:Za}{π:ZH}{ρ:Env}{v1:D}{N:Nat->Str}{c:Int}{p:P}{F:PFn}{ns:Li Int}
theorem pv(h:π[i]?=some (some p)):pe F (.var i) π=some p:=by show YG i π=_;unfold YG;rw[h]
theorem YD(h:i≠j):(Ym π i p)[j]?=π[j]?:=aR h
theorem VR(h:i < π.length):(Ym π i p)[i]?=some (some p):=bN h
theorem VS:(Ym π i p).length=π.length:=bI
structure Kn(π:ZH)(N:Nat->Str)(w t m r:Nat)(c:Int):Prop where
 l:π.length=13
 h1:π[1]?=some (some (nlP N))
 h3:π[3]?=some (some (.int c))
 h4:π[4]?=some (some (.int (w:Int)))
 h5:π[5]?=some (some (.int (t:Int)))
 h6:π[6]?=some (some (.int (m:Int)))
 h7:π[7]?=some (some (.int (r:Int)))
 h11:π[11]?=some none
 h12:π[12]?=some none
theorem Kn.set(k:Kn π N w t m r c)(h:i=8\/i=9\/i=10):Kn (Ym π i p) N w t m r c:=by
 refine⟨by rw[VS];exact k.l,?_,?_,?_,?_,?_,?_,?_,?_⟩<;>rw[YD (by omega)]
 ·exact k.h1
 ·exact k.h3
 ·exact k.h4
 ·exact k.h5
 ·exact k.h6
 ·exact k.h7
 ·exact k.h11
 ·exact k.h12
def cD:CS:=.seq (.set 11 (.call 229 (.aC (.joinE (.cst (.str (S "\n"))) (.bin .Add (.bin .Add (.var 8) (.lstE (.aC (.var 9) .aN))) (.var 10))) .aN) []))
   (.seq (.set 12 (.bin .Add Z3 (.lstE (.aC (.cst (.bl false)) (.aC (.cst (.bl false)) .aN)))))
   (.seq (.ite (.or (.cmp .Is (.var 11) (.cst .non)) (.or (.not (.call 17 (.aC (.ix (.var 11) (.cst (.int 2))) .aN) [])) (.or (.cmp .NotEq (.slice (.var 11) .nop (.part (.cst (.int 2)))) (.tupE (.aC (.var 12) (.aC (.cst (.bl true)) .aN)))) (.cmp .NotEq (.ix (.var 11) (.cst (.int 2))) (.bin .Add (.len (.var 8)) (.cst (.int 1))))))) (.seq (.ret (.cst (.bl false)))
   .skip) .skip)
   .skip))
def eM:CE:=.ix (.lstE (.aC (.lstE .aN) (.aC (.lstE (.aC (.bin .Add (.cst (.str (S "name "))) (.ix (.var 1) (.bin .Mod (.var 6) (.cst (.int 7))))) .aN)) .aN))) (.intOf (.cmp .Eq (.var 4) (.cst (.int 9))))
theorem Zcw(hN:Nms N)(hm:m<=5)(k:Kn π N w t m r c):pe F eM π=some (.lst true ((if w=9 then [ln [S "name",N m]] else []).map P.str)):=by
 unfold eM;have nm:=hN.nm m (by omega)
 have a:Tx F π 60 (.ix (.var 1) (.bin .Mod (.var 6) (.cst (.int 7)))) (N m):=⟨by
  rw[pe_ix,pv k.h1,YK (pv k.h6) (by decide),Ob,Ob,show(m:Int) % 7=(m:Int) by omega]
  exact VD (by omega),nm.wd.len⟩
 have e:pe F (.cmp .Eq (.var 4) (.cst (.int 9))) π=some (.bl (decide ((w:Int)=9))):=by rw[Z1,pv k.h4,Z2];rfl
 rw[pe_ix,XQ,Zk,Zk,XQ,XQ,Zk,tx2 a (by decide +kernel),ZbC (k:=S "name") rfl,ZdI,e]
 by_cases z:w=9
 ·subst z
  rfl
 ·rw[if_neg z,aK (by omega)]
  rfl
def cC:CS:=.seq (.set 9 (.call 253 (.aC (.var 4) (.aC (.var 1) (.aC (.var 6) (.aC (.bin .FloorDiv (.var 3) (.cst (.int 1440))) .aN)))) []))
 (.seq (.ite (.cmp .Eq (.var 4) (.cst (.int 9))) (.seq (.set 9 (.bin .Add (.bin .Add (.cst (.str (S "put "))) (.ix (.var 1) (.var 6))) (.cst (.str (S " 1 + 1")))))
 (.seq (.set 8 (.slice (.var 8) .nop (.part (.var 6))))
 .skip)) .skip)
 (.seq (.set 10 eM) cD))
theorem Zgr(E:Ek st v1 π ρ)(k:Kn π N w t m r c)(hw:w < 12)(hN:Nms N)(s:Sz w t m r)(h1:w=1->1<=r)(h8:π[8]?=some (some (.lst true ((ZB N t m 0 (m+r)).map P.str)))):W st v1 (ex (run T (n+9)) cC ρ st):=by
 obtain⟨v,⟨wl,rfl,lw,rf⟩,ev⟩:=Zhf (n:=n+8) (n2:=n) (c:=c / 1440) hN hw s h1;unfold cC;refine X1 (p:=.str (ln wl)) ?_ E (by decide) (by decide) fun d st1 x1 E1=>?_
 ·rw[pe_call,Zk,Zk,Zk,Zk,pv k.h4,pv k.h1,pv k.h6,WU (pv k.h3) (by decide) (by decide)]
  exact ev
 have k1:Kn (Ym π 9 (.str (ln wl))) N w t m r c:=k.set (.inr (.inl rfl));have ce:pe (Zf T (n+9)) (.cmp .Eq (.var 4) (.cst (.int 9))) (Ym π 9 (.str (ln wl)))=some (.bl (decide ((w:Int)=9))):=by
  rw[Z1,pv k1.h4,Z2];rfl
 by_cases z:w=9
 ·subst z
  have hm:=s.w9 rfl;have nm:=hN.nm m (by omega)
  refine Zg8 ce E1 fun st2 x2 E2=>?_
  rw[J5];refine X1 (p:=.str (ln [S "put",N m,S "1",S "+",S "1"])) ?_ E2 (by decide) (by decide) fun d3 st3 x3 E3=>?_
  ·rw[tx3 (x:=N m) (e:=.ix (.var 1) (.var 6)) ⟨by rw[pe_ix,pv k1.h1,pv k1.h6];exact VD (by omega),nm.wd.len⟩ (by decide +kernel) (by decide +kernel),JA (k:=S "put") (ws:=[S "1",S "+",S "1"]) rfl rfl]
  have k3:Kn (Ym (Ym π 9 (.str (ln wl))) 9 (.str (ln [S "put",N m,S "1",S "+",S "1"]))) N 9 t m r c:=k1.set (.inr (.inl rfl));rw[J5];refine X1 (p:=.lst true ((ZB N t m 0 m).map P.str)) ?_ E3 (by decide) (by decide) fun d4 st4 x4 E4=>?_
  ·rw[pe_slice,show pe (Zf T (n+9)) (.var 8) (Ym (Ym π 9 (.str (ln wl))) 9 (.str (ln [S "put",N m,S "1",S "+",S "1"])))=some (.lst true ((ZB N t m 0 (m+r)).map P.str)) from pv (by rw[YD (by decide),YD (by decide)];exact h8),ZfO,pv k3.h6]
   show some (P.lst true (UG ((ZB N t m 0 (m+r)).map P.str) none (some (m:Int))))=_;have e:UG ((ZB N t m 0 (m+r)).map P.str) none (some (m:Int))=((ZB N t m 0 (m+r)).map P.str).take m:=by
    unfold UG;show(((ZB N t m 0 (m+r)).map P.str).drop 0).take ((if (m:Int) < 0 then ((m:Int)+(((ZB N t m 0 (m+r)).map P.str).length:Int)).toNat else Nat.min (m:Int).toNat ((ZB N t m 0 (m+r)).map P.str).length) - 0)=_
    rw[if_neg (by omega),bL,List.drop_zero,Nat.sub_zero,aF,YY,show Nat.min m (m+r)=m from bP (by omega)]
   rw[e,<-List.map_take,Zbr]
  have k4:=k3.set (i:=8) (p:=.lst true ((ZB N t m 0 m).map P.str)) (.inl rfl);show W st4 v1 (ex (run T (n+9)) (.seq (.set 10 eM) cD) _ st4);refine X1 (Zcw hN s.hm k4) E4 (by decide) (by decide) fun d5 st5 x5 E5=>?_
  refine ZaQ (c:=226) (mo:=[ln [S "name",N m]]) E5 hw rfl (by rw[YD (by decide)];exact k4.h4) (by rw[YD (by decide),VR (by rw[VS,VS,k.l];decide)]) (by rw[YD (by decide),YD (by decide),VR (by rw[VS,k.l];decide)]) (by rw[VR (by rw[k4.l];decide),if_pos rfl]) (by rw[YD (by decide)];exact k4.h11) (by rw[YD (by decide)];exact k4.h12) hN s.ht s.hm s.tm (by omega) (Zdn nm (by decide +kernel)) ?_ (aD 1) (Rfs.putN nm (by omega) fun i hi=>Zdt hN (aD m) (by omega) i (by rw[show Nat.min m m=m from Nat.min_self m]at hi;exact hi))
  intro x hx;rw[bW.mp hx];exact⟨_,Ve nm,rfl⟩
 ·rw[aK (by omega)]at ce
  refine Zks ce E1 fun st2 x2 E2=>?_
  refine X1 (Zcw hN s.hm k1) E2 (by decide) (by decide) fun d5 st5 x5 E5=>?_
  have hc:(if w=8 then 226 else 224)=Ji w:=by
   unfold Ji;by_cases y:w=8
   ·rw[if_pos y,if_pos (.inl y)]
   ·rw[if_neg y,if_neg (by omega)]
  exact ZaQ (c:=if w=8 then 226 else 224) (mo:=[]) E5 hw hc (by rw[YD (by decide)];exact k1.h4) (by rw[YD (by decide),YD (by decide)];exact h8) (by rw[YD (by decide),VR (by rw[k.l];decide)]) (by rw[VR (by rw[k1.l];decide),if_neg z]) (by rw[YD (by decide)];exact k1.h11) (by rw[YD (by decide)];exact k1.h12) hN s.ht s.hm s.tm (by have:=s.hr;omega) lw (fun x hx=>nomatch hx) (bT 1) (rf z)
def ppP(t m r:Nat):P:=.tup [.tup (tkP t),.int (m:Int),.tup (List.replicate r (.tup [.str (S "skip")]))]
theorem ZdN:toD (ppP t m r)=.tup [.tup (tkk t),.int (m:Int),.tup (List.replicate r skD)]:=by
 show D.tup [.tup (Va (tkP t)),.int (m:Int),.tup (Va (List.replicate r (.tup [.str (S "skip")])))]=_;rw[YE,YE,List.map_replicate];unfold tkP tkk;rw[aV];rfl
theorem Zim:pln (ppP t m r)=true:=by
 show(W8 (tkP t)&&(true&&(W8 (List.replicate r (.tup [.str (S "skip")]))&&true)))=true;rw[Yz fun q hq=>by obtain⟨a,_,rfl⟩:=bC.mp hq;rfl,Yz fun q hq=>by rw[eF hq];rfl]
 rfl
theorem UV{n:Nat}:∀ {ds:Li D},(∀ d∈ds,okD n d=true)->XB n ds=true
 |[],_=>rfl
 |d :: ds,h=>by
  show(okD n d&&XB n ds)=true;rw[h d Ls,UV fun q hq=>h q (Lm _ hq)];rfl
theorem Zj6:okD 8 (.tup [.tup (tkk t),.int (m:Int),.tup (List.replicate r skD)])=true:=by
 show(XB 6 (tkk t)&&(true&&(XB 6 (List.replicate r skD)&&true)))=true;rw[UV fun q hq=>by obtain⟨a,_,rfl⟩:=bC.mp hq;rfl,UV fun q hq=>by rw[eF hq];rfl]
 rfl
theorem ZfB{S:Za}(h:okD 8 (.tup ds)=true):X6 .NotEq (.tup ds) (.tup ds) S=some false:=by
 show(match (if okD 8 (.tup ds)&&okD 8 (.tup ds) then some (YW ds ds) else none) with
    |some k=>some k
    |none=>ZaK S ds ds).map not=some false
 rw[h,show YW ds ds=true from WD (x:=.tup ds) h];rfl
theorem Zj5{S:Za}:X6 .NotEq (toD (ppP t m r)) (toD (ppP t m r)) S=some false:=by
 rw[ZdN];exact ZfB Zj6
def cB:CS:=.seq (.set 8 YH)
 (.seq (.set 8 (.bin .Add (.bin .Add (.var 8) YI) (.bin .Mult (.lstE (.aC (.cst (.str (S "skip"))) .aN)) (.var 7))))
 (.seq (.ite (.cmp .NotEq (.call 248 (.aC (.joinE (.cst (.str (S "\n"))) (.var 8)) .aN) []) (.tupE (.aC (.tOf Yj) (.aC (.var 6) (.aC (.bin .Mult (.tupE (.aC (.tupE (.aC (.cst (.str (S "skip"))) .aN)) .aN)) (.var 7)) .aN))))) (.seq (.ret (.cst (.bl false)))
 .skip) .skip) cC))
theorem ZaP(E:Ek st v1 π ρ)(k:Kn π N w t m r c)(hw:w < 12)(hN:Nms N)(s:Sz w t m r)(h1:w=1->1<=r):W st v1 (ex (run T (n+9)) cB ρ st):=by
 have ht:=s.ht;have hm:=s.hm;have hr:=s.hr;unfold cB;refine X1 (e_0 hN s.ht k.h1 k.h5) E (by decide) (by decide) fun d1 st1 x1 E1=>?_
 have k1:=k.set (i:=8) (p:=.lst true (((List.range t).map fun i=>ln [S "take",N i,nu i,S "9"]).map P.str)) (.inl rfl)
 refine X1 (p:=.lst true ((ZB N t m 0 (m+r)).map P.str)) ?_ E1 (by decide) (by decide) fun d2 st2 x2 E2=>?_
 ·rw[<-ZcM s.tm,cA,cA,List.map_replicate]
  refine Zae (b1:=true) (b2:=true) (Zae (b1:=true) (b2:=true) (pv (VR (by rw[k.l];decide))) (e_1 hN s.tm s.hm k1.h1 k1.h5 k1.h6) ?_) ?_ ?_
  ·rw[aF,aF,aF,aF,bK,bK];omega
  ·rw[Yn,pv k1.h7]
   show(if (r:Int)<=1000/\-1000<=(r:Int) then some (P.lst true (List.replicate (r:Int).toNat (.str (S "skip")))) else none)=_
   rw[if_pos ⟨by omega,by omega⟩,bL]
  ·rw[aI,aF,aF,aF,aF,bK,bK,bQ];omega
 have k2:=k1.set (i:=8) (p:=.lst true ((ZB N t m 0 (m+r)).map P.str)) (.inl rfl);obtain⟨π2,hπ2⟩:∃ π2,π2=Ym (Ym π 8 (.lst true (((List.range t).map fun i=>ln [S "take",N i,nu i,S "9"]).map P.str))) 8 (.lst true ((ZB N t m 0 (m+r)).map P.str)):=⟨_,rfl⟩
 have h8:π2[8]?=some (some (.lst true ((ZB N t m 0 (m+r)).map P.str))):=by rw[hπ2,VR (by rw[VS,k.l];decide)]
 rw[<-hπ2]at k2 E2;generalize Zi (Zi ρ 8 d1) 8 d2=ρ2 at E2 ⊢;have gl8:=YY (N:=N) (t:=t) (m:=m) (m+r) 0;obtain⟨d3,st3,f3,x3,r3⟩:=ZO (Zdg (F:=Zf T (n+9)) (pv h8) (Xw hN s.ht s.hm s.tm (m+r) 0) (by omega)) E2.e
 cases XH (p:=.tup [.str (gl NL (ZB N t m 0 (m+r)))]) rfl r3
 obtain⟨st4,f4,x4⟩:=Zey (n:=n+7) (st:=st3) (Zhj hN (n:=n) (st:=st3) s.ht s.hm s.tm s.hr) (fun _=>rfl)
 rw[<-ZdN]at f4;have E4:=E2.grw (x3.trans x4);obtain⟨d5,st5,f5,x5,r5⟩:=ZO (n:=n+9) (e:=.tupE (.aC (.tOf Yj) (.aC (.var 6) (.aC (.bin .Mult (.tupE (.aC (.tupE (.aC (.cst (.str (S "skip"))) .aN)) .aN)) (.var 7)) .aN)))) (p:=ppP t m r) (by
  rw[Vh,Zk,Zk,Zk,JK,e_2 s.ht k2.h5,pv k2.h6,Yn,pv k2.h7];have e:W4 .Mult (.tup [.tup [.str (S "skip")]]) (.int (r:Int))=some (.tup (List.replicate r (.tup [.str (S "skip")]))):=by
   show(if (r:Int)<=1000/\-1000<=(r:Int) then some (P.tup (List.replicate (r:Int).toNat (.tup [.str (S "skip")]))) else none)=_
   rw[if_pos ⟨by omega,by omega⟩,bL]
  show(((some (P.lst true (tkP t))).bind U7).bind fun x=>((some (P.int (m:Int))).bind fun x=>((W4 .Mult (.tup [.tup [.str (S "skip")]]) (.int (r:Int))).bind fun x=>(some (P.tup [])).bind fun y=>V5 x y).bind fun y=>V5 x y).bind fun y=>V5 x y)=_
  rw[e];rfl) E4.e
 cases XH Zim r5
 have E5:=E4.grw x5;rw[Zm ((We (Ya (Xa (xs:=[.str (gl NL (ZB N t m 0 (m+r)))]) f3 f4) f5 Zj5)).trans Zr)];exact(Zgr E5 k2 hw hN s h1 h8).grw ((x3.trans x4).trans x5)
theorem Zj4:pe F (.bin .Pow (.cst (.int 10)) (.cst (.int 12))) π=some (.int 1000000000000):=by
 rw[Yn,Z2,Z2];rfl
theorem Vb{k:Nat}{a b:CE}(ha:pe (Zf T (n+9)) a π=some (.lst false (ns.map .int)))(hb:pe (Zf T (n+9)) b π=some (.int (k:Int)))(hk:k<=1000):pe (Zf T (n+9)) (.call 27 (.aC a (.aC b .aN)) []) π=some (.int (Wg ns k)):=(Zcf ha hb).trans (Zhb (n:=n+8) rfl (by omega))
def sE:Ot D:=none
theorem turn{k:Nat}(hk:k<=100)(hN:Nms N)(E:Ek st v1 [some (.lst false (ns.map .int)),some (nlP N),some (.int (k:Int)),none,none,none,none,none,none,none,none,none,none] ρ):W st v1 (ex (run T (n+9)) Zt ρ st):=by
 show W st v1 (ex (run T (n+9)) (.seq (.set 3 (.bin .Mod (.call 27 (.aC (.var 0) (.aC (.bin .Add (.var 2) (.cst (.int 1))) .aN)) []) (.bin .Pow (.cst (.int 10)) (.cst (.int 12)))))
  (.seq (.set 4 (.bin .Mod (.call 27 (.aC (.var 0) (.aC (.var 2) .aN)) []) (.cst (.int 12))))
  (.seq (.set3 5 6 7 (.call 252 (.aC (.var 4) (.aC (.var 3) .aN)) []))
  (.seq (.ite (.and (.cmp .Eq (.var 4) (.cst (.int 1))) (.cmp .Eq (.var 7) (.cst (.int 0)))) (.seq (.set 7 (.cst (.int 1))) .skip) .skip) cB)))) ρ st)
 obtain⟨c,hc⟩:∃ c,c=Wg ns (k+1) % 1000000000000:=⟨_,rfl⟩;refine X1 (p:=.int c) ?_ E (by decide) (by decide) fun d1 st1 x1 E1=>?_
 ·rw[hc]
  exact JF (Vb (k:=k+1) rfl (by rw[show((k+1:Nat):Int)=(k:Int)+1 by omega];exact Wf (v:=(k:Int)) rfl Z2) (by omega)) Zj4 (by decide)
 obtain⟨w,hw,hw12⟩:∃ w:Nat,Wg ns k % 12=(w:Int)/\w < 12:=⟨(Wg ns k % 12).toNat,by omega,by omega⟩
 refine X1 (p:=.int (w:Int)) ?_ E1 (by decide) (by decide) fun d2 st2 x2 E2=>?_
 ·rw[<-hw]
  exact YK (Vb (k:=k) rfl rfl (by omega)) (by decide)
 obtain⟨t,m,r,s,es⟩:=Zew (n:=n+8) (c:=c) hw12;refine ZiX (x:=(t:Int)) (y:=(m:Int)) (z:=(r:Int)) ?_ E2 fun st3 x3 E3=>?_
 ·exact(Zcf rfl rfl).trans es
 have ce:pe (Zf T (n+9)) (.and (.cmp .Eq (.var 4) (.cst (.int 1))) (.cmp .Eq (.var 7) (.cst (.int 0)))) [some (.lst false (ns.map .int)),some (nlP N),some (.int (k:Int)),some (.int c),some (.int (w:Int)),some (.int (t:Int)),some (.int (m:Int)),some (.int (r:Int)),none,none,none,none,none]=some (.bl (decide ((w:Int)=1)&&decide ((r:Int)=0))):=by
  rw[pe_and];show Yw (some (.bl (decide ((w:Int)=1)))) (some (.bl (decide ((r:Int)=0)))) _=_;cases decide ((w:Int)=1)<;>rfl
 cases q:(decide ((w:Int)=1)&&decide ((r:Int)=0)) with
 |true=>
  rw[q]at ce;obtain⟨q1,q2⟩:=bJ.mp q;have q1:=of_decide_eq_true q1;have q2:=of_decide_eq_true q2;have hw1:w=1:=by omega
  subst hw1;refine Zg8 (by exact ce) E3 fun st4 x4 E4=>?_
  rw[J5];refine X1 (p:=.int ((1:Nat):Int)) Z2 E4 (by decide) (by decide) fun d5 st5 x5 E5=>?_
  have s':Sz 1 t m 1:=by
   have a:=s.ht;have b:=s.hm;have d:=s.tm;have e:=s.w1;constructor<;>omega
  exact ZaP E5 ⟨rfl,rfl,rfl,rfl,rfl,rfl,rfl,rfl,rfl⟩ hw12 hN s' (fun _=>aD 1)
 |false=>
  rw[q]at ce;refine Zks (by exact ce) E3 fun st4 x4 E4=>?_
  refine ZaP E4 ⟨rfl,rfl,rfl,rfl,rfl,rfl,rfl,rfl,rfl⟩ hw12 hN s (fun h1=>?_)
  rcases dJ.mp q with q|q
  ·have:=of_decide_eq_false q;omega
  ·have:=of_decide_eq_false q;omega
theorem ZaD(hN:Nms N):∀ (xs:Li Int),(∀ x∈xs,0<=x/\x<=100)->∀ {ρ:Env}{st:Za},ρ.length=13->ρ[0]?=some (some (.lst 0))->ρ[1]?=some (some v1)->st[0]?=some (false,ns.map D.int)->Rel (Al st) st (nlP N) v1->W st v1 (Wp (fun d ρ s=>ex (run T (n+9)) Zt (Zi ρ 2 d) s) (xs.map .int) ρ st)
 |[],_,ρ,st,hl,h0,h1,_,_=>⟨ρ,st,rfl,Grw.refl,hl,h0,h1⟩
 |x :: xs,hx,ρ,st,hl,h0,h1,hs,hr=>by
  obtain⟨k,hk⟩:∃ k:Nat,x=(k:Int):=⟨x.toNat,by have:=(hx x Ls).1;omega⟩
  subst hk;have hk:=(hx _ Ls).2;have rs:Rel (Al st) st (.lst false (ns.map P.int)) (.lst 0):=.lst (Zs hs) hs (by
   have:ns.map D.int=Va (ns.map P.int):=by rw[YE,aV];rfl
   rw[this];exact XT (Yz fun q hq=>by obtain⟨a,_,rfl⟩:=bC.mp hq;rfl))
  have E:Ek st v1 [some (.lst false (ns.map .int)),some (nlP N),some (.int (k:Int)),none,none,none,none,none,none,none,none,none,none] (Zi ρ 2 (.int (k:Int))):=by
   have g0:(Zi ρ 2 (.int (k:Int)))[0]?=some (some (.lst 0)):=by unfold Zi;rw[aR (by decide)];exact h0
   have g1:(Zi ρ 2 (.int (k:Int)))[1]?=some (some v1):=by unfold Zi;rw[aR (by decide)];exact h1
   refine⟨fun i p hp=>?_,by unfold Zi;rw[bI];exact hl,g0,g1⟩
   match i,hp with
   |0,hp=>cases hp;exact⟨_,g0,rs⟩
   |1,hp=>cases hp;exact⟨_,g1,hr⟩
   |2,hp=>cases hp;exact⟨.int (k:Int),by unfold Zi;rw[bN (by omega)],.int _⟩
   |i+3,hp=>
    have hp:(List.replicate 10 (none:Ot P))[i]?=some (some p):=hp;rw[dP]at hp;split at hp<;>cases hp
  obtain⟨ρ1,st1,e1,x1,l1,a0,a1⟩:=turn (n:=n) (by omega) hN E
  obtain⟨ρ2,st2,e2,x2,l2,b0,b1⟩:=ZaD hN xs (fun y hy=>hx y (Lm _ hy)) l1 a0 a1 (x1.get hs) (UZ x1 hr)
  refine⟨ρ2,st2,?_,x1.trans x2,l2,b0,b1⟩;rw[aP];show(match ex (run T (n+9)) Zt (Zi ρ 2 (.int (k:Int))) st with
   |some (.nx ρ',st')=>Wp (fun d ρ s=>ex (run T (n+9)) Zt (Zi ρ 2 d) s) (xs.map .int) ρ' st'
   |some (.ct ρ',st')=>Wp (fun d ρ s=>ex (run T (n+9)) Zt (Zi ρ 2 d) s) (xs.map .int) ρ' st'
   |some (.bk ρ',st')=>some (.nx ρ',st')
   |some (.rt v,st')=>some (.rt v,st')
   |none=>none)=_
  rw[e1];exact e2
end
theorem Zbx{ns:Li Int}(hn:ns.length<=63):∃ st',run T (n+10) 16 [.lst 0] [(false,ns.map .int)]=some (.bl true,st'):=by
 have h0:([(false,ns.map D.int)]:Za)[0]?=some (false,ns.map D.int):=rfl;have rs:∀ {st:Za},st[0]?=some (false,ns.map D.int)->Rel (Al st) st (.lst false (ns.map P.int)) (.lst 0):=fun {st} h=>.lst (Zs h) h (by
  have:ns.map D.int=Va (ns.map P.int):=by rw[YE,aV];rfl
  rw[this];exact XT (Yz fun q hq=>by obtain⟨a,_,rfl⟩:=bC.mp hq;rfl))
 have E0:∀ {st:Za}{ρ:Env},st[0]?=some (false,ns.map D.int)->EnvAll (Al st) st [some (.lst false (ns.map P.int))] (some (.lst 0) :: ρ):=fun {st ρ} h=>EA.yes (rs h) EA.nil
 obtain⟨N,hN,eN⟩:=ZbX (n:=n+8) (c:=Wg ns 0) (d:=Wg ns 1);obtain⟨v1,st1,e1,x1,r1⟩:=ZO (n:=n+9) (st:=[(false,ns.map D.int)]) (e:=(.call 249 (.aC (.call 27 (.aC (.var 0) (.aC (.cst (.int 0)) .aN)) []) (.aC (.call 27 (.aC (.var 0) (.aC (.cst (.int 1)) .aN)) []) .aN)) [])) (π:=[some (.lst false (ns.map .int))]) (ρ:=[some (.lst 0),none,none,none,none,none,none,none,none,none,none,none,none]) (p:=nlP N) ((Zcf (Vb (k:=0) rfl Z2 (by decide)) (Vb (k:=1) rfl Z2 (by decide))).trans eN) (E0 h0)
 have h1:=x1.get h0;obtain⟨M,hM,hM2⟩:∃ M,M=mxI 4 (mnI (ns.length:Int) 42)/\4<=M/\M<=42:=⟨_,rfl,by unfold mxI mnI;split<;>split<;>omega,by unfold mxI mnI;split<;>split<;>omega⟩
 obtain⟨v2,st2,e2,x2,r2⟩:=ZO (n:=n+9) (st:=st1) (e:=(.aC (.cst (.int 2)) (.aC (.max (.cst (.int 4)) (.min (.len (.var 0)) (.cst (.int 42)))) (.aC (.cst (.int 2)) .aN)))) (π:=[some (.lst false (ns.map .int))]) (ρ:=[some (.lst 0),some v1,none,none,none,none,none,none,none,none,none,none,none]) (p:=.tup [.int 2,.int M,.int 2]) (by
  have el:pe (Zf T (n+9)) (.len (.var 0)) [some (.lst false (ns.map .int))]=some (.int (ns.length:Int)):=by
   show some (P.int ((ns.map P.int).length:Int))=_;rw[aF]
  rw[hM,Zk,Zk,Zii,Zij,el];rfl) (E0 h1)
 cases XH (p:=.tup [.int 2,.int M,.int 2]) rfl r2
 have h2:=x2.get h1;obtain⟨ρ3,st3,e3,x3,l3,a0,a1⟩:=ZaD (n:=n) (ns:=ns) hN (ZG 2 M 2) (fun x hx=>by
  unfold ZG at hx;obtain⟨i,hi,rfl⟩:=bC.mp hx;have hi:=bS.mp hi;unfold ZJ at hi;rw[if_pos (by decide),if_pos (by omega)]at hi
  omega) (ρ:=[some (.lst 0),some v1,none,none,none,none,none,none,none,none,none,none,none]) (st:=st2) rfl rfl rfl h2 (UZ x2 r1)
 refine⟨st3,Wt (d:=c_law_k16) rfl rfl ?_⟩;show ex (run T (n+9)) (.seq _ (.seq (.for3 2 _ Zt) (.seq _ .skip))) [some (.lst 0),none,none,none,none,none,none,none,none,none,none,none,none] _=_;rw[Zm (YQ e1)];show ex (run T (n+9)) (.seq (.for3 2 _ Zt) (.seq _ .skip)) [some (.lst 0),some v1,none,none,none,none,none,none,none,none,none,none,none] st1=_;have ef:ex (run T (n+9)) (.for3 2 (.aC (.cst (.int 2)) (.aC (.max (.cst (.int 4)) (.min (.len (.var 0)) (.cst (.int 42)))) (.aC (.cst (.int 2)) .aN))) Zt) [some (.lst 0),some v1,none,none,none,none,none,none,none,none,none,none,none] st1=some (.nx ρ3,st3):=by
  show Qu 2 (ev (run T (n+9)) _) (ex (run T (n+9)) Zt) _ st1=_;unfold Qu;rw[e2];have ei:UM (.tup [.int 2,.int M,.int 2])=some (ZG 2 M 2):=by
   show og (ZP 2 M 2=true) (some (ZG 2 M 2))=_;exact if_pos (aW ⟨⟨by decide,by decide⟩,⟨by omega,by omega⟩,.inr rfl⟩)
  show(match UM (.tup [.int 2,.int M,.int 2]) with
   |some xs=>Wp (fun d ρ s=>ex (run T (n+9)) Zt (Zi ρ 2 d) s) (xs.map .int) [some (.lst 0),some v1,none,none,none,none,none,none,none,none,none,none,none] st2
   |none=>none)=_
  rw[ei];exact e3
 rw[Zm ef];exact ZA (X2 rfl)
end Dp


namespace PySem.W.Fast
def tw12667548500130363083:=0
def tw6861333364623734562:=0
def tw2135041535476047798:=0
def tw11017740460029579447:=0
def tw16591429685739394449:=0
def tw18347729269536698631:=0
def tw9470947009644750743:=0
def tw18348668336457303209:=0
def tw14635524501412097508:=0
def tw17556716699199431131:=0
def tw4961581939483835632:=0
def tw15110174275228010700:=0
def tw18355990977712092151:=0
def tw9395846291693177069:=0
def tw10621946586395050359:=0
def tw4994276385437321589:=0
def tw7427886924956997521:=0
def tw12127241994360016402:=0
def tw4739997385004052849:=0
def tw13565088716636839448:=0
def tw18433595048918595283:=0
def tw14862748539497421029:=0
def tw17625077341428367810:=0
def tw4791826936460108934:=0
def tw15771382642587149201:=0
def tw1701445322768273896:=0
def tw2655474704226267312:=0
def tw4229204177636874398:=0
def tw14532651787407467795:=0
def tw1219908613439998660:=0
def tw6501189059029162605:=0
def tw3127373665545574853:=0
def tw7289675687393025246:=0
def tw13103544464419744799:=0
def tw5991696670584897923:=0
def tw2769629718449535819:=0
def tw10988317859254288413:=0
def tw13997107059307755334:=0
def tw330234179266532945:=0
def tw4709134593608395788:=0
def tw12653312691461111974:=0
def tw1000273936359149974:=0
def tw2421569892613778897:=0
def tw14919607429098944951:=0
def tw8996300561331506888:=0
def tw9363144884225207342:=0
def tw2276862759181338795:=0
def tw15450676967624004883:=0
def tw14226624743551122511:=0
def tw14369170943182829161:=0
def tw15569043416332372906:=0
def tw5789391234984146316:=0
def tw15815697500491103298:=0
def tw1373960262992122138:=0
def tw5996358420851564215:=0
def tw2090276416355523525:=0
def tw5661969272060857163:=0
def tw7878213380453198069:=0
def tw8188624162780683885:=0
def tw11082204417782156758:=0
def tw13924515332243201727:=0
def tw10467592347184416996:=0
def tw1810640205649098550:=0
def tw2965283627160013780:=0
def tw16651928349001487264:=0
def tw1262421152500100962:=0
def tw8651404212423823685:=0
def tw544170415733708625:=0
def tw1074258140451509255:=0
def tw5145047367966078540:=0
def tw7969640640884481958:=0
def tw15059168337010668945:=0
def tw11098732662678321978:=0
def tw372949163709562189:=0
def tw12759776545185856574:=0
def tw3350869019884581217:=0
def tw8881080658898928788:=0
def tw16324754448543081111:=0
def tw8853249106801677625:=0
def tw17214426972428404841:=0
def tw17099765676194836449:=0
def tw3325650520916703979:=0
def tw13945906818264484146:=0
def tw12079645709957499354:=0
def tw13408415824100331278:=0
def tw11298267915318244671:=0
def tw13233583640717988329:=0
def tw17822060173470238904:=0
def tw5300346125570555795:=0
def tw12736552167702732029:=0
def tw6156672008380566692:=0
def tw17435441126761455499:=0
def tw8337602450816518542:=0
def tw10674803492556554369:=0
def tw11586672200417813889:=0
def tw204805783353568142:=0
def tw14721150023922732164:=0
def tw18026397130558306964:=0
def tw7291699307511735454:=0
def tw5117477337743709942:=0
def tw7261118160563950855:=0
def tw2777923321113223657:=0
def tw5049248061221934892:=0
def tw17061811780598738977:=0
def tw608047071865527382:=0
def tw14352582097360035485:=0
def tw16708640446227714096:=0
def tw4041113322208313163:=0
def tw784760328669153142:=0
def tw5949307775353354056:=0
def tw14500795503898124271:=0
def tw16634077705504679842:=0
def tw11009460149088380224:=0
def tw8555280278295382354:=0
def tw2510410015207373210:=0
def tw6682978355215021091:=0
def tw15927240513717086551:=0
def tw132883520916040065:=0
def tw6983297574210010766:=0
def tw17272902049219992471:=0
def tw17745044269045270668:=0
def tw12559535294020510155:=0
def tw13391360737059873487:=0
def tw8184272700506139322:=0
def tw17922371164008386140:=0
def tw18300381914451810151:=0
def tw2919633987818319230:=0
def tw10809818358014587881:=0
def tw3897763030897836279:=0
def tw13421203296532779599:=0
def tw16880720550175029920:=0
def tw14498459458589824378:=0
def tw13540267244861253119:=0
def tw16607118414358039033:=0
def tw13660211995770103181:=0
def tw11910841064059754476:=0
def tw17368097562520830177:=0
def tw2808540644824237653:=0
def tw10838849990815804682:=0
def tw5080042464688108655:=0
def tw15659284222617317175:=0
def tw104304168353577141:=0
def tw12534249612867549363:=0
def tw13314523240831286880:=0
def tw8080085700049988309:=0
def tw14215882757854177009:=0
def tw7800092553859607970:=0
def tw18206424053133631594:=0
def tw12649904442339044872:=0
def tw15571758507513585654:=0
def tw1894160040146606798:=0
def tw9899138536397141655:=0
def tw6631835609922158431:=0
def tw12646630948242827867:=0
def tw6133497099742821841:=0
def tw6076728627252437662:=0
def tw12468902844950819147:=0
def tw7278062413049311243:=0
def tw9290202604573942360:=0
def tw8531957984377063311:=0
def tw17122382344684311877:=0
def tw4161637862461344191:=0
def tw9026526466609389205:=0
def tw6837293747151036347:=0
def tw5576401561824772382:=0
def tw8973401933524797133:=0
def tw11034118043822927556:=0
def tw11362827820960702831:=0
def tw12491204123343841709:=0
def tw15437473869948512381:=0
def tw3458930335583235687:=0
def tw16719604318718034832:=0
def tw14377380900550045488:=0
def tw11401455235365443317:=0
def tw10748382971263752288:=0
def tw16668904940739123159:=0
def tw9414321889830988618:=0
def tw7366657044113746608:=0
def tw13258009097968654821:=0
def tw2037507980355532056:=0
def tw6822894950310536373:=0
def tw12554873089075768872:=0
def tw5221926227513793387:=0
def tw15099328102006171223:=0
def tw5794119809175171617:=0
def tw11642136044937019814:=0
def tw7024879345247909641:=0
def tw10810105066127156674:=0
def tw4280066288499539299:=0
def tw1806109493654969780:=0
def tw206892666344749206:=0
def tw12775180894771215444:=0
def tw62219847726432967:=0
def tw15272018798912318545:=0
def tw12085600483006760443:=0
def tw4092236904027742378:=0
def tw8365916532304237189:=0
def tw16304878099461077828:=0
def tw12225166620821070237:=0
def tw2453985886737128032:=0
def tw2032191373133955974:=0
def tw4946352023603626998:=0
def tw12511573070140810876:=0
def tw10058384343963092592:=0
def tw17800005640746202299:=0
def tw9159734968588965234:=0
def tw2769026510551507606:=0
def tw497865630355983145:=0
def tw18046484186032528256:=0
def tw5711215037119602549:=0
def tw11711345033859364447:=0
def tw14834087212103757010:=0
def tw16302590313985842569:=0
def tw16037497726781290466:=0
end PySem.W.Fast
namespace Dp
open PySem L2
noncomputable def top(i:Nat):Stmt:=PySem.Challenge.pw_fakehunt_k16_faults_of_one_line.main.body.getD i (.Pass ⟨0,0,0,0⟩)
noncomputable def G:Gs:=[(S "HuntError",GV.exc 177 [224,226]),(S "TextError",GV.exc 222 [224,226]),(S "NoLine",GV.exc 224 [224]),(S "Twice",GV.exc 225 []),(S "NoName",GV.exc 226 [226]),(S "NoPlace",GV.exc 227 []),(S "TooWide",GV.exc 189 []),(S "TooMany",GV.exc 178 []),(S "Draft",GV.cls 237 [(S "__init__",238,1),(S "has_room",239,2),(S "read_line",240,3),(S "read_name",241,3),(S "read_row",242,3),(S "check_places",243,1),(S "told",244,1)] [237]),(S "HALF",GV.cst (.int 1000000000)),(S "RING",GV.cst (.int 2000000000)),(S "PUT_SIGNS",GV.cst (.kt [(S "+"),(S "-"),(S "*"),(S "/"),(S "mod")])),(S "IF_SIGNS",GV.cst (.kt [(S "<"),(S "<="),(S "="),(S ">="),(S ">"),(S "!=")])),(S "around",GV.fn 0 1 []),(S "LETTERS",GV.cst (.str (S "abcdefghijklmnopqrstuvwxyz"))),(S "FIGURES",GV.cst (.str (S "0123456789"))),(S "is_made_of",GV.fn 209 3 []),(S "is_name",GV.fn 210 1 []),(S "are_figures",GV.fn 211 2 []),(S "number_in",GV.fn 212 1 []),(S "place_in",GV.fn 213 1 []),(S "FORMS",GV.dct [(S "take"),(S "name"),(S "put"),(S "if"),(S "go"),(S "tell"),(S "skip")] [(.tup [(.str (S "name")),(.str (S "number")),(.str (S "number"))]),(.tup [(.str (S "name"))]),(.tup [(.str (S "name")),(.str (S "operand")),(.str (S "put sign")),(.str (S "operand"))]),(.tup [(.str (S "operand")),(.str (S "if sign")),(.str (S "operand")),(.str (S "go")),(.str (S "place"))]),(.tup [(.str (S "place"))]),(.tup [(.str (S "operand"))]),(.tup [])]),(S "MOST_TAKES",GV.cst (.int 3)),(S "MOST_NAMES",GV.cst (.int 5)),(S "MOST_ROWS",GV.cst (.int 12)),(S "fits",GV.fn 232 2 []),(S "is_line",GV.fn 233 1 []),(S "names_read",GV.fn 234 1 []),(S "operand_in",GV.fn 235 2 []),(S "row_of",GV.fn 236 2 []),(S "read",GV.fn 245 1 []),(S "_law_whole",GV.fn 17 1 []),(S "_law_cell_at",GV.fn 27 2 []),(S "_law_names",GV.fn 249 2 []),(S "_law_told",GV.fnq 230),(S "_law_refused",GV.fn 229 1 []),(S "_law_sizes",GV.fn 252 2 []),(S "_law_last",GV.fn 253 4 []),(S "_law_read",GV.fn 248 1 []),(S "law",GV.fn 16 1 []),(S "len",GV.blt),(S "range",GV.blt),(S "tuple",GV.blt),(S "list",GV.blt),(S "int",GV.blt),(S "bool",GV.blt),(S "str",GV.blt),(S "min",GV.blt),(S "max",GV.blt),(S "isinstance",GV.blt),(S "all",GV.blt),(S "any",GV.blt),(S "zip",GV.blt),(S "sorted",GV.blt),(S "enumerate",GV.blt),(S "set",GV.blt),(S "ValueError",GV.blt)]
noncomputable def Xj(i k:Nat):Stmt:=match top i with
 |.ClassDef _ _ _ b _ _ _ _ _ _ _=>b.getD k (.Pass ⟨0,0,0,0⟩)
 |s=>s
abbrev Cmp(i:Nat)(N ps:Li Str)(c:CS):Prop:=WA G (top i) N ps c
local macro_rules
 |`(tactic| trivial)=>`(tactic| exact⟨⟨rfl,rfl,rfl,by decide +kernel,rfl,by decide +kernel,by decide +kernel⟩,by unfold L2.Loc;decide +kernel,by kernel_rfl⟩)
theorem Zk7:Cmp 14 [S "number"] [S "number"] c_around.body:=by trivial
theorem Zk8:Cmp 18 [S "word",S "signs",S "most"] [S "word",S "signs",S "most"] c_is_made_of.body:=by trivial
theorem Zk9:Cmp 19 [S "word"] [S "word"] c_is_name.body:=by trivial
theorem Zla:Cmp 20 [S "word",S "most"] [S "word",S "most"] c_are_figures.body:=by trivial
theorem Zlb:Cmp 21 [S "word",S "figures",S "number"] [S "word"] c_number_in.body:=by trivial
theorem Zlc:Cmp 22 [S "word"] [S "word"] c_place_in.body:=by trivial
theorem Zld:Cmp 28 [S "word",S "kind"] [S "word",S "kind"] c_fits.body:=by trivial
theorem Zle:Cmp 29 [S "words",S "kinds"] [S "words"] c_is_line.body:=by trivial
theorem Zlf:Cmp 30 [S "words",S "names",S "word",S "kind"] [S "words"] c_names_read.body:=by trivial
theorem Zlg:Cmp 31 [S "word",S "names"] [S "word",S "names"] c_operand_in.body:=by trivial
theorem Zlh:Cmp 32 [S "words",S "names",S "things",S "word",S "kind"] [S "words",S "names"] c_row_of.body:=by trivial
theorem Zli:Cmp 34 [S "text",S "draft",S "line",S "signs"] [S "text"] c_read.body:=by trivial
theorem Zlj:Cmp 36 [S "_law_found"] [S "_law_found"] c__law_whole.body:=by trivial
theorem Zlk:Cmp 37 [S "_law_script",S "_law_k"] [S "_law_script",S "_law_k"] c__law_cell_at.body:=by trivial
theorem Zll:Cmp 38 [S "_law_cell",S "_law_more",S "_law_letters",S "_law_base",S "_law_at",S "_law_first"] [S "_law_cell",S "_law_more"] c__law_names.body:=by trivial
theorem Zlm:WA (Yb G) (top 39) [S "_law_e",S "_law_some"] [S "_law_e"] c__law_told_k16.body:=by trivial
theorem Zln:Cmp 40 [S "_law_some",S "_law_found",S "_law_e"] [S "_law_some"] c__law_refused.body:=by trivial
theorem Zlo:Cmp 41 [S "_law_way",S "_law_cell",S "_law_takes",S "_law_names_here",S "_law_rows"] [S "_law_way",S "_law_cell"] c__law_sizes.body:=by trivial
theorem Zlp:Cmp 42 [S "_law_way",S "_law_names_here",S "_law_many",S "_law_cell",S "_law_there",S "_law_odd"] [S "_law_way",S "_law_names_here",S "_law_many",S "_law_cell"] c__law_last.body:=by trivial
theorem Zlq:Cmp 43 [S "_law_some",S "_law_found"] [S "_law_some"] c__law_read.body:=by trivial
theorem Zj8:Cmp 44 [S "_law_script",S "_law_names_here",S "_law_k",S "_law_cell",S "_law_way",S "_law_takes",S "_law_many",S "_law_rows",S "_law_lines",S "_law_last_here",S "_law_more",S "_law_found",S "_law_due"] [S "_law_script"] c_law_k16.body:=by trivial
theorem Ziq:WA G (Xj 33 0) [S "self"] [S "self"] c_Draft___init__.body:=by trivial
theorem Zir:WA G (Xj 33 1) [S "self",S "word",S "ahead"] [S "self",S "word"] c_Draft_has_room.body:=by trivial
theorem Zis:WA G (Xj 33 2) [S "self",S "words",S "line"] [S "self",S "words",S "line"] c_Draft_read_line.body:=by trivial
theorem Zit:WA G (Xj 33 3) [S "self",S "words",S "line"] [S "self",S "words",S "line"] c_Draft_read_name.body:=by trivial
theorem Ziu:WA G (Xj 33 4) [S "self",S "words",S "line",S "name",S "row"] [S "self",S "words",S "line"] c_Draft_read_row.body:=by trivial
theorem Ziv:WA G (Xj 33 5) [S "self",S "line",S "place"] [S "self"] c_Draft_check_places.body:=by trivial
theorem Ziw:WA G (Xj 33 6) [S "self"] [S "self"] c_Draft_told.body:=by trivial
@[reducible] noncomputable def tab (l:Li (Nat×Ad)):ClsTab:=⟨fun i=>(l.lookup i).getD 0⟩
variable{C:Ad}{s:Stmt}
section
variable [ct:ClsTab]
section
variable {K:Fg}{mg:Str->Ot vL}
theorem ini:Zi2 (Xj 2 0) (S "self") (S "line"):=⟨⟨_,_,_,_,rfl⟩,⟨rfl,rfl,rfl,by decide +kernel,rfl,by decide +kernel,by decide +kernel⟩,⟨.inl rfl,.inl rfl⟩,⟨by decide,by decide⟩,⟨by decide,by decide⟩,fun _ _ _ _ _ _ _ _ _=>rfl⟩
theorem Zg0{i:Nat}(h:ClsTab.ca i=C)(x:XAt K "TextError.__init__" (Xj 2 0) C):∃ (fI:Ad) (fd:FuncData) (pn:Li Str),XCls K (ClsTab.ca i) fI "line"/\(∀ P w base,FnOk P w K mg base CX0 1 fI fd pn (spI (ClsTab.ca i) "line"))/\Binds K fd pn []:=by
 rw[h];exact x.ra ini
theorem Zcx{C1:Ad}{i:Nat}{y:Str}(h:ClsTab.ca i=C1)(a:PySem.W.exmOne K (.ref C1) (.ref C)=some true)(x:XAt K y s C1):∀ c∈[i],PySem.W.exmOne K (.ref (ClsTab.ca c)) (.ref C)=some true/\XG K (ClsTab.ca c):=fun c hc=>by
 cases bW.mp hc
 rw[h];exact⟨a,x.g⟩
theorem ZgI{C1 C2:Ad}{i j:Nat}{y:Str}(h1:ClsTab.ca i=C1)(h2:ClsTab.ca j=C2)(a:PySem.W.exmOne K (.ref C1) (.ref C)=some true)(b:PySem.W.exmOne K (.ref C2) (.ref C)=some true)(x:XAt K y s C1)(x':XAt K y s C2):∀ c∈[i,j],PySem.W.exmOne K (.ref (ClsTab.ca c)) (.ref C)=some true/\XG K (ClsTab.ca c):=fun c hc=>by
 rcases aM.mp hc with rfl|hc
 ·rw[h1]
  exact⟨a,x.g⟩
 ·exact Zcx h2 b x' c hc
end
theorem Zhn{Pm:Params}{K:Fg}{h:Heap}{mg:Str->Ot vL}{fa:Ad}(X:K.In h)(G0:h.Ns mainGlobals mg)(hfa:mg "law"=some (.ref fa)){C0:Ad}{C1:Ad}{C2:Ad}{C3:Ad}{C4:Ad}{C5:Ad}{C6:Ad}{C7:Ad}{C8:Ad}{t9:Tok}{t10:Tok}{A11:Ad}{ob11:Obj}{on11:Nat}{t11_0:Tok}{t11_1:Tok}{t11_2:Tok}{t11_3:Tok}{t11_4:Tok}{A12:Ad}{ob12:Obj}{on12:Nat}{t12_0:Tok}{t12_1:Tok}{t12_2:Tok}{t12_3:Tok}{t12_4:Tok}{t12_5:Tok}{t14:Tok}{t15:Tok}{A21:Ad}{ob21:Obj}{ep21:Nat}{t21_0:Tok}{B21_0:Ad}{bo21_0:Obj}{bn21_0:Nat}{u21_0_0:Tok}{u21_0_1:Tok}{u21_0_2:Tok}{t21_1:Tok}{B21_1:Ad}{bo21_1:Obj}{bn21_1:Nat}{u21_1_0:Tok}{t21_2:Tok}{B21_2:Ad}{bo21_2:Obj}{bn21_2:Nat}{u21_2_0:Tok}{u21_2_1:Tok}{u21_2_2:Tok}{u21_2_3:Tok}{t21_3:Tok}{B21_3:Ad}{bo21_3:Obj}{bn21_3:Nat}{u21_3_0:Tok}{u21_3_1:Tok}{u21_3_2:Tok}{u21_3_3:Tok}{u21_3_4:Tok}{t21_4:Tok}{B21_4:Ad}{bo21_4:Obj}{bn21_4:Nat}{u21_4_0:Tok}{t21_5:Tok}{B21_5:Ad}{bo21_5:Obj}{bn21_5:Nat}{u21_5_0:Tok}{t21_6:Tok}{B21_6:Ad}{bo21_6:Obj}{bn21_6:Nat}{t22:Tok}{t23:Tok}{t24:Tok}
(yz0:ClsTab.ca 177=C0) (yz1:ClsTab.ca 222=C1) (yz2:ClsTab.ca 224=C2) (yz3:ClsTab.ca 225=C3) (yz4:ClsTab.ca 226=C4) (yz5:ClsTab.ca 227=C5) (yz6:ClsTab.ca 189=C6) (yz7:ClsTab.ca 178=C7) (yz8:ClsTab.ca 237=C8)
  (y0:PySem.W.nsIn K mainGlobals "HuntError"=some (some (.ref C0))) (k0_0:PySem.W.kitOne K (.ref C2) (.ref C0)=some true) (x0_0:PySem.W.exmOne K (.ref C2) (.ref C0)=some true) (k0_1:PySem.W.kitOne K (.ref C4) (.ref C0)=some true) (x0_1:PySem.W.exmOne K (.ref C4) (.ref C0)=some true)
  (y1:PySem.W.nsIn K mainGlobals "TextError"=some (some (.ref C1))) (k1_0:PySem.W.kitOne K (.ref C2) (.ref C1)=some true) (x1_0:PySem.W.exmOne K (.ref C2) (.ref C1)=some true) (k1_1:PySem.W.kitOne K (.ref C4) (.ref C1)=some true) (x1_1:PySem.W.exmOne K (.ref C4) (.ref C1)=some true)
  (y2:PySem.W.nsIn K mainGlobals "NoLine"=some (some (.ref C2))) (k2_0:PySem.W.kitOne K (.ref C2) (.ref C2)=some true) (x2_0:PySem.W.exmOne K (.ref C2) (.ref C2)=some true) (k2_1:PySem.W.kitOne K (.ref C4) (.ref C2)=some false) (xa2:XAt K "TextError.__init__" (Xj 2 0) C2)
  (y3:PySem.W.nsIn K mainGlobals "Twice"=some (some (.ref C3))) (k3_0:PySem.W.kitOne K (.ref C2) (.ref C3)=some false) (k3_1:PySem.W.kitOne K (.ref C4) (.ref C3)=some false)
  (y4:PySem.W.nsIn K mainGlobals "NoName"=some (some (.ref C4))) (k4_0:PySem.W.kitOne K (.ref C2) (.ref C4)=some false) (k4_1:PySem.W.kitOne K (.ref C4) (.ref C4)=some true) (x4_1:PySem.W.exmOne K (.ref C4) (.ref C4)=some true) (xa4:XAt K "TextError.__init__" (Xj 2 0) C4)
  (y5:PySem.W.nsIn K mainGlobals "NoPlace"=some (some (.ref C5))) (k5_0:PySem.W.kitOne K (.ref C2) (.ref C5)=some false) (k5_1:PySem.W.kitOne K (.ref C4) (.ref C5)=some false)
  (y6:PySem.W.nsIn K mainGlobals "TooWide"=some (some (.ref C6))) (k6_0:PySem.W.kitOne K (.ref C2) (.ref C6)=some false) (k6_1:PySem.W.kitOne K (.ref C4) (.ref C6)=some false)
  (y7:PySem.W.nsIn K mainGlobals "TooMany"=some (some (.ref C7))) (k7_0:PySem.W.kitOne K (.ref C2) (.ref C7)=some false) (k7_1:PySem.W.kitOne K (.ref C4) (.ref C7)=some false)
  (y8:ClsAt K "Draft" C8) (w8_238:MtAt K C8 "__init__" "Draft.__init__" (Xj 33 0)) (w8_239:MtAt K C8 "has_room" "Draft.has_room" (Xj 33 1)) (w8_240:MtAt K C8 "read_line" "Draft.read_line" (Xj 33 2)) (w8_241:MtAt K C8 "read_name" "Draft.read_name" (Xj 33 3)) (w8_242:MtAt K C8 "read_row" "Draft.read_row" (Xj 33 4)) (w8_243:MtAt K C8 "check_places" "Draft.check_places" (Xj 33 5)) (w8_244:MtAt K C8 "told" "Draft.told" (Xj 33 6))
  (g9:PySem.W.nsIn K mainGlobals "HALF"=some (some (.int (1000000000) t9)))
  (g10:PySem.W.nsIn K mainGlobals "RING"=some (some (.int (2000000000) t10)))
  (g11:PySem.W.nsIn K mainGlobals "PUT_SIGNS"=some (some (.ref A11))) (d11:K.lookup A11=some ob11) (f11c:ob11.cls=.type "tuple") (f11d:ob11.dict=none) (e11:ob11.data=.seq #[.str "+" t11_0,.str "-" t11_1,.str "*" t11_2,.str "/" t11_3,.str "mod" t11_4] on11)
  (g12:PySem.W.nsIn K mainGlobals "IF_SIGNS"=some (some (.ref A12))) (d12:K.lookup A12=some ob12) (f12c:ob12.cls=.type "tuple") (f12d:ob12.dict=none) (e12:ob12.data=.seq #[.str "<" t12_0,.str "<=" t12_1,.str "=" t12_2,.str ">=" t12_3,.str ">" t12_4,.str "!=" t12_5] on12)
  (a13:FnAt K "around" (top 14))
  (g14:PySem.W.nsIn K mainGlobals "LETTERS"=some (some (.str (S "abcdefghijklmnopqrstuvwxyz") t14)))
  (g15:PySem.W.nsIn K mainGlobals "FIGURES"=some (some (.str (S "0123456789") t15)))
  (a16:FnAt K "is_made_of" (top 18))
  (a17:FnAt K "is_name" (top 19))
  (a18:FnAt K "are_figures" (top 20))
  (a19:FnAt K "number_in" (top 21))
  (a20:FnAt K "place_in" (top 22))
  (g21:PySem.W.nsIn K mainGlobals "FORMS"=some (some (.ref A21))) (d21:K.lookup A21=some ob21) (f21c:ob21.cls=.type "dict") (f21d:ob21.dict=none) (f21s:ob21.slots=#[]) (e21:ob21.data=.dict #[⟨PyData.keyHash Pm "take",.str "take" t21_0,.ref B21_0⟩,⟨PyData.keyHash Pm "name",.str "name" t21_1,.ref B21_1⟩,⟨PyData.keyHash Pm "put",.str "put" t21_2,.ref B21_2⟩,⟨PyData.keyHash Pm "if",.str "if" t21_3,.ref B21_3⟩,⟨PyData.keyHash Pm "go",.str "go" t21_4,.ref B21_4⟩,⟨PyData.keyHash Pm "tell",.str "tell" t21_5,.ref B21_5⟩,⟨PyData.keyHash Pm "skip",.str "skip" t21_6,.ref B21_6⟩] ep21) (s21:(A21==sysModules)=false)
  (h21_0:K.lookup B21_0=some bo21_0) (i21_0:bo21_0.cls=.type "tuple") (j21_0:bo21_0.data=.seq #[.str ("name") u21_0_0,.str ("number") u21_0_1,.str ("number") u21_0_2] bn21_0)
  (h21_1:K.lookup B21_1=some bo21_1) (i21_1:bo21_1.cls=.type "tuple") (j21_1:bo21_1.data=.seq #[.str ("name") u21_1_0] bn21_1)
  (h21_2:K.lookup B21_2=some bo21_2) (i21_2:bo21_2.cls=.type "tuple") (j21_2:bo21_2.data=.seq #[.str ("name") u21_2_0,.str ("operand") u21_2_1,.str ("put sign") u21_2_2,.str ("operand") u21_2_3] bn21_2)
  (h21_3:K.lookup B21_3=some bo21_3) (i21_3:bo21_3.cls=.type "tuple") (j21_3:bo21_3.data=.seq #[.str ("operand") u21_3_0,.str ("if sign") u21_3_1,.str ("operand") u21_3_2,.str ("go") u21_3_3,.str ("place") u21_3_4] bn21_3)
  (h21_4:K.lookup B21_4=some bo21_4) (i21_4:bo21_4.cls=.type "tuple") (j21_4:bo21_4.data=.seq #[.str ("place") u21_4_0] bn21_4)
  (h21_5:K.lookup B21_5=some bo21_5) (i21_5:bo21_5.cls=.type "tuple") (j21_5:bo21_5.data=.seq #[.str ("operand") u21_5_0] bn21_5)
  (h21_6:K.lookup B21_6=some bo21_6) (i21_6:bo21_6.cls=.type "tuple") (j21_6:bo21_6.data=.seq #[] bn21_6)
  (g22:PySem.W.nsIn K mainGlobals "MOST_TAKES"=some (some (.int (3) t22)))
  (g23:PySem.W.nsIn K mainGlobals "MOST_NAMES"=some (some (.int (5) t23)))
  (g24:PySem.W.nsIn K mainGlobals "MOST_ROWS"=some (some (.int (12) t24)))
  (a25:FnAt K "fits" (top 28))
  (a26:FnAt K "is_line" (top 29))
  (a27:FnAt K "names_read" (top 30))
  (a28:FnAt K "operand_in" (top 31))
  (a29:FnAt K "row_of" (top 32))
  (a30:FnAt K "read" (top 34))
  (a31:FnAt K "_law_whole" (top 36))
  (a32:FnAt K "_law_cell_at" (top 37))
  (a33:FnAt K "_law_names" (top 38))
  (a34:FnAt K "_law_told" (top 39))
  (a35:FnAt K "_law_refused" (top 40))
  (a36:FnAt K "_law_sizes" (top 41))
  (a37:FnAt K "_law_last" (top 42))
  (a38:FnAt K "_law_read" (top 43))
  (a39:FnAt K "law" (top 44))
  (z40:PySem.W.nsIn K mainGlobals "len"=some none)
  (z41:PySem.W.nsIn K mainGlobals "range"=some none)
  (z42:PySem.W.nsIn K mainGlobals "tuple"=some none)
  (z43:PySem.W.nsIn K mainGlobals "list"=some none)
  (z44:PySem.W.nsIn K mainGlobals "int"=some none)
  (z45:PySem.W.nsIn K mainGlobals "bool"=some none)
  (z46:PySem.W.nsIn K mainGlobals "str"=some none)
  (z47:PySem.W.nsIn K mainGlobals "min"=some none)
  (z48:PySem.W.nsIn K mainGlobals "max"=some none)
  (z49:PySem.W.nsIn K mainGlobals "isinstance"=some none)
  (z50:PySem.W.nsIn K mainGlobals "all"=some none)
  (z51:PySem.W.nsIn K mainGlobals "any"=some none)
  (z52:PySem.W.nsIn K mainGlobals "zip"=some none)
  (z53:PySem.W.nsIn K mainGlobals "sorted"=some none)
  (z54:PySem.W.nsIn K mainGlobals "enumerate"=some none)
  (z55:PySem.W.nsIn K mainGlobals "set"=some none)
  (z56:PySem.W.nsIn K mainGlobals "ValueError"=some none) :
  Text Pm K mg G T/\∃ (fd:FuncData) (N:Li Str),(∀ (s:Sd) (u:vL),BindsTo s fd ⟨[u],[]⟩ [(S "_law_script",u)])/\DefOk K mg G T "law" 16 [] fa fd [S "_law_script"] N:=by
 exact⟨Zgt (gX X G0 yz0 yz2 yz4 y0 k0_0 k0_1 (ZgI yz2 yz4 x0_0 x0_1 xa2 xa4) (fun h=>absurd h (by decide)) (gX X G0 yz1 yz2 yz4 y1 k1_0 k1_1 (ZgI yz2 yz4 x1_0 x1_1 xa2 xa4) (fun h=>absurd h (by decide)) (gX X G0 yz2 yz2 yz4 y2 k2_0 k2_1 (Zcx yz2 x2_0 xa2) (fun _=>Zg0 yz2 xa2) (gX X G0 yz3 yz2 yz4 y3 k3_0 k3_1 (fun _ h=>nomatch h) (fun h=>absurd h (by decide)) (gX X G0 yz4 yz2 yz4 y4 k4_0 k4_1 (Zcx yz4 x4_1 xa4) (fun _=>Zg0 yz4 xa4) (gX X G0 yz5 yz2 yz4 y5 k5_0 k5_1 (fun _ h=>nomatch h) (fun h=>absurd h (by decide)) (gX X G0 yz6 yz2 yz4 y6 k6_0 k6_1 (fun _ h=>nomatch h) (fun h=>absurd h (by decide)) (gX X G0 yz7 yz2 yz4 y7 k7_0 k7_1 (fun _ h=>nomatch h) (fun h=>absurd h (by decide)) (gC X G0 yz8 y8 (gM w8_238 Ziq rfl (gM w8_239 Zir rfl (gM w8_240 Zis rfl (gM w8_241 Zit rfl (gM w8_242 Ziu rfl (gM w8_243 Ziv rfl (gM w8_244 Ziw rfl trivial))))))) (gI X G0 g9 (gI X G0 g10 (⟨⟨.ref A11,.ref A11,PySem.W.mg_of X G0 g11,rfl,fun _ _=>.kt (its:=#[.str "+" t11_0,.str "-" t11_1,.str "*" t11_2,.str "/" t11_3,.str "mod" t11_4]) d11 f11c f11d e11 (show(5:Nat)<=sizeLine by decide) (.cons ⟨_,rfl⟩ (.cons ⟨_,rfl⟩ (.cons ⟨_,rfl⟩ (.cons ⟨_,rfl⟩ (.cons ⟨_,rfl⟩ (.nil))))))⟩,⟨⟨.ref A12,.ref A12,PySem.W.mg_of X G0 g12,rfl,fun _ _=>.kt (its:=#[.str "<" t12_0,.str "<=" t12_1,.str "=" t12_2,.str ">=" t12_3,.str ">" t12_4,.str "!=" t12_5]) d12 f12c f12d e12 (show(6:Nat)<=sizeLine by decide) (.cons ⟨_,rfl⟩ (.cons ⟨_,rfl⟩ (.cons ⟨_,rfl⟩ (.cons ⟨_,rfl⟩ (.cons ⟨_,rfl⟩ (.cons ⟨_,rfl⟩ (.nil)))))))⟩,gD X G0 a13 Zk7 rfl (⟨⟨_,_,PySem.W.mg_of X G0 g14,(show RelV (.str _) _ from⟨_,rfl⟩),fun _ _=>.str _⟩,⟨⟨_,_,PySem.W.mg_of X G0 g15,(show RelV (.str _) _ from⟨_,rfl⟩),fun _ _=>.str _⟩,gD X G0 a16 Zk8 rfl (gD X G0 a17 Zk9 rfl (gD X G0 a18 Zla rfl (gD X G0 a19 Zlb rfl (gD X G0 a20 Zlc rfl (⟨⟨A21,ob21,#[⟨PyData.keyHash Pm "take",.str "take" t21_0,.ref B21_0⟩,⟨PyData.keyHash Pm "name",.str "name" t21_1,.ref B21_1⟩,⟨PyData.keyHash Pm "put",.str "put" t21_2,.ref B21_2⟩,⟨PyData.keyHash Pm "if",.str "if" t21_3,.ref B21_3⟩,⟨PyData.keyHash Pm "go",.str "go" t21_4,.ref B21_4⟩,⟨PyData.keyHash Pm "tell",.str "tell" t21_5,.ref B21_5⟩,⟨PyData.keyHash Pm "skip",.str "skip" t21_6,.ref B21_6⟩],ep21,PySem.W.mg_of X G0 g21,d21,⟨f21c,f21d,f21s⟩,e21,s21,(by simp),(show EsOk Pm K [⟨PyData.keyHash Pm "take",.str "take" t21_0,.ref B21_0⟩,⟨PyData.keyHash Pm "name",.str "name" t21_1,.ref B21_1⟩,⟨PyData.keyHash Pm "put",.str "put" t21_2,.ref B21_2⟩,⟨PyData.keyHash Pm "if",.str "if" t21_3,.ref B21_3⟩,⟨PyData.keyHash Pm "go",.str "go" t21_4,.ref B21_4⟩,⟨PyData.keyHash Pm "tell",.str "tell" t21_5,.ref B21_5⟩,⟨PyData.keyHash Pm "skip",.str "skip" t21_6,.ref B21_6⟩] _ _ from .cons (v:=.ref B21_0) (t:=t21_0) rfl rfl (show RelV (.ref B21_0) (.ref B21_0) from rfl) (fun _ _=>.tup (xs:=[.str ("name"),.str ("number"),.str ("number")]) (.inr ⟨bo21_0,#[.str ("name") u21_0_0,.str ("number") u21_0_1,.str ("number") u21_0_2],bn21_0,h21_0,i21_0,j21_0,(show(3:Nat)<=sizeLine by decide),.cons ⟨_,rfl⟩ (.cons ⟨_,rfl⟩ (.cons ⟨_,rfl⟩ (.nil)))⟩) (.cons (.str _) (.cons (.str _) (.cons (.str _) (.nil))))) (.cons (v:=.ref B21_1) (t:=t21_1) rfl rfl (show RelV (.ref B21_1) (.ref B21_1) from rfl) (fun _ _=>.tup (xs:=[.str ("name")]) (.inr ⟨bo21_1,#[.str ("name") u21_1_0],bn21_1,h21_1,i21_1,j21_1,(show(1:Nat)<=sizeLine by decide),.cons ⟨_,rfl⟩ (.nil)⟩) (.cons (.str _) (.nil))) (.cons (v:=.ref B21_2) (t:=t21_2) rfl rfl (show RelV (.ref B21_2) (.ref B21_2) from rfl) (fun _ _=>.tup (xs:=[.str ("name"),.str ("operand"),.str ("put sign"),.str ("operand")]) (.inr ⟨bo21_2,#[.str ("name") u21_2_0,.str ("operand") u21_2_1,.str ("put sign") u21_2_2,.str ("operand") u21_2_3],bn21_2,h21_2,i21_2,j21_2,(show(4:Nat)<=sizeLine by decide),.cons ⟨_,rfl⟩ (.cons ⟨_,rfl⟩ (.cons ⟨_,rfl⟩ (.cons ⟨_,rfl⟩ (.nil))))⟩) (.cons (.str _) (.cons (.str _) (.cons (.str _) (.cons (.str _) (.nil)))))) (.cons (v:=.ref B21_3) (t:=t21_3) rfl rfl (show RelV (.ref B21_3) (.ref B21_3) from rfl) (fun _ _=>.tup (xs:=[.str ("operand"),.str ("if sign"),.str ("operand"),.str ("go"),.str ("place")]) (.inr ⟨bo21_3,#[.str ("operand") u21_3_0,.str ("if sign") u21_3_1,.str ("operand") u21_3_2,.str ("go") u21_3_3,.str ("place") u21_3_4],bn21_3,h21_3,i21_3,j21_3,(show(5:Nat)<=sizeLine by decide),.cons ⟨_,rfl⟩ (.cons ⟨_,rfl⟩ (.cons ⟨_,rfl⟩ (.cons ⟨_,rfl⟩ (.cons ⟨_,rfl⟩ (.nil)))))⟩) (.cons (.str _) (.cons (.str _) (.cons (.str _) (.cons (.str _) (.cons (.str _) (.nil))))))) (.cons (v:=.ref B21_4) (t:=t21_4) rfl rfl (show RelV (.ref B21_4) (.ref B21_4) from rfl) (fun _ _=>.tup (xs:=[.str ("place")]) (.inr ⟨bo21_4,#[.str ("place") u21_4_0],bn21_4,h21_4,i21_4,j21_4,(show(1:Nat)<=sizeLine by decide),.cons ⟨_,rfl⟩ (.nil)⟩) (.cons (.str _) (.nil))) (.cons (v:=.ref B21_5) (t:=t21_5) rfl rfl (show RelV (.ref B21_5) (.ref B21_5) from rfl) (fun _ _=>.tup (xs:=[.str ("operand")]) (.inr ⟨bo21_5,#[.str ("operand") u21_5_0],bn21_5,h21_5,i21_5,j21_5,(show(1:Nat)<=sizeLine by decide),.cons ⟨_,rfl⟩ (.nil)⟩) (.cons (.str _) (.nil))) (.cons (v:=.ref B21_6) (t:=t21_6) rfl rfl (show RelV (.ref B21_6) (.ref B21_6) from rfl) (fun _ _=>.tup (xs:=[]) (.inr ⟨bo21_6,#[],bn21_6,h21_6,i21_6,j21_6,(show(0:Nat)<=sizeLine by decide),.nil⟩) (.nil)) (.nil))))))))⟩,gI X G0 g22 (gI X G0 g23 (gI X G0 g24 (gD X G0 a25 Zld rfl (gD X G0 a26 Zle rfl (gD X G0 a27 Zlf rfl (gD X G0 a28 Zlg rfl (gD X G0 a29 Zlh rfl (gD X G0 a30 Zli rfl (gD X G0 a31 Zlj rfl (gD X G0 a32 Zlk rfl (gD X G0 a33 Zll rfl (gQ X G0 a34 Zlm rfl rfl (fun _ _ _ _ _ _ _=>rfl) (gD X G0 a35 Zln rfl (gD X G0 a36 Zlo rfl (gD X G0 a37 Zlp rfl (gD X G0 a38 Zlq rfl (gD X G0 a39 Zj8 rfl (gB X G0 z40 (gB X G0 z41 (gB X G0 z42 (gB X G0 z43 (gB X G0 z44 (gB X G0 z45 (gB X G0 z46 (gB X G0 z47 (gB X G0 z48 (gB X G0 z49 (gB X G0 z50 (gB X G0 z51 (gB X G0 z52 (gB X G0 z53 (gB X G0 z54 (gB X G0 z55 (gB X G0 z56 (trivial)))))))))))))))))))))))))))))))))))⟩)))))⟩⟩)⟩⟩)))))))))))),gL X G0 hfa a39 Zj8 rfl fun _ _ _ _ _ _ _=>rfl⟩
theorem ZfD:∀ n,Y7 G (run T n):=fun _=>Zaj
theorem Zdv:∀ n,Y7 (Yb G) (run T n):=fun _=>Zaj
end
end Dp
open PySem PySem.W PyProof.Rows
set_option maxRecDepth 100000 in
set_option maxHeartbeats 0 in
theorem PySem.Challenge.cw_fakehunt_k16_faults_of_one_line_holds : PySem.Challenge.rw_fakehunt_k16_faults_of_one_line.Holds := by
 w_on;o_law;k_head;(case hw=>w_witness2)
 k_fill
 refine Dp.Zby (l:=PySem.Challenge.rw_fakehunt_k16_faults_of_one_line) (G:=Dp.G) (T:=Dp.T) (n:=10) (i:=16) (x := "_law_script") rfl rfl ⟨fun _=>rfl,by decide,by decide⟩ (fun w h Y=>PySem.W.kIn_of Y) Dp.ZfD Dp.Zdv (by decide +kernel) ?F (fun ns hn=>Dp.Zbx hn)
 case F=>
  intro w mg fa h KX G0 hmg;refine' ⟨Dp.tab [(177,?C0),(222,?C1),(224,?C2),(225,?C3),(226,?C4),(227,?C5),(189,?C6),(178,?C7),(237,?C8)],Dp.Zhn (ct:=Dp.tab [(177,?C0),(222,?C1),(224,?C2),(225,?C3),(226,?C4),(227,?C5),(189,?C6),(178,?C7),(237,?C8)]) (Pm:=w.params) (C0:=?C0) (C1:=?C1) (C2:=?C2) (C3:=?C3) (C4:=?C4) (C5:=?C5) (C6:=?C6) (C7:=?C7) (C8:=?C8) KX G0 hmg ?z0 ?z1 ?z2 ?z3 ?z4 ?z5 ?z6 ?z7 ?z8 ?_ ?_ ?_ ?_ ?_ ?_ ?_ ?_ ?_ ?_ ?_ ?_ ?_ ?_ (.mk ?_ ?_ ?_ ?_ ?_ ?_ ?_ ?_ ?_ ?_ ?_ ?_ ?_ ?_ ?_ ?_) ?_ ?_ ?_ ?_ ?_ ?_ ?_ (.mk ?_ ?_ ?_ ?_ ?_ ?_ ?_ ?_ ?_ ?_ ?_ ?_ ?_ ?_ ?_ ?_) ?_ ?_ ?_ ?_ ?_ ?_ ?_ ?_ ?_ ⟨?_,?_,?_,?_,?_,?_,?_,?_,?_,?_,?_⟩ (.mk ?_ ?_ ?_ ?_ ?_) (.mk ?_ ?_ ?_ ?_ ?_) (.mk ?_ ?_ ?_ ?_ ?_) (.mk ?_ ?_ ?_ ?_ ?_) (.mk ?_ ?_ ?_ ?_ ?_) (.mk ?_ ?_ ?_ ?_ ?_) (.mk ?_ ?_ ?_ ?_ ?_) ?_ ?_ ?_ ?_ ?_ ?_ ?_ ?_ ?_ ?_ ?_ ?_ (.mk ?_ ?_ ?_ ?_) ?_ ?_ (.mk ?_ ?_ ?_ ?_) (.mk ?_ ?_ ?_ ?_) (.mk ?_ ?_ ?_ ?_) (.mk ?_ ?_ ?_ ?_) (.mk ?_ ?_ ?_ ?_) ?_ ?_ ?_ ?_ ?_ ?_ ?_ ?_ ?_ ?_ ?_ ?_ ?_ ?_ ?_ ?_ ?_ ?_ ?_ ?_ ?_ ?_ ?_ ?_ ?_ ?_ ?_ ?_ ?_ ?_ ?_ (.mk ?_ ?_ ?_ ?_) (.mk ?_ ?_ ?_ ?_) (.mk ?_ ?_ ?_ ?_) (.mk ?_ ?_ ?_ ?_) (.mk ?_ ?_ ?_ ?_) (.mk ?_ ?_ ?_ ?_) (.mk ?_ ?_ ?_ ?_) (.mk ?_ ?_ ?_ ?_) (.mk ?_ ?_ ?_ ?_) (.mk ?_ ?_ ?_ ?_) (.mk ?_ ?_ ?_ ?_) (.mk ?_ ?_ ?_ ?_) (.mk ?_ ?_ ?_ ?_) (.mk ?_ ?_ ?_ ?_) (.mk ?_ ?_ ?_ ?_) ?_ ?_ ?_ ?_ ?_ ?_ ?_ ?_ ?_ ?_ ?_ ?_ ?_ ?_ ?_ ?_ ?_⟩
  all_goals (first|k_is|exact rfl|skip)
  all_goals (first|k_is|exact rfl|skip)

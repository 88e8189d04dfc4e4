import PyProof.Rows.All
import Wide.All
import OpenK.AllK
import Wide.FinOn
import Lean
import PyProof.EqAt
import PyProof.EqKinds
import PyProof.TupleCall
import PySem.Challenge.RW_fakehunt_k14_refused_lines
set_option Elab.async false
set_option linter.all false
set_option maxRecDepth 100000
set_option maxHeartbeats 4000000
set_option genSizeOf false
def aE:=@Nat.le_refl
def aF:=@decide_eq_true
def aG:=@List.mem_cons
def aH:=@Nat.le_trans
def aJ:=@List.length_map
def aK:=@List.length_append
def aL:=@decide_eq_false
def aM:=@List.append_assoc
def aP:=@List.append_nil
def aQ:=@Nat.lt_of_lt_of_le
def aR:=@List.length_cons
def aS:=@List.mem_append
def aT:=@List.map_cons
def aU:=@List.getElem?_map
def aV:=@List.mem_of_getElem?
def aW:=@Option.bind_eq_some_iff
def aX:=@Bool.and_eq_true_iff
def aY:=@List.size_toArray
def aZ:=@Nat.ne_of_lt
def bB:=@List.not_mem_nil
def bC:=@List.mem_map
def bE:=@decide_eq_true_eq
def bF:=@List.length_take
def bG:=@List.mem_singleton
def bH:=@Nat.zero_le
def bI:=@List.map_map
def bJ:=@Int.toNat_of_nonneg
def bK:=@List.all_cons
def bL:=@List.lookup_cons
def bM:=@Nat.lt_irrefl
def bN:=@List.getElem?_eq_some_iff
def bO:=@Array.length_toList
def bP:=@List.all_eq_true
def bQ:=@beq_eq_false_iff_ne
def bR:=@List.take_of_length_le
def bS:=@Int.toNat_natCast
def bT:=@Nat.min_eq_left
def bU:=@List.getElem?_append_left
def bV:=@List.getElem?_append_right
def bW:=@List.contains_cons
def bX:=@List.length_range
def bY:=@Bool.and_true
def bZ:=@List.mem_append_right
def cA:=@List.length_drop
def cB:=@List.getElem_mem
def cC:=@List.contains_iff_mem
def cD:=@List.map_append
def cG:=@List.getElem?_set_self
def cH:=@List.getElem?_set_ne
def cJ:=@List.nodup_cons
def cK:=@Bool.or_true
def cL:=@List.any_cons
def cM:=@List.length_set
def cN:=@List.drop_eq_getElem_cons
def cP:=@List.mem_filter
def cQ:=@List.mem_range
def cR:=@Bool.eq_iff_iff
def cU:=@Nat.le_of_eq
def cV:=@List.length_replicate
def cW:=@Bool.or_false
def cX:=@List.replicate_succ
def cY:=@List.getElem?_eq_none
def cZ:=@Nat.zero_add
def dA:=@List.length_zip
def dB:=@Nat.min_eq_right
def dC:=@List.of_mem_zip
def dD:=@List.cons_ne_nil
def dE:=@List.drop_eq_nil_of_le
def dF:=@Bool.not_eq_true'
def dG:=@Bool.or_eq_true
def dH:=@List.getElem?_toArray
def dI:=@List.getD_eq_getElem?_getD
def dJ:=@List.mem_append_left
def dL:=@Bool.false_and
def dM:=@List.flatten_cons
def dN:=@List.length_nil
def dO:=@List.drop_zero
def dP:=@Nat.le_add_right
def dQ:=@List.getElem?_range
def dR:=@List.take_length
def dS:=@List.getElem?_take
def dU:=@List.filterMap_cons
def dW:=@List.mem_filterMap
def dX:=@Nat.le_of_not_lt
def dY:=@List.find?_cons
def dZ:=@Array.getElem?_setIfInBounds
def eA:=@Option.map_eq_some_iff
def eB:=@List.find?_cons_of_neg
def eC:=@List.length_eq_zero_iff
def eD:=@List.forIn_cons
def eE:=@List.flatMap_cons
def eF:=@List.mem_of_mem_take
def eG:=@Bool.decide_and
def eI:=@List.getElem?_replicate
def eJ:=@List.length_singleton
def eK:=@List.find?_cons_of_pos
def eL:=@List.getElem?_cons_succ
section
open PySem PySem.Spec PyProof.Rows
def aA:=@wpAny_bind
def aD:=@wpAny_pure
def aI:=@Heap.lt_size
def aO:=@Heap.get?_push_of_some
def bA:=@Heap.get?_push_size
def bD:=@wpAny_mono
end
abbrev Li.{u}(α:Type u):Type u:=List α
abbrev Ot.{u}(α:Type u):Type u:=Option α
abbrev vL:=PySem.Value
abbrev Ad:=PySem.Addr
abbrev sH7:=PySem.Shared
theorem Ob{α β:Type}{a:α}{f:α->Ot β}:(some a).bind f=f a:=rfl
abbrev Fg:=PySem.W.Frag
theorem Ba(a b:Bool):((a&&b)=true)=(a=true/\b=true):=Bool.and_eq_true a b
theorem Lg{α:Type _}{l:Li α}{i:Nat}(h:i<l.length):l[i]?=some l[i]:=List.getElem?_eq_getElem h
theorem Lm{α:Type _}(y:α){a:α}{l:Li α}(h:a∈l):a∈y::l:=List.mem_cons_of_mem y h
theorem lQ7{α:Type _}{a:α}{l:Li α}:a∈a::l:=List.mem_cons_self
theorem Bf:¬false=true:=Bool.false_ne_true
namespace L2
open PySem PySem.Spec PyProof.Rows

noncomputable abbrev Key:=Sum Int Str
noncomputable def keyIs:Key->vL->Bool
  |.inl k,v=>Value.isInt k v
  |.inr x,v=>Value.isStrOf x v
noncomputable def keyH(w:World):Key->Int
  |.inl k=>hashInt k
  |.inr x=>hashStr w x
theorem keyIs_shape:∀ {k:Key}{v:vL},keyIs k v=true->(∃ i t,k=Sum.inl i/\v=Value.int i t)\/(∃ x t,k=Sum.inr x/\v=Value.str x t)
  |.inl i,v,h=>by
    obtain⟨t,e⟩:=Value.isInt_shape (k:=i) (v:=v) h;exact .inl ⟨i,t,rfl,e⟩
  |.inr x,v,h=>by
    obtain⟨t,e⟩:=Value.isStrOf_shape (x:=x) (v:=v) h;exact .inr ⟨x,t,rfl,e⟩
theorem keyIs_int(i:Int)(t:Tok):keyIs (.inl i) (.int i t)=true:=by simp[keyIs,Value.isInt]
theorem keyIs_str(x:Str)(t:Tok):keyIs (.inr x) (.str x t)=true:=by simp[keyIs,Value.isStrOf]
theorem key_ll(a b:Int):decide ((Sum.inl a:Key)=Sum.inl b)=(a==b):=by
  by_cases e:a=b
  · subst e;simp
  · have h:¬(Sum.inl a:Key)=Sum.inl b:=fun q=>e (Sum.inl.inj q)
    rw[aL h];exact(bQ.mpr e).symm
theorem key_rr(a b:Str):decide ((Sum.inr a:Key)=Sum.inr b)=decide (a=b):=by
  by_cases e:a=b
  · subst e;simp
  · have h:¬(Sum.inr a:Key)=Sum.inr b:=fun q=>e (Sum.inr.inj q)
    rw[aL h,aL e]
theorem key_lr(a:Int)(b:Str):decide ((Sum.inl a:Key)=Sum.inr b)=false:=aL (fun q=>nomatch q)
theorem key_rl(a:Str)(b:Int):decide ((Sum.inr a:Key)=Sum.inl b)=false:=aL (fun q=>nomatch q)

noncomputable def mixKind(prog:Program)(w:World):PySem.KeyKind prog w Key where
  is:=keyIs
  hash:=keyH w
  inj:=fun v a b ha hb=>by
    rcases keyIs_shape ha with⟨i,t,rfl,rfl⟩|⟨x,t,rfl,rfl⟩
    · rcases keyIs_shape hb with⟨j,u,rfl,e⟩|⟨y,u,rfl,e⟩
      · injection e with e1 _;rw[e1]
      · exact nomatch e
    · rcases keyIs_shape hb with⟨j,u,rfl,e⟩|⟨y,u,rfl,e⟩
      · exact nomatch e
      · injection e with e1 _;rw[e1]
  byValue:=fun k v h=>by
    rcases keyIs_shape h with⟨i,t,rfl,rfl⟩|⟨x,t,rfl,rfl⟩<;>rfl
  pyHash:=fun hv h=>by
    rcases keyIs_shape hv with⟨i,t,rfl,rfl⟩|⟨x,t,rfl,rfl⟩
    · exact wpAny_pyHash_int h
    · exact wpAny_pyHash_str h
  eqBool:=fun hu hv h=>by
    rcases keyIs_shape hu with⟨i,t,rfl,rfl⟩|⟨x,t,rfl,rfl⟩
    · rcases keyIs_shape hv with⟨j,u,rfl,rfl⟩|⟨y,u,rfl,rfl⟩
      · rw[key_ll]at h;exact wpAny_eqBool_int h
      · rw[key_lr]at h;exact SeqAt.EqAt.int_str i t y u _ _ _ _ h
    · rcases keyIs_shape hv with⟨j,u,rfl,rfl⟩|⟨y,u,rfl,rfl⟩
      · rw[key_rl]at h;exact SeqAt.EqAt.str_int x t j u _ _ _ _ h
      · rw[key_rr]at h;exact wpAny_eqBool_str h
  «strs»:=fun k x t v h=>by
    rcases keyIs_shape h with⟨i,u,rfl,e⟩|⟨y,u,rfl,e⟩
    · exact nomatch e
    · injection e with e1 _
      subst e1;cases v<;>rfl

theorem mixKind_int(prog:Program)(w:World)(i:Int)(t:Tok):(mixKind prog w).is (.inl i) (.int i t)=true:=keyIs_int i t
theorem mixKind_str(prog:Program)(w:World)(x:Str)(t:Tok):(mixKind prog w).is (.inr x) (.str x t)=true:=keyIs_str x t
inductive V where
  |non|bl (b:Bool)|int (i:Int)|str (x:Str)|byt (b:Array UInt8)|flt (b:UInt64)|ref (a:Addr)|ty (n:String)
  deriving DecidableEq

def RelV:V->vL->Prop
  |.non,u=>u=Value.none
  |.bl b,u=>u=Value.bool b
  |.int i,u=>∃ t,u=Value.int i t
  |.str x,u=>∃ t,u=Value.str x t
  |.byt b,u=>∃ t,u=Value.bytes b t
  |.flt b,u=>∃ t,u=Value.float b t
  |.ref a,u=>u=Value.ref a
  |.ty n,u=>u=Value.type n

abbrev Vals:Li V->Li vL->Prop:=Paired RelV
variable{us:Li vL}
theorem Vals.length{xs:Li V}(r:Vals xs us):xs.length=us.length:=Paired.length r
theorem Vals.get:∀ {xs:Li V}{us:Li vL}{i:Nat}{x:V},Vals xs us->xs[i]?=some x->∃ u,us[i]?=some u/\RelV x u
  |_,_,_,_,.nil,e=>by simp at e
  |_,_,0,_,.cons r _,e=>by simp at e;subst e;exact⟨_,rfl,r⟩
  |_,_,i+1,x,.cons _ t,e=>by
    obtain⟨u,h1,h2⟩:=Vals.get (i:=i) (x:=x) t (by simpa using e)
    exact⟨u,by simpa using h1,h2⟩
theorem Vals.append:∀ {xs ys:Li V}{us ws:Li vL},Vals xs us->Vals ys ws->Vals (xs++ys) (us++ws)
  |_,_,_,_,.nil,s=>s
  |_,_,_,_,.cons r t,s=>.cons r (Vals.append t s)
theorem Vals.take:∀ {xs:Li V}{us:Li vL} (n:Nat),Vals xs us->Vals (xs.take n) (us.take n)
  |_,_,0,_=>.nil
  |_,_,_+1,.nil=>.nil
  |_,_,n+1,.cons r t=>.cons r (Vals.take n t)
theorem Vals.drop:∀ {xs:Li V}{us:Li vL} (n:Nat),Vals xs us->Vals (xs.drop n) (us.drop n)
  |_,_,0,r=>r
  |_,_,_+1,.nil=>.nil
  |_,_,n+1,.cons _ t=>Vals.drop n t

def RelO:Ot V->Ot vL->Prop
  |some v,some u=>RelV v u
  |none,none=>True
  |_,_=>False
def KV{κ:Type}:Li (κ×V)->Li (κ×vL)->Prop:=Paired fun(p:κ×V) (q:κ×vL)=>p.1=q.1/\RelV p.2 q.2

noncomputable def kV:Key->V
  |.inl i=>.int i
  |.inr x=>.str x

inductive HO where
    |lst (xs:List V)
    |tup (xs:List V)
    |dK (kvs:List (Key×V))|dT (kvs:List (List Key×V))
    |set (S:Int->Bool) (n:Nat)
    |ins (C dx:Addr) (fs:List (Str×V))
    |own (x:Addr)
    |xd (fs:List (Str×V))
    |met (f x:Addr)
    |rng (lo hi:Int)
    |frz (o:Obj) (u:HO)
    |tbl (ps:Array Value)
    |ext (φ:Heap->Prop)

noncomputable abbrev Hp:=Ad->Ot HO
noncomputable def upd(H:Hp)(a:Ad)(o:HO):Hp:=fun b=>if b=a then some o else H b
variable{H:Hp}
theorem upd_same{a:Ad}{o:HO}:upd H a o a=some o:=by unfold upd;rw[if_pos rfl]
theorem upd_ne{a b:Ad}{o:HO}(h:b≠a):upd H a o b=H b:=by unfold upd;rw[if_neg h]
theorem upd_upd{a:Ad}{o u:HO}:upd (upd H a o) a u=upd H a u:=by
  funext b;unfold upd;split<;>rfl
theorem ne_of{a b:Ad}{o u:HO}(h:H a=some o)(h':H b=some u)(d:o≠u):a≠b:=by
  intro e;subst e;rw[h]at h';exact d (Option.some.inj h')
theorem ne_of_none{a b:Ad}{o:HO}(h:H a=some o)(h':H b=none):a≠b:=by
  intro e;subst e;rw[h]at h';cases h'

section
variable (P:Program) (w:World)
def ObjOk(H:Hp)(h:Heap)(a:Ad):HO->Prop
  |.lst xs=>xs.length<=sizeLine/\∃ (its:Li vL) (n:Nat),Vals xs its/\h.get? a=some { cls:=.type "list",data:=.seq its.toArray n }
  |.tup xs=>xs.length<=sizeLine/\∃ its:Li vL,Vals xs its/\IsTup h a its.toArray
  |.dK kvs=>kvs.length<=sizeLine/\(a==sysModules)=false/\∃ vs,KV kvs vs/\h.DictOf (mixKind P w) a vs
  |.dT kvs=>kvs.length<=sizeLine/\(a==sysModules)=false/\∃ xs:Li (Li Key×Ad×vL),
      Paired (fun(p:Li Key×V) (q:Li Key×Ad×vL)=>p.1=q.1/\H q.2.1=some (.tup (p.1.map kV))/\RelV p.2 q.2.2) kvs xs /\
      ∃ o es ep,h.get? a=some o/\o.ExactDict/\o.data=.dict es ep/\es.toList=xs.map (entryOfKey (tupleKind (mixKind P w)))/\(xs.map (·.1)).Nodup
  |.set S n=>h.SetOf (intKind P w) a S n
  |.ins C dx fs=>H dx=some (.own a)/\fs.length<=1000/\dx≠a/\h.get? a=some (PySem.W.instObj C dx) /\
      ∃ mA,h.Ns1 dx mA/\(∀ f,RelO (fs.lookup f) (mA f))/\PySem.Within mA (fs.map (·.1))
  |.own _=>∃ o,h.get? a=some o
  |.xd fs=>∃ mA,h.Ns1 a mA/\∀ f,RelO (fs.lookup f) (mA f)
  |.rng lo hi=>∃ t u v,h.get? a=some { cls:=.type "range",data:=.fields #[.int lo t,.int hi u,.int 1 v] }
  |.frz o u=>h.get? a=some o/\ObjOk H h a u
  |.tbl ps=>h.get? a=some { cls:=.none,data:=.fields ps }
  |.met f x=>h.get? a=some (PySem.W.methodObj (.ref f) (.ref x))
  |.ext φ=>φ h/\(∃ o,h.get? a=some o)/\∀ h1 h2:Heap,φ h1->(∀ o,h1.get? a=some o->h2.get? a=some o)->φ h2
def HOk(H:Hp)(h:Heap):Prop:=∀ a o,H a=some o->ObjOk P w H h a o
end

section
variable {P:Program}{w:World}{H H':Hp}{h h':Heap}{a:Ad}{o:HO}
theorem ObjOk.lt(x:ObjOk P w H h a o):a < h.objs.size:=by
  cases o with
  |lst xs=>obtain⟨_,_,_,_,e⟩:=x;exact aI e
  |tup xs=>obtain⟨_,_,_,p⟩:=x;exact p.lt
  |dK kvs=>obtain⟨_,_,_,_,o,_,_,e,_⟩:=x;exact aI e
  |dT kvs=>obtain⟨_,_,_,_,o,_,_,e,_⟩:=x;exact aI e
  |set S n=>obtain⟨o,_,_,_,e,_⟩:=x;exact aI e
  |ins C dx fs=>obtain⟨_,_,_,e,_⟩:=x;exact aI e
  |own y=>obtain⟨_,e⟩:=x;exact aI e
  |xd fs=>obtain⟨_,⟨_,_,_,e,_⟩,_⟩:=x;exact aI e
  |rng lo hi=>obtain⟨_,_,_,e⟩:=x;exact aI e
  |frz ob u=>obtain⟨e,_⟩:=x;exact aI e
  |tbl ps=>exact aI (show h.get? a=some _ from x)
  |met f y=>exact aI (show h.get? a=some _ from x)
  |ext φ=>obtain⟨_,⟨_,e⟩,_⟩:=x;exact aI e
theorem Paired.mapP{α β:Type}{F G:α->β->Prop}:∀ {l₁:Li α}{l₂:Li β},Paired F l₁ l₂->(∀ a b,F a b->G a b)->Paired G l₁ l₂
  |_,_,.nil,_=>.nil
  |_,_,.cons r t,f=>.cons (f _ _ r) (Paired.mapP t f)
theorem ObjOk.stay(x:ObjOk P w H h a o)(k:∀ b u,(b=a\/H b=some (.own a))->h.get? b=some u->h'.get? b=some u)(ho:∀ b,H b=some (.own a)->H' b=some (.own a))(ht:∀ b xs,H b=some (.tup xs)->H' b=some (.tup xs)):ObjOk P w H' h' a o:=by
  induction o with
  |lst xs=>obtain⟨z,its,n,r,e⟩:=x;exact⟨z,its,n,r,k _ _ (.inl rfl) e⟩
  |tup xs=>obtain⟨z,its,r,ob,e,c⟩:=x;exact⟨z,its,r,ob,k _ _ (.inl rfl) e,c⟩
  |dK kvs=>obtain⟨z,y,vs,r,ob,es,ep,e,c⟩:=x;exact⟨z,y,vs,r,ob,es,ep,k _ _ (.inl rfl) e,c⟩
  |dT kvs=>
    obtain⟨z,y,xs,r,ob,es,ep,e,c⟩:=x;exact⟨z,y,xs,Paired.mapP r fun p q z=>⟨z.1,ht _ _ z.2.1,z.2.2⟩,ob,es,ep,k _ _ (.inl rfl) e,c⟩
  |set S n=>obtain⟨ob,es,ep,t,e,c⟩:=x;exact⟨ob,es,ep,t,k _ _ (.inl rfl) e,c⟩
  |ins C dx fs=>
    obtain⟨d,z,ne,e,mA,⟨od,es,ep,e2,c⟩,r⟩:=x;exact⟨ho _ d,z,ne,k _ _ (.inl rfl) e,mA,⟨od,es,ep,k _ _ (.inr d) e2,c⟩,r⟩
  |own y=>obtain⟨ob,e⟩:=x;exact⟨ob,k _ _ (.inl rfl) e⟩
  |xd fs=>obtain⟨mA,⟨od,es,ep,e,c⟩,r⟩:=x;exact⟨mA,⟨od,es,ep,k _ _ (.inl rfl) e,c⟩,r⟩
  |rng lo hi=>obtain⟨t,u,v,e⟩:=x;exact⟨t,u,v,k _ _ (.inl rfl) e⟩
  |frz ob u ih=>obtain⟨e,q⟩:=x;exact⟨k _ _ (.inl rfl) e,ih q⟩
  |tbl ps=>
    have e:h.get? a=some { cls:=.none,data:=.fields ps }:=x;show h'.get? a=some { cls:=.none,data:=.fields ps };exact k a _ (.inl rfl) e
  |met f y=>
    have e:h.get? a=some (PySem.W.methodObj (.ref f) (.ref y)):=x;show h'.get? a=some (PySem.W.methodObj (.ref f) (.ref y));exact k a _ (.inl rfl) e
  |ext φ=>obtain⟨p,⟨o,e⟩,st⟩:=x;exact⟨st _ _ p fun o q=>k _ _ (.inl rfl) q,⟨o,k _ _ (.inl rfl) e⟩,st⟩
theorem HOk.lt(x:HOk P w H h)(e:H a=some o):a < h.objs.size:=(x a o e).lt
theorem HOk.fresh(x:HOk P w H h)(e:h.objs.size<=a):H a=none:=by
  cases q:H a with
  |none=>rfl
  |some u=>exact absurd (aQ (x.lt q) e) (bM _)
theorem HOk.kept(x:HOk P w H h)(k:∀ b u,h.get? b=some u->h'.get? b=some u):HOk P w H h':=fun a o e=>
  (x a o e).stay (fun b u _ q=>k b u q) (fun _ q=>q) fun _ _ q=>q
theorem HOk.laid(x:HOk P w H h)(k:∀ b u,h.get? b=some u->h'.get? b=some u)(hp:h.objs.size<=a)(new:ObjOk P w (upd H a o) h' a o):HOk P w (upd H a o) h':=fun b u e=>by
  have hn:=x.fresh hp;by_cases hb:b=a
  · subst hb;rw[upd_same]at e;cases e;exact new
  · rw[upd_ne hb]at e
    exact(x b u e).stay (fun c v _ q=>k c v q) (fun c q=>by rw[upd_ne (ne_of_none q hn)];exact q) fun c xs q=>by rw[upd_ne (ne_of_none q hn)];exact q
end

def Rd(H:Hp)(a:Ad)(u:HO):Prop:=H a=some u\/∃ o,H a=some (.frz o u)
variable{w:World}{h:Heap}
theorem Rd.ok{P:Program}{a:Ad}{u:HO}(r:Rd H a u)(x:HOk P w H h):ObjOk P w H h a u:=by
  rcases r with r|⟨o,r⟩
  · exact x a u r
  · obtain⟨_,q⟩:=x a _ r
    exact q
def Mut:Ot HO->Prop
  |some (.lst _)=>True
  |some (.dK _)=>True
  |some (.dT _)=>True
  |some (.set _ _)=>True
  |some (.ins _ _ _)=>True
  |some (.ext _)=>True
  |_=>False
section
variable {P:Program}{w:World}{H:Hp}{h h':Heap}{x e:Ad}{o':HO}
theorem HOk.write(ok:HOk P w H h)(mu:Mut (H x))(he:e=x\/H e=some (.own x))(k:∀ b u,b≠e->h.get? b=some u->h'.get? b=some u)(heo:∃ u,h'.get? e=some u)(new:ObjOk P w (upd H x o') h' x o'):HOk P w (upd H x o') h':=fun b u q=>by
  have nown:∀ c y,H c=some (.own y)->c≠x:=fun c y r z=>by subst z;rw[r]at mu;exact mu
  have ntup:∀ c xs,H c=some (.tup xs)->c≠x:=fun c xs r z=>by subst z;rw[r]at mu;exact mu
  by_cases hb:b=x
  · subst hb;rw[upd_same]at q;cases q;exact new
  · rw[upd_ne hb]at q
    by_cases hbe:b=e
    · have q':H b=some (.own x):=by
        rcases he with z|z
        · exact absurd (hbe.trans z) hb
        · rw[hbe];exact z
      rw[q]at q';cases q'
      obtain⟨v,hv⟩:=heo;exact⟨v,by rw[hbe];exact hv⟩
    · refine(ok b u q).stay (fun c v hc r=>k c v ?_ r) (fun c r=>by rw[upd_ne (nown c b r)];exact r) fun c xs r=>by rw[upd_ne (ntup c xs r)];exact r
      rcases hc with rfl|hc
      · exact hbe
      · rintro rfl
        rcases he with z|z
        · exact nown c b hc z
        · rw[hc]at z;cases z;exact hb rfl
end

structure Un(fs ex:List Addr)(H H':Hp)(h h':Heap):Prop where
  keep:∀ b o,h.get? b=some o->H b=none->b∉fs->b∉ex->h'.get? b=some o
  slot:∀ b o,h.get? b=some o->H b=none->b∈fs->b∉ex->∃ sl,h'.get? b=some { o with slots:=sl }
  free:∀ b o,h.get? b=some o->H b=none->b∉ex->H' b=none
  there:∀ b o,h.get? b=some o->b∉ex->∃ o',h'.get? b=some o'
  tups:∀ b xs,H b=some (.tup xs)->H' b=some (.tup xs)
  frzs:∀ b o u,H b=some (.frz o u)->H' b=some (.frz o u)
  tbls:∀ b ps,H b=some (.tbl ps)->∃ more,H' b=some (.tbl (ps++more))
section
variable {fs fs' ex ex':Li Ad}{H H1 H2:Hp}{h h1 h2 h':Heap}{a x e:Ad}{o:HO}
theorem Un.any(u:Un fs ex H H1 h h1){b:Ad}{ob:Obj}(q:h.get? b=some ob)(n:H b=none)(hx:b∉ex):∃ sl,h1.get? b=some { ob with slots:=sl }:=by
  by_cases hb:b∈fs
  · exact u.slot b ob q n hb hx
  · exact⟨ob.slots,u.keep b ob q n hb hx⟩
theorem Un.kept(k:∀ b u,h.get? b=some u->h'.get? b=some u):Un fs ex H H h h':=
  ⟨fun b ob q _ _ _=>k b ob q,fun b ob q _ _ _=>⟨ob.slots,k b ob q⟩,fun _ _ _ n _=>n,fun b ob q _=>⟨ob,k b ob q⟩,fun _ _ q=>q,fun _ _ _ q=>q,fun _ ps q=>⟨#[],by rw[q];simp⟩⟩
theorem Un.refl:Un fs ex H H h h:=Un.kept fun _ _ q=>q
theorem Un.laid(k:∀ b u,h.get? b=some u->h'.get? b=some u)(hp:h.objs.size<=a)(hn:H a=none):Un fs ex H (upd H a o) h h' where
  keep:=fun b u q _ _ _=>k b u q
  slot:=fun b u q _ _ _=>⟨u.slots,k b u q⟩
  free:=fun b u q n _=>by rw[upd_ne (aZ (aQ (aI q) hp))];exact n
  there:=fun b u q _=>⟨u,k b u q⟩
  tups:=fun b xs q=>by rw[upd_ne (ne_of_none q hn)];exact q
  frzs:=fun b u xs q=>by rw[upd_ne (ne_of_none q hn)];exact q
  tbls:=fun b ps q=>⟨#[],by rw[upd_ne (ne_of_none q hn),q];simp⟩
theorem Un.write(mu:Mut (H x))(he:e=x\/H e=some (.own x))(k:∀ b u,b≠e->h.get? b=some u->h'.get? b=some u)(heo:∃ u,h'.get? e=some u):Un fs ex H (upd H x o) h h':=by
  have hx:∀ b,H b=none->b≠x:=fun b n z=>by subst z;rw[n]at mu;exact mu
  have hb:∀ b,H b=none->b≠e:=fun b n z=>by
    subst z;rcases he with r|r
    · exact hx b n r
    · rw[n]at r;cases r
  have hm:∀ b u,H b=some u->¬Mut (some u)->b≠x:=fun b u q nm z=>by subst z;rw[q]at mu;exact nm mu
  refine⟨fun b u q n _ _=>k b u (hb b n) q,fun b u q n _ _=>⟨u.slots,k b u (hb b n) q⟩,fun b u q n _=>by rw[upd_ne (hx b n)];exact n,fun b u q _=>?_,
    fun b xs q=>by rw[upd_ne (hm b _ q fun z=>z)];exact q,fun b u xs q=>by rw[upd_ne (hm b _ q fun z=>z)];exact q,fun b ps q=>⟨#[],by rw[upd_ne (hm b _ q fun z=>z),q];simp⟩⟩
  by_cases hbe:b=e
  · subst hbe;exact heo
  · exact⟨u,k b u hbe q⟩
end

noncomputable def trk(h:Heap)(H:Hp):Li Ad:=(List.range h.objs.size).filter fun a=>(H a).isSome
noncomputable def hidT(h:Heap)(H:Hp):Heap:=PySem.W.hideAll h (trk h H)
theorem hidT_size(h:Heap)(H:Hp):(hidT h H).objs.size=h.objs.size:=PySem.W.hideAll_size _ _
theorem hidT_get{b:Ad}{o:Obj}(e:h.get? b=some o)(n:H b=none):(hidT h H).get? b=some o:=
  PySem.W.hideAll_get _ e fun hm=>by
    have q:(H b).isSome=true:=(cP.mp hm).2;rw[n]at q;simp at q
theorem of_hidT{b:Ad}{o:Obj}(e:(hidT h H).get? b=some o):h.get? b=some o/\H b=none:=by
  have e':h.get? b=some o:=PySem.W.of_hideAll (trk h H) e;refine⟨e',?_⟩;cases q:H b with
  |none=>rfl
  |some x=>
    have hm:b∈trk h H:=cP.mpr ⟨cQ.mpr (aI e'),by simp[q]⟩
    have z:(hidT h H).get? b=none:=PySem.W.hideAll_none (trk h H) hm;rw[z]at e;cases e

structure Mod(K:Fg)(mg:Str->Option Value)(base:Heap):Prop where
  kin:K.In base
  glob:base.Ns mainGlobals mg
  blt:∃ mb,base.Ns builtinsNs mb/\∀ x:Str,x ≠ "__name__"->mb x=bootBuiltins x
  nolimit:base.NoLimit

structure Cx where
  prog:Program
  w:World
  K:Fg
  mg:Str->Option Value
  base:Heap
  A:Around
  N:List Str
  s₀:Shared
  H₀:Hp
  env:Env
  outer:List Env
  stack:List Env
  ex:List Addr
  fn:Str->Bool
  calm:Bool
  pn:List (Addr×Obj)
  xe:Value->Shared->Prop
noncomputable def frs(l:Li Env):Li Ad:=l.filterMap (·.frame)
noncomputable abbrev Cx.fs(X:Cx):Li Ad:=frs X.outer

def Vis(sc:Scope)(x:Str):Prop:=sc.names.lookup x=some .local\/sc.names.lookup x=some .cell\/sc.names.lookup x=some .free
def Loc(sc:Scope)(x:Str):Prop:=sc.names.lookup x=some .local\/sc.names.lookup x=some .cell
def Look(env:Env)(h:Heap)(m:Str->Ot vL)(x:Str)(u:vL):Prop:=
  (env.kindOf x=some .local/\m x=some u)\/((env.kindOf x=some .cell\/env.kindOf x=some .free)/\∃ c,env.cells.lookup x=some c/\h.IsCell c (some u))

structure Cx.Ok(X:Cx):Prop where
  mod:Mod X.K X.mg X.base
  kind:X.env.scope.kind=.function
  glob:X.env.globals=mainGlobals
  blt:X.env.builtins=builtinsNs
  above:X.s₀.heap.objs.size<=X.env.locals
  inj:∀ x y c,X.env.cells.lookup x=some c->X.env.cells.lookup y=some c->x=y
  has:∀ x,(X.env.kindOf x=some .cell\/X.env.kindOf x=some .free)->∃ c,X.env.cells.lookup x=some c
  cab:∀ x c,X.fn x=true->X.env.cells.lookup x=some c->X.s₀.heap.objs.size<=c
  hd:X.calm=true->X.A.handled=none
  frames:X.A.frames=some X.stack
  stk:X.stack=X.outer\/(X.stack=X.env :: X.outer/\X.env.frame=some X.env.locals)
  exf:∀ b∈X.ex,b≠X.env.locals/\∀ x c,X.env.cells.lookup x=some c->c≠b
  bs:∀ b o,X.base.get? b=some o->X.s₀.heap.get? b=some o/\X.H₀ b=none
  bsz:X.base.objs.size<=X.s₀.heap.objs.size
  noex:∀ b o,X.base.get? b=some o->b∉X.ex
  exfs:∀ b∈X.ex,b∉X.fs
  funs:X.s₀.heap.FunFrames X.base X.outer
  frf:∀ b∈X.fs,X.H₀ b=none

structure Inv(X:Cx)(pQ:List (Addr×Obj))(σ:List (Option V))(H:Hp)(s:Shared):Prop where
  ok:X.Ok
  os:s.os=X.s₀.os
  bare:AllBare s.gens
  base:Un X.fs X.ex X.H₀ H X.s₀.heap s.heap
  loc:∃ m,s.heap.Ns X.env.locals m/\∀ (i:Nat) (x:Str) (v:V),X.N[i]?=some x->σ[i]?=some (some v)->Vis X.env.scope x->∃ u,RelV v u/\Look X.env s.heap m x u
  cell:∀ x c,X.env.cells.lookup x=some c->∃ v,s.heap.IsCell c v
  free:H X.env.locals=none
  freeC:∀ x c,X.env.cells.lookup x=some c->H c=none
  pin:∀ p∈X.pn++pQ,s.heap.get? p.1=some p.2/\H p.1=none/\p.1≠X.env.locals/\p.1∉X.fs/\∀ v,p.2.data≠.cell v
  hok:HOk X.prog X.w H s.heap
  len:σ.length=X.N.length

variable{g':Array GenState}{t' i:Nat}{d':Drawn}{N:Li Str}{s':sH7}
section
variable {X:Cx}{pQ:Li (Ad×Obj)}{σ:Li (Ot V)}{H H':Hp}{s:sH7}{h':Heap}

theorem Cx.Ok.nofr(ok:X.Ok){b:Ad}{o:Obj}(e:X.base.get? b=some o):b∉X.fs:=fun hb=>by
  have:=(ok.funs.mem hb).1;rw[e]at this;cases this
theorem Inv.bs(I:Inv X pQ σ H s):∀ b o,X.base.get? b=some o->s.heap.get? b=some o/\H b=none:=fun b o e=>
  ⟨I.base.keep b o (I.ok.bs b o e).1 (I.ok.bs b o e).2 (I.ok.nofr e) (I.ok.noex b o e),I.base.free b o (I.ok.bs b o e).1 (I.ok.bs b o e).2 (I.ok.noex b o e)⟩
theorem Inv.bk(I:Inv X pQ σ H s):∀ b o,X.base.get? b=some o->s.heap.get? b=some o:=fun b o e=>(I.bs b o e).1
theorem Inv.mod(I:Inv X pQ σ H s):Mod X.K X.mg X.base:=I.ok.mod
theorem Inv.kIn(I:Inv X pQ σ H s):X.K.In s.heap:=I.ok.mod.kin.keeps I.bk
theorem Inv.lt(I:Inv X pQ σ H s):X.env.locals < s.heap.objs.size:=let ⟨_,hn,_⟩:=I.loc;hn.lt
theorem Inv.sz(I:Inv X pQ σ H s):X.s₀.heap.objs.size<=s.heap.objs.size:=aH I.ok.above (Nat.le_of_lt I.lt)
theorem Inv.nofs(I:Inv X pQ σ H s){a:Ad}(h:s.heap.objs.size<=a):a∉X.fs:=fun hb=>by
  obtain⟨_,o,ho,_⟩:=I.ok.funs.mem hb;exact absurd (aQ (aI ho) (aH I.sz h)) (bM _)
theorem Inv.cne(I:Inv X pQ σ H s):∀ x c,X.env.cells.lookup x=some c->c≠X.env.locals:=fun x c e z=>by
  obtain⟨v,o,ho,hd⟩:=I.cell x c e;obtain⟨m,⟨o',es,ep,ho',hd',_⟩,_⟩:=I.loc;rw[z,ho']at ho;cases ho;rw[hd']at hd;cases hd
theorem Inv.funs(I:Inv X pQ σ H s):s.heap.FunFrames X.base X.outer:=by
  have all:∀ (l:Li Env),(∀ b∈frs l,b∈X.fs)->X.s₀.heap.FunFrames X.base l->s.heap.FunFrames X.base l:=by
    intro l
    induction l with
    |nil=>intro _ _;trivial
    |cons env r ih=>
      intro hs hl;obtain⟨hk,⟨L,o,hf,hn,ho,hd⟩,hr⟩:=hl;have hL:L∈X.fs:=hs L (by unfold frs;rw[dU,hf];exact lQ7)
      obtain⟨sl,e⟩:=I.base.slot L o ho (I.ok.frf L hL) hL fun z=>I.ok.exfs L z hL
      exact⟨hk,⟨L,_,hf,hn,e,hd⟩,ih (fun b hb=>hs b (by unfold frs;rw[dU,hf];exact Lm _ hb)) hr⟩
  exact all X.outer (fun _ hb=>hb) I.ok.funs

theorem Inv.stack(I:Inv X pQ σ H s):s.heap.FunFrames X.base X.stack:=by
  rcases I.ok.stk with e|⟨e,hf⟩
  · rw[e];exact I.funs
  · rw[e]
    obtain⟨m,hn,_⟩:=I.loc;refine .cons (by rw[I.ok.kind];decide) hf hn ?_ I.funs
    exact Heap.get?_none_of_le (aH I.ok.bsz I.ok.above)
theorem Inv.stkSub(I:Inv X pQ σ H s):∀ b∈frs X.stack,b∈X.env.locals :: X.fs:=fun b hb=>by
  rcases I.ok.stk with e|⟨e,hf⟩
  · rw[e]at hb;exact Lm _ hb
  · rw[e]at hb
    unfold frs at hb;rw[dU,hf]at hb;exact hb
theorem Inv.stkFree(I:Inv X pQ σ H s):∀ b∈frs X.stack,H b=none:=fun b hb=>by
  rcases aG.mp (I.stkSub b hb) with e|hb
  · rw[e];exact I.free
  · obtain⟨_,o,ho,_⟩:=I.ok.funs.mem hb
    exact I.base.free b o ho (I.ok.frf b hb) fun z=>I.ok.exfs b z hb

theorem Inv.step{ch:Li Ad}(I:Inv X pQ σ H s)(hch:∀ b∈ch,(b∈X.ex\/X.s₀.heap.objs.size<=b)/\b≠X.env.locals/\(∀ x c,X.env.cells.lookup x=some c->c≠b)/\∀ p∈X.pn++pQ,p.1≠b)(keep:∀ b o,b≠X.env.locals->b∉X.fs->b∉ch->s.heap.get? b=some o->H b=none->h'.get? b=some o)(slot:∀ b o,b≠X.env.locals->b∈X.fs->b∉ch->s.heap.get? b=some o->H b=none->∃ sl,h'.get? b=some { o with slots:=sl })(free:∀ b o,b∉ch->s.heap.get? b=some o->H b=none->H' b=none)(there:∀ b o,b∉ch->s.heap.get? b=some o->∃ o',h'.get? b=some o')(tups:∀ b xs,H b=some (.tup xs)->H' b=some (.tup xs))(frzs:∀ b o u,H b=some (.frz o u)->H' b=some (.frz o u))(tbls:∀ b ps,H b=some (.tbl ps)->∃ more,H' b=some (.tbl (ps++more)))(ns:∀ m,s.heap.Ns X.env.locals m->h'.Ns X.env.locals m)(hok:HOk X.prog X.w H' h')(hg:AllBare g') :
    Inv X pQ σ H' { s with heap:=h',gens:=g',drawn:=d',toks:=t' }:=by
  have neL:∀ b o,X.s₀.heap.get? b=some o->b≠X.env.locals:=fun b o e=>aZ (aQ (aI e) I.ok.above)
  have neC:∀ b o,X.s₀.heap.get? b=some o->b∉X.ex->b∉ch:=fun b o e hx hb=>by
    rcases (hch b hb).1 with z|z
    · exact hx z
    · exact absurd (aQ (aI e) z) (bM _)
  have cellK:∀ x c,X.env.cells.lookup x=some c->∀ v,s.heap.IsCell c v->h'.IsCell c v:=fun x c e v ⟨o,ho,hd⟩=>by
    have nch:c∉ch:=fun z=>(hch c z).2.2.1 x c e rfl
    by_cases hc:c∈X.fs
    · obtain⟨sl,q⟩:=slot c o (I.cne x c e) hc nch ho (I.freeC x c e)
      exact⟨_,q,hd⟩
    · exact⟨o,keep c o (I.cne x c e) hc nch ho (I.freeC x c e),hd⟩
  refine⟨I.ok,I.os,hg,⟨fun b o e n hb hx=>?_,fun b o e n hb hx=>?_,fun b o e n hx=>?_,fun b o e hx=>?_,fun b xs e=>tups b xs (I.base.tups b xs e),fun b o xs e=>frzs b o xs (I.base.frzs b o xs e),fun b ps e=>?_⟩,?_,fun x c e=>?_,?_,fun x c e=>?_,fun p hp=>?_,hok,I.len⟩
  · exact keep b o (neL b o e) hb (neC b o e hx) (I.base.keep b o e n hb hx) (I.base.free b o e n hx)
  · obtain⟨sl,e1⟩:=I.base.slot b o e n hb hx
    obtain⟨sl',e2⟩:=slot b _ (neL b o e) hb (neC b o e hx) e1 (I.base.free b o e n hx);exact⟨sl',e2⟩
  · obtain⟨o',e1⟩:=I.base.there b o e hx
    exact free b o' (neC b o e hx) e1 (I.base.free b o e n hx)
  · obtain⟨o',e1⟩:=I.base.there b o e hx
    exact there b o' (neC b o e hx) e1
  · obtain⟨m1,e1⟩:=I.base.tbls b ps e
    obtain⟨m2,e2⟩:=tbls b _ e1;exact⟨m1++m2,by rw[e2,Array.append_assoc]⟩
  · obtain⟨m,hn,hl⟩:=I.loc
    refine⟨m,ns m hn,fun i x v e1 e2 e3=>?_⟩
    obtain⟨u,r,l⟩:=hl i x v e1 e2 e3;refine⟨u,r,?_⟩;rcases l with l|⟨k,c,e,z⟩
    · exact .inl l
    · exact .inr ⟨k,c,e,cellK x c e _ z⟩
  · obtain⟨v,z⟩:=I.cell x c e
    exact⟨v,cellK x c e v z⟩
  · obtain⟨m,⟨o,_,_,ho,_⟩,_⟩:=I.loc
    exact free _ o (fun z=>(hch _ z).2.1 rfl) ho I.free
  · obtain⟨v,o,ho,hd⟩:=I.cell x c e
    exact free c o (fun z=>(hch c z).2.2.1 x c e rfl) ho (I.freeC x c e)
  · obtain⟨e,n,ne,nf,d⟩:=I.pin p hp
    have nch:p.1∉ch:=fun z=>(hch p.1 z).2.2.2 p hp rfl
    exact⟨keep p.1 p.2 ne nf nch e n,free p.1 p.2 nch e n,ne,nf,d⟩
theorem Inv.un(I:Inv X pQ σ H s)(u:Un X.fs [] H H' s.heap h')(hok:HOk X.prog X.w H' h'):Inv X pQ σ H' { s with heap:=h',toks:=t' }:=by
  obtain⟨m,⟨o,es,ep,ho,r⟩,_⟩:=id I.loc;obtain⟨sl,hL⟩:=u.any ho I.free (by simp)
  exact I.step (g':=s.gens) (d':=s.drawn) (ch:=[]) (fun _ z=>nomatch z) (fun b o _ hb _ e n=>u.keep b o e n hb (by simp)) (fun b o _ hb _ e n=>u.slot b o e n hb (by simp)) (fun b o _ e n=>u.free b o e n (by simp)) (fun b o _ e=>u.there b o e (by simp)) u.tups u.frzs u.tbls (fun m' hm=>by
    obtain⟨o',es',ep',ho',r'⟩:=hm;rw[ho]at ho';cases ho'
    exact⟨_,es',ep',hL,r'⟩) hok I.bare
theorem Inv.call{ch:Li Ad}(I:Inv X pQ σ H s)(u:Un (frs X.stack) ch H H' s.heap h')(hok:HOk X.prog X.w H' h')(hg:AllBare g')(hch:∀ b∈ch,(b∈X.ex\/X.s₀.heap.objs.size<=b)/\b≠X.env.locals/\(∀ x c,X.env.cells.lookup x=some c->c≠b)/\∀ p∈X.pn++pQ,p.1≠b) :
    Inv X pQ σ H' { s with heap:=h',gens:=g',drawn:=d',toks:=t' }:=by
  obtain⟨m,⟨o,es,ep,ho,r⟩,_⟩:=id I.loc;obtain⟨sl,hL⟩:=u.any ho I.free fun z=>(hch _ z).2.1 rfl
  exact I.step (ch:=ch) hch (fun b o hL hb hc e n=>u.keep b o e n (fun z=>(aG.mp (I.stkSub b z)).elim hL hb) hc) (fun b o _ _ hc e n=>u.any e n hc) (fun b o hc e n=>u.free b o e n hc) (fun b o hc e=>u.there b o e hc) u.tups u.frzs u.tbls (fun m' hm=>by
    obtain⟨o',es',ep',ho',r'⟩:=hm;rw[ho]at ho';cases ho'
    exact⟨_,es',ep',hL,r'⟩) hok hg
theorem Inv.turned{it:Ad}(I:Inv X pQ σ H s)(k:∀ b o,b≠it->s.heap.get? b=some o->h'.get? b=some o)(hn:H it=none)(hL:it≠X.env.locals)(h1:it∈X.ex\/X.s₀.heap.objs.size<=it)(h2:∀ x c,X.env.cells.lookup x=some c->c≠it)(h3:∀ p∈X.pn++pQ,p.1≠it):Inv X pQ σ H { s with heap:=h',toks:=t' }:=by
  have nit:∀ b u,H b=some u->b≠it:=fun b u e z=>by rw[z,hn]at e;cases e
  refine I.step (g':=s.gens) (d':=s.drawn) (ch:=[it]) (fun b hb=>?_) (fun b o _ _ hc e _=>k b o (fun z=>hc (by simp[z])) e) (fun b o _ _ hc e _=>⟨o.slots,k b o (fun z=>hc (by simp[z])) e⟩) (fun _ _ _ _ n=>n)
    (fun b o hc e=>⟨o,k b o (fun z=>hc (by simp[z])) e⟩) (fun _ _ e=>e) (fun _ _ _ e=>e) (fun b ps e=>⟨#[],by rw[e];simp⟩) (fun m hm=>?_) (fun b u e=>?_) I.bare
  · have e:b=it:=by simpa using hb
    subst e;exact⟨h1,hL,h2,h3⟩
  · obtain⟨o,es,ep,ho,r⟩:=hm
    exact⟨o,es,ep,k _ o (Ne.symm hL) ho,r⟩
  · refine(I.hok b u e).stay (fun c v hc q=>k c v ?_ q) (fun _ q=>q) fun _ _ q=>q
    rcases hc with z|z
    · rw[z];exact nit b u e
    · exact nit c _ z
theorem Inv.tok(I:Inv X pQ σ H s)(t:Nat):Inv X pQ σ H { s with toks:=t }:=I.un (h':=s.heap) (t':=t) Un.refl I.hok
theorem Inv.kept{t':Nat}(I:Inv X pQ σ H s)(k:∀ b u,s.heap.get? b=some u->h'.get? b=some u):Inv X pQ σ H { s with heap:=h',toks:=t' }:=I.un (Un.kept k) (I.hok.kept k)
theorem Inv.laid{a:Ad}{o:HO}{t':Nat}(I:Inv X pQ σ H s)(k:∀ b u,s.heap.get? b=some u->h'.get? b=some u)(hp:s.heap.objs.size<=a)(new:ObjOk X.prog X.w (upd H a o) h' a o) :
    Inv X pQ σ (upd H a o) { s with heap:=h',toks:=t' }:=I.un (Un.laid k hp (I.hok.fresh hp)) (I.hok.laid k hp new)
theorem Inv.write{x e:Ad}{o:HO}{t':Nat}(I:Inv X pQ σ H s)(mu:Mut (H x))(he:e=x\/H e=some (.own x))(k:∀ b u,b≠e->s.heap.get? b=some u->h'.get? b=some u)(heo:∃ u,h'.get? e=some u)(new:ObjOk X.prog X.w (upd H x o) h' x o):Inv X pQ σ (upd H x o) { s with heap:=h',toks:=t' }:=I.un (Un.write mu he k heo) (I.hok.write mu he k heo new)
theorem Inv.pins_of{pins':Li (Ad×Obj)}(I:Inv X pQ σ H s)(h:∀ p∈pins',s.heap.get? p.1=some p.2/\H p.1=none/\p.1≠X.env.locals/\p.1∉X.fs/\∀ v,p.2.data≠.cell v):Inv X pins' σ H s:=
  ⟨I.ok,I.os,I.bare,I.base,I.loc,I.cell,I.free,I.freeC,fun p hp=>(aS.mp hp).elim (fun z=>I.pin p (dJ _ z)) (h p),I.hok,I.len⟩

theorem nodup_ix(hN:N.Nodup){j:Nat}{x:Str}(a:N[i]?=some x)(b:N[j]?=some x):i=j:=by
  obtain⟨h1,e1⟩:=bN.mp a;obtain⟨h2,e2⟩:=bN.mp b;exact(List.getElem_inj hN).mp (e1.trans e2.symm)

theorem store_ok2{M:Model}{A:Around}{E:vL->sH7->Prop}{x:Str}{v:V}{u:vL}{Q:Unit->sH7->Prop}(I:Inv X pQ σ H s)(hN:X.N.Nodup)(hi:X.N[i]?=some x)(hx:Loc X.env.scope x)(r:RelV v u)(h:∀ s',Inv X pQ (σ.set i (some v)) H s'->(∃ a,Heap.SameBut a s.heap s'.heap/\(a=X.env.locals\/X.env.cells.lookup x=some a))->Q () s')(hf:X.fn x=true\/X.env.scope.names.lookup x=some .local:=by first|exact .inl rfl|exact .inr rfl|assumption):wpAny M A (storeName X.env x u) Q E s:=by
  obtain⟨m,hn,hl⟩:=id I.loc;have hcls:(X.env.scope.kind==.class||(X.env.scope.kind==.module&&X.env.locals != X.env.globals))=false:=by rw[I.ok.kind];rfl
  have hiσ:i < σ.length:=by rw[I.len];exact(bN.mp hi).1
  have cne:=I.cne;have tracked:∀ {a:Ad}{h':Heap},(∃ o,s.heap.get? a=some o/\H a=none)->Heap.SameBut a s.heap h'->HOk X.prog X.w H h':=fun {a h'} ha hs b ob e=>by
    obtain⟨_,_,hfree⟩:=ha;refine(I.hok b ob e).stay (fun c w' hc q=>(hs.2 c ?_).trans q) (fun _ q=>q) fun _ _ q=>q
    rintro rfl
    rcases hc with rfl|hc
    · rw[hfree]at e;cases e
    · rw[hfree]at hc;cases hc
  rcases hx with hk|hk
  · refine wpAny_storeName_local hk hn (fun h' hn' hs=>?_) hcls
    obtain⟨oL,_,_,hoL,_⟩:=id hn;refine h _ ⟨I.ok,I.os,I.bare,⟨fun b o e n hb hx=>?_,fun b o e n hb hx=>?_,I.base.free,fun b o e hx=>?_,I.base.tups,I.base.frzs,I.base.tbls⟩,⟨_,hn',fun j y v' e1 e2 e3=>?_⟩,fun y c e=>?_,I.free,I.freeC,fun p hp=>?_,tracked ⟨oL,hoL,I.free⟩ hs,by simpa using I.len⟩ ⟨_,hs,.inl rfl⟩
    · exact(hs.2 b (aZ (aQ (aI e) I.ok.above))).trans (I.base.keep b o e n hb hx)
    · obtain⟨sl,e1⟩:=I.base.slot b o e n hb hx
      exact⟨sl,(hs.2 b (aZ (aQ (aI e) I.ok.above))).trans e1⟩
    · obtain⟨o',e1⟩:=I.base.there b o e hx
      exact⟨o',(hs.2 b (aZ (aQ (aI e) I.ok.above))).trans e1⟩
    · by_cases hj:j=i
      · subst hj
        rw[hi]at e1;cases e1
        rw[cG hiσ]at e2;cases e2;exact⟨u,r,.inl ⟨hk,by simp⟩⟩
      · rw[cH (Ne.symm hj)]at e2
        obtain⟨u',r',q⟩:=hl j y v' e1 e2 e3;refine⟨u',r',?_⟩;rcases q with⟨k,e⟩|⟨k,c,e,z⟩
        · refine .inl ⟨k,?_⟩
          have:y≠x:=fun e=>hj (nodup_ix hN e1 (e ▸ hi))
          simp[this,e]
        · exact .inr ⟨k,c,e,z.sameBut hs (cne y c e)⟩
    · obtain⟨w',z⟩:=I.cell y c e
      exact⟨w',z.sameBut hs (cne y c e)⟩
    · obtain⟨e,n,ne,nf,d⟩:=I.pin p hp
      exact⟨(hs.2 p.1 ne).trans e,n,ne,nf,d⟩
  · have hfn:X.fn x=true:=by
      rcases hf with z|z
      · exact z
      · rw[z]at hk;cases hk
    obtain⟨c,hc⟩:=I.ok.has x (.inl hk);obtain⟨w',z⟩:=I.cell x c hc;refine wpAny_storeName_cell I.ok.kind hk hc z (fun h' hc' hs=>?_)
    obtain⟨oc,hoc,hocd⟩:=id z;refine h { s with heap:=h' } ⟨I.ok,I.os,I.bare,⟨fun b o e n hb hx=>?_,fun b o e n hb hx=>?_,I.base.free,fun b o e hx=>?_,I.base.tups,I.base.frzs,I.base.tbls⟩,⟨m,hn.sameBut hs (Ne.symm (cne x c hc)),fun j y v' e1 e2 e3=>?_⟩,fun y c' e=>?_,I.free,I.freeC,fun p hp=>?_,tracked ⟨oc,hoc,I.freeC x c hc⟩ hs,by simpa using I.len⟩ ⟨c,hs,.inr hc⟩
    · exact(hs.2 b (aZ (aQ (aI e) (I.ok.cab x c hfn hc)))).trans (I.base.keep b o e n hb hx)
    · obtain⟨sl,e1⟩:=I.base.slot b o e n hb hx
      exact⟨sl,(hs.2 b (aZ (aQ (aI e) (I.ok.cab x c hfn hc)))).trans e1⟩
    · obtain⟨o',e1⟩:=I.base.there b o e hx
      exact⟨o',(hs.2 b (aZ (aQ (aI e) (I.ok.cab x c hfn hc)))).trans e1⟩
    · by_cases hj:j=i
      · subst hj
        rw[hi]at e1;cases e1
        rw[cG hiσ]at e2;cases e2;exact⟨u,r,.inr ⟨.inl hk,c,hc,hc'⟩⟩
      · rw[cH (Ne.symm hj)]at e2
        obtain⟨u',r',q⟩:=hl j y v' e1 e2 e3;refine⟨u',r',?_⟩;rcases q with q|⟨k,c',e,z'⟩
        · exact .inl q
        · refine .inr ⟨k,c',e,z'.sameBut hs ?_⟩
          rintro rfl
          exact hj (nodup_ix hN e1 (I.ok.inj _ _ _ e hc ▸ hi))
    · by_cases hcc:c'=c
      · subst hcc;exact⟨_,hc'⟩
      · obtain⟨w2,z2⟩:=I.cell y c' e
        exact⟨w2,z2.sameBut hs hcc⟩
    · obtain⟨e,n,ne,nf,d⟩:=I.pin p hp
      refine⟨(hs.2 p.1 ?_).trans e,n,ne,nf,d⟩;intro q;rw[q,hoc]at e;have q':oc=p.2:=Option.some.inj e;exact d w' (by rw[<-q'];exact hocd)
theorem store_ok{M:Model}{A:Around}{E:vL->sH7->Prop}{x:Str}{v:V}{u:vL}{Q:Unit->sH7->Prop}(I:Inv X pQ σ H s)(hN:X.N.Nodup)(hi:X.N[i]?=some x)(hx:Loc X.env.scope x)(r:RelV v u)(h:∀ s',Inv X pQ (σ.set i (some v)) H s'->Q () s')(hf:X.fn x=true\/X.env.scope.names.lookup x=some .local:=by first|exact .inl rfl|exact .inr rfl|assumption):wpAny M A (storeName X.env x u) Q E s:=
  store_ok2 I hN hi hx r (fun s' I' _=>h s' I') hf
theorem Inv.call'{ch:Li Ad}(I:Inv X pQ σ H s)(ho:s'.os=s.os)(u:Un (frs X.stack) ch H H' s.heap s'.heap)(hok:HOk X.prog X.w H' s'.heap)(hg:AllBare s'.gens)(hch:∀ b∈ch,(b∈X.ex\/X.s₀.heap.objs.size<=b)/\b≠X.env.locals/\(∀ x c,X.env.cells.lookup x=some c->c≠b)/\∀ p∈X.pn++pQ,p.1≠b):Inv X pQ σ H' s':=by
  obtain⟨h',g',d',t',o'⟩:=s';have e:o'=s.os:=ho;subst e;exact I.call (g':=g') (t':=t') (d':=d') u hok hg hch
end

abbrev XK:=vL->Ot Ad->Hp->Prop
noncomputable abbrev St:=Li (Ot V)
abbrev VK:=V->Hp->Prop
abbrev TE:=St->Hp->VK->Prop
abbrev TT:=St->Hp->(Bool->Hp->Prop)->Prop
abbrev TA:=St->Hp->(Li V->Hp->Prop)->Prop
structure Ends where
  nx:St->Hp->Prop
  rt:VK
  bk:St->Hp->Prop:=fun _ _=>False
  ct:St->Hp->Prop:=fun _ _=>False
abbrev TS:=Ends->St->Hp->Prop

def EP(X:Cx)(pQ:Li (Ad×Obj))(σ:St)(Q:VK)(u:vL)(s':sH7):Prop:=∃ v H',Inv X pQ σ H' s'/\RelV v u/\Q v H'
def TP(X:Cx)(pQ:Li (Ad×Obj))(σ:St)(Q:Bool->Hp->Prop)(b:Bool)(s':sH7):Prop:=∃ H',Inv X pQ σ H' s'/\Q b H'
def AP(X:Cx)(pQ:Li (Ad×Obj))(σ:St)(Q:Li V->Hp->Prop)(us:Li vL)(s':sH7):Prop:=∃ vs H',Inv X pQ σ H' s'/\Vals vs us/\Q vs H'
def SP(X:Cx)(pQ:Li (Ad×Obj))(D:Ends)(f:Flow)(s':sH7):Prop:=
  match f with
  |.next=>∃ σ' H',Inv X pQ σ' H' s'/\D.nx σ' H'
  |.brk=>∃ σ' H',Inv X pQ σ' H' s'/\D.bk σ' H'
  |.cont=>∃ σ' H',Inv X pQ σ' H' s'/\D.ct σ' H'
  |.ret u=>∃ v σ' H',Inv X pQ σ' H' s'/\RelV v u/\D.rt v H'

def PE(X:Cx)(e:Expr)(t:TE):Prop:=
  ∀ (pQ:Li (Ad×Obj)) (s:sH7) (σ:St) (H:Hp) (Q:VK),Inv X pQ σ H s->t σ H Q->wpAny (model X.prog X.w) X.A (eval e X.env) (EP X pQ σ Q) X.xe s
def PT(X:Cx)(e:Expr)(t:TT):Prop:=
  ∀ (pQ:Li (Ad×Obj)) (s:sH7) (σ:St) (H:Hp) (Q:Bool->Hp->Prop),Inv X pQ σ H s->t σ H Q->wpAny (model X.prog X.w) X.A (isTrue e X.env (eval e X.env)) (TP X pQ σ Q) X.xe s
def PW(X:Cx)(e:Expr)(t:TT):Prop:=
  ∀ (whole:Sem vL) (pQ:Li (Ad×Obj)) (s:sH7) (σ:St) (H:Hp) (Q:Bool->Hp->Prop),Inv X pQ σ H s->t σ H Q->wpAny (model X.prog X.w) X.A (isTrue e X.env whole) (TP X pQ σ Q) X.xe s
variable{X:Cx}
theorem PW.pt{e:Expr}{t:TT}(h:PW X e t):PT X e t:=h _
def PA(X:Cx)(es:Li Expr)(t:TA):Prop:=
  ∀ (pos:Pos) (pQ:Li (Ad×Obj)) (s:sH7) (σ:St) (H:Hp) (Q:Li V->Hp->Prop),Inv X pQ σ H s->t σ H Q->wpAny (model X.prog X.w) X.A (spliced (backTo pos (starEach es X.env))) (AP X pQ σ Q) X.xe s
def PS(X:Cx)(st:Stmt)(t:TS):Prop:=
  ∀ (pQ:Li (Ad×Obj)) (s:sH7) (σ:St) (H:Hp) (D:Ends),Inv X pQ σ H s->t D σ H->wpAny (model X.prog X.w) X.A (exec st X.env) (SP X pQ D) X.xe s
def PSs(X:Cx)(st:Li Stmt)(t:TS):Prop:=
  ∀ (pQ:Li (Ad×Obj)) (s:sH7) (σ:St) (H:Hp) (D:Ends),Inv X pQ σ H s->t D σ H->wpAny (model X.prog X.w) X.A (execs st X.env) (SP X pQ D) X.xe s
variable{M:Model}{A:Around}
theorem thn{α:Type}{t:Sem α}{Q Q':α->sH7->Prop}{E:vL->sH7->Prop}{s:sH7}(h:wpAny M A t Q E s)(hQ:∀ a s,Q a s->Q' a s):wpAny M A t Q' E s:=bD h hQ fun _ _ x=>x
variable{pQ:Li (Ad×Obj)}{s:sH7}{Q:vL->sH7->Prop}
section
variable {X:Cx}


noncomputable def tVar(i:Nat):TE:=fun σ H Q=>∃ v,σ[i]?=some (some v)/\Q v H
noncomputable def tC(v:V):TE:=fun _ H Q=>Q v H
theorem pe_var{x:Str}{pos:Pos}(hN:X.N[i]?=some x)(hv:Vis X.env.scope x)(hd:(x==("__debug__":Str))=false:=by decide)(hcd:(x==("__classdict__":Str))=false:=by decide):PE X (.Name x pos) (tVar i):=by
  intro pQ s σ H Q I h;obtain⟨v,e,h⟩:=h;obtain⟨m,hn,hl⟩:=I.loc;obtain⟨u,r,l⟩:=hl i x v hN e hv;have fin:EP X pQ σ Q u s:=⟨v,H,I,r,h⟩;rcases l with⟨hk,hm⟩|⟨hk,c,hc,hcell⟩
  · exact wpAny_Name (wpAny_loadName_local I.ok.kind hk hn hm fin) hd
  · rcases hk with hk|hk
    · exact wpAny_Name (wpAny_loadName_cell I.ok.kind hk hc hcell fin) hd
    · exact wpAny_Name (wpAny_loadName_free I.ok.kind hk hc hcell fin hcd) hd
theorem pe_int{i j pos}:PE X (.Constant (.int i) j pos) (tC (.int i)):=fun _ _ _ H _ I h=>wpAny_Constant_int ⟨.int i,H,I.tok _,⟨_,rfl⟩,h⟩
theorem pe_bl{b j pos}:PE X (.Constant (.bool b) j pos) (tC (.bl b)):=fun _ _ _ H _ I h=>Constant_bool ⟨.bl b,H,I,rfl,h⟩
theorem pe_non{j pos}:PE X (.Constant .none j pos) (tC .non):=fun _ _ _ H _ I h=>Constant_none ⟨.non,H,I,rfl,h⟩
theorem pe_str{x j pos}:PE X (.Constant (.str x) j pos) (tC (.str x)):=fun _ _ _ H _ I h=>Calls.Constant_str ⟨.str x,H,I.tok _,⟨_,rfl⟩,h⟩

def Gl(X:Cx)(x:Str):Prop:=X.env.kindOf x=some .globalImplicit
theorem ld_glob{E:vL->sH7->Prop}{σ:St}{x:Str}{u:vL}{pos:Pos}(I:Inv X pQ σ H s)(hg:Gl X x)(hm:X.mg x=some u)(h:Q u s)(hd:(x==("__debug__":Str))=false:=by decide):wpAny (model X.prog X.w) X.A (eval (.Name x pos) X.env) Q E s:=
  Calls.Name_function_global I.ok.kind hg (Calls.loadGlobal_global (by rw[I.ok.glob];exact I.mod.glob.keeps I.bk) hm h) hd
theorem ld_blt{E:vL->sH7->Prop}{σ:St}{x:Str}{u:vL}{pos:Pos}(I:Inv X pQ σ H s)(hg:Gl X x)(hm:X.mg x=none)(hv:bootBuiltins x=some u)(h:Q u s)(hn:x ≠ "__name__":=by decide)(hd:(x==("__debug__":Str))=false:=by decide):wpAny (model X.prog X.w) X.A (eval (.Name x pos) X.env) Q E s:=by
  obtain⟨mb,h1,h2⟩:=I.mod.blt;exact Calls.Name_function_global I.ok.kind hg (Calls.loadGlobal_builtin (by rw[I.ok.glob];exact I.mod.glob.keeps I.bk) hm (by rw[I.ok.blt];exact h1.keeps I.bk) ((h2 x hn).trans hv) h) hd
theorem pe_glob{x:Str}{v:V}{u:vL}{pos:Pos}(hg:Gl X x)(hm:X.mg x=some u)(r:RelV v u)(hd:(x==("__debug__":Str))=false:=by decide):PE X (.Name x pos) (tC v):=
  fun _ _ _ H _ I h=>ld_glob I hg hm ⟨v,H,I,r,h⟩ hd
theorem pe_bltn{x:Str}{v:V}{u:vL}{pos:Pos}(hg:Gl X x)(hm:X.mg x=none)(hv:bootBuiltins x=some u)(r:RelV v u)(hn:x ≠ "__name__":=by decide)(hd:(x==("__debug__":Str))=false:=by decide):PE X (.Name x pos) (tC v):=
  fun _ _ _ H _ I h=>ld_blt I hg hm hv ⟨v,H,I,r,h⟩ hn hd

variable {a b:Expr}{ta tb:TE}{pos:Pos}

noncomputable def tB(t:TE):TT:=fun σ H Q=>t σ H fun x H1=>∃ c,x=.bl c/\Q c H1
theorem pt_val{e:Expr}{t:TE}(h:PE X e t)(he:∀ whole,isTrue e X.env whole=(do let v <-whole;standAt e.pos;holding [v] (truthy v)):=by intro _;rfl):PT X e (tB t):=by
  intro pQ s σ H Q I hw;refine isTrue_plain (thn (h pQ s σ H _ I hw) fun v s1 ⟨x,H1,I1,r1,q1⟩=>?_) (he _)
  obtain⟨d,rfl,q⟩:=q1;cases r1;exact wpAny_truthy_bool ⟨H1,I1,q⟩

variable {tA tB':TT}{rest:Li Expr}
noncomputable def tAnd(t u:TT):TT:=fun σ H Q=>t σ H fun c H1=>if c=true then u σ H1 Q else Q false H1
noncomputable def tOr(t u:TT):TT:=fun σ H Q=>t σ H fun c H1=>if c=true then Q true H1 else u σ H1 Q
noncomputable def tNot(t:TT):TT:=fun σ H Q=>t σ H fun c H1=>Q (!c) H1
theorem pw_and1(ha:PT X a tA):PW X (.BoolOp .And [a] pos) tA:=by
  intro wh pQ s σ H Q I h;refine isTrue_and (thn (ha pQ s σ H Q I h) fun c s1 e=>?_)
  cases c with
  |true=>exact isTrue_and_nil e
  |false=>exact e
theorem pw_or1(ha:PT X a tA):PW X (.BoolOp .Or [a] pos) tA:=by
  intro wh pQ s σ H Q I h;refine isTrue_or (thn (ha pQ s σ H Q I h) fun c s1 e=>?_)
  cases c with
  |false=>exact isTrue_or_nil e
  |true=>exact e
theorem pw_and(ha:PT X a tA)(hb:PW X (.BoolOp .And (b :: rest) pos) tB'):PW X (.BoolOp .And (a :: b :: rest) pos) (tAnd tA tB'):=by
  intro wh pQ s σ H Q I h;refine isTrue_and (thn (ha pQ s σ H _ I h) fun c s1 ⟨H1,I1,q1⟩=>?_)
  cases c with
  |true=>exact hb wh pQ s1 σ H1 Q I1 q1
  |false=>exact⟨H1,I1,q1⟩
theorem pw_or(ha:PT X a tA)(hb:PW X (.BoolOp .Or (b :: rest) pos) tB'):PW X (.BoolOp .Or (a :: b :: rest) pos) (tOr tA tB'):=by
  intro wh pQ s σ H Q I h;refine isTrue_or (thn (ha pQ s σ H _ I h) fun c s1 ⟨H1,I1,q1⟩=>?_)
  cases c with
  |true=>exact⟨H1,I1,q1⟩
  |false=>exact hb wh pQ s1 σ H1 Q I1 q1
theorem pt_not(ha:PT X a tA):PT X (.UnaryOp .Not a pos) (tNot tA):=by
  intro pQ s σ H Q I h;exact isTrue_not (ha pQ s σ H (fun c H1=>Q (!c) H1) I h)
noncomputable def tAndV(ta tb:TE):TE:=fun σ H Q=>ta σ H fun x H1=>∃ c,x=.bl c/\if c=true then tb σ H1 Q else Q (.bl false) H1
noncomputable def tOrV(ta tb:TE):TE:=fun σ H Q=>ta σ H fun x H1=>∃ c,x=.bl c/\if c=true then Q (.bl true) H1 else tb σ H1 Q
noncomputable def tNotV(ta:TE):TE:=fun σ H Q=>ta σ H fun x H1=>∃ c,x=.bl c/\Q (.bl (!c)) H1
theorem pe_one{op}{t:TE}(h:PE X a t):PE X (.BoolOp op [a] pos) t:=fun pQ s σ H Q I hw=>BoolOp_one (h pQ s σ H Q I hw)
theorem pe_and(ha:PE X a ta)(hb:PE X (.BoolOp .And (b :: rest) pos) tb):PE X (.BoolOp .And (a :: b :: rest) pos) (tAndV ta tb):=by
  intro pQ s σ H Q I h;refine BoolOp_and (thn (ha pQ s σ H _ I h) fun v s1 ⟨x,H1,I1,r1,q1⟩=>?_)
  obtain⟨c,rfl,q1⟩:=q1;cases r1;refine wpAny_truthy_bool ?_;cases c with
  |true=>exact hb pQ s1 σ H1 Q I1 q1
  |false=>exact⟨.bl false,H1,I1,rfl,q1⟩
theorem pe_or(ha:PE X a ta)(hb:PE X (.BoolOp .Or (b :: rest) pos) tb):PE X (.BoolOp .Or (a :: b :: rest) pos) (tOrV ta tb):=by
  intro pQ s σ H Q I h;refine BoolOp_or (thn (ha pQ s σ H _ I h) fun v s1 ⟨x,H1,I1,r1,q1⟩=>?_)
  obtain⟨c,rfl,q1⟩:=q1;cases r1;refine wpAny_truthy_bool ?_;cases c with
  |false=>exact hb pQ s1 σ H1 Q I1 q1
  |true=>exact⟨.bl true,H1,I1,rfl,q1⟩
theorem pe_not(ha:PE X a ta):PE X (.UnaryOp .Not a pos) (tNotV ta):=by
  intro pQ s σ H Q I h;refine UnaryOp_ (thn (ha pQ s σ H _ I h) fun v s1 ⟨x,H1,I1,r1,q1⟩=>?_)
  obtain⟨c,rfl,q1⟩:=q1;cases r1;exact not_of (wpAny_truthy_bool ⟨.bl (!c),H1,I1,rfl,q1⟩)
noncomputable def tIf(t:TT)(ta tb:TE):TE:=fun σ H Q=>t σ H fun c H1=>if c=true then ta σ H1 Q else tb σ H1 Q
theorem pe_ifExp{c:Expr}(hc:PT X c tA)(ha:PE X a ta)(hb:PE X b tb):PE X (.IfExp c a b pos) (tIf tA ta tb):=by
  intro pQ s σ H Q I h;refine wpAny_IfExp (thn (hc pQ s σ H _ I h) fun d s1 ⟨H1,I1,q1⟩=>?_)
  cases d with
  |true=>exact ha pQ s1 σ H1 Q I1 q1
  |false=>exact hb pQ s1 σ H1 Q I1 q1
end
def SqL(K:Fg)(H:Hp)(a:Ad)(xs:Li V):Prop:=
  Rd H a (.lst xs) \/
    ∃ (o:Obj) (its:Array vL) (n:Nat),K.lookup a=some o/\o.cls=.type "list"/\o.dict=none/\o.data=.seq its n/\its.size<=sizeLine/\Vals xs its.toList
def SqT(K:Fg)(H:Hp)(a:Ad)(xs:Li V):Prop:=
  Rd H a (.tup xs) \/
    ∃ (o:Obj) (its:Array vL) (n:Nat),K.lookup a=some o/\o.cls=.type "tuple"/\o.data=.seq its n/\its.size<=sizeLine/\Vals xs its.toList
noncomputable def absV:vL->Ot V
  |.none=>some .non
  |.bool b=>some (.bl b)
  |.int i _=>some (.int i)
  |.str x _=>some (.str x)
  |.bytes b _=>some (.byt b)
  |.float b _=>some (.flt b)
  |.ref a=>some (.ref a)
  |.type n=>some (.ty n)
  |_=>none
theorem RelV.abs{x:V}{u:vL}(r:RelV x u):absV u=some x:=by
  cases x with
  |non=>cases r;rfl
  |bl _=>cases r;rfl
  |int _=>obtain⟨t,rfl⟩:=r;rfl
  |str _=>obtain⟨t,rfl⟩:=r;rfl
  |byt _=>obtain⟨t,rfl⟩:=r;rfl
  |flt _=>obtain⟨t,rfl⟩:=r;rfl
  |ref _=>cases r;rfl
  |ty _=>cases r;rfl
variable{y:V}
theorem RelV.inj{x:V}{u:vL}(r:RelV x u)(q:RelV y u):x=y:=Option.some.inj (r.abs.symm.trans q.abs)
theorem Vals.inj:∀ {xs ys:Li V}{us:Li vL},Vals xs us->Vals ys us->xs=ys
  |_,_,_,.nil,.nil=>rfl
  |_,_,_,.cons r t,.cons r' t'=>by rw[r.inj r',Vals.inj t t']
variable{K:Fg}
section
variable {X:Cx}{pQ:Li (Ad×Obj)}{σ:St}{H:Hp}{s:sH7}{a:Ad}{xs ys:Li V}
theorem SqT.of(h:H a=some (.tup xs)):SqT K H a xs:=.inl (.inl h)
theorem Inv.list(I:Inv X pQ σ H s)(h:SqL X.K H a xs):∃ its:Li vL,Vals xs its/\PlainL s.heap a its.toArray/\xs.length<=sizeLine:=by
  rcases h with h|⟨o,its,n,hk,hc,hd,hs,hz,r⟩
  · obtain⟨z,its,n,r,e⟩:=h.ok I.hok
    exact⟨its,r,⟨_,n,e,rfl,rfl,rfl⟩,z⟩
  · refine⟨its.toList,r,⟨o,n,I.kIn a o hk,hc,hd,by simpa using hs⟩,?_⟩
    have e:=r.length;simp only[bO]at e;omega
theorem Inv.tuple(I:Inv X pQ σ H s)(h:SqT X.K H a xs):∃ its:Li vL,Vals xs its/\IsTup s.heap a its.toArray/\xs.length<=sizeLine:=by
  rcases h with h|⟨o,its,n,hk,hc,hs,hz,r⟩
  · obtain⟨z,its,r,p⟩:=h.ok I.hok
    exact⟨its,r,p,z⟩
  · refine⟨its.toList,r,⟨o,I.kIn a o hk,hc,n,by simpa using hs⟩,?_⟩
    have e:=r.length;simp only[bO]at e;omega
theorem Inv.list_inj(I:Inv X pQ σ H s)(h:SqL X.K H a xs)(h':SqL X.K H a ys):xs=ys:=by
  obtain⟨its,r,⟨o,n,e,_,_,d⟩,_⟩:=I.list h;obtain⟨its',r',⟨o',n',e',_,_,d'⟩,_⟩:=I.list h';rw[e]at e';cases e'
  rw[d]at d'
  injection d' with d1 _
  have:its=its':=by simpa using congrArg Array.toList d1
  subst this;exact r.inj r'
theorem Inv.tuple_inj(I:Inv X pQ σ H s)(h:SqT X.K H a xs)(h':SqT X.K H a ys):xs=ys:=by
  obtain⟨its,r,⟨o,e,_,n,d⟩,_⟩:=I.tuple h;obtain⟨its',r',⟨o',e',_,n',d'⟩,_⟩:=I.tuple h';rw[e]at e';cases e'
  rw[d]at d'
  injection d' with d1 _
  have:its=its':=by simpa using congrArg Array.toList d1
  subst this;exact r.inj r'
end

noncomputable abbrev Cx.wish(X:Cx)(E:vL->sH7->Prop):Cx:={ X with xe:=E }
noncomputable abbrev Cx.nox(X:Cx):Cx:=X.wish fun _ _=>False
theorem Cx.Ok.wish(ok:X.Ok)(E:vL->sH7->Prop):(X.wish E).Ok:=
  ⟨ok.mod,ok.kind,ok.glob,ok.blt,ok.above,ok.inj,ok.has,ok.cab,ok.hd,ok.frames,ok.stk,ok.exf,ok.bs,ok.bsz,ok.noex,ok.exfs,ok.funs,ok.frf⟩
theorem Cx.Ok.unwish{E:vL->sH7->Prop}(ok:(X.wish E).Ok):X.Ok:=
  ⟨ok.mod,ok.kind,ok.glob,ok.blt,ok.above,ok.inj,ok.has,ok.cab,ok.hd,ok.frames,ok.stk,ok.exf,ok.bs,ok.bsz,ok.noex,ok.exfs,ok.funs,ok.frf⟩
section
variable {X:Cx}{pQ:Li (Ad×Obj)}{σ:St}{H:Hp}{s:sH7}{E:vL->sH7->Prop}
theorem Inv.wish(I:Inv X pQ σ H s)(E:vL->sH7->Prop):Inv (X.wish E) pQ σ H s:=⟨I.ok.wish E,I.os,I.bare,I.base,I.loc,I.cell,I.free,I.freeC,I.pin,I.hok,I.len⟩
theorem Inv.unwish(I:Inv (X.wish E) pQ σ H s):Inv X pQ σ H s:=⟨I.ok.unwish,I.os,I.bare,I.base,I.loc,I.cell,I.free,I.freeC,I.pin,I.hok,I.len⟩
theorem SP.unwish{D:Ends}{f:Flow}(h:SP (X.wish E) pQ D f s'):SP X pQ D f s':=by
  cases f with
  |next=>obtain⟨σ',H',I,q⟩:=h;exact⟨σ',H',I.unwish,q⟩
  |brk=>obtain⟨σ',H',I,q⟩:=h;exact⟨σ',H',I.unwish,q⟩
  |cont=>obtain⟨σ',H',I,q⟩:=h;exact⟨σ',H',I.unwish,q⟩
  |ret u=>obtain⟨v,σ',H',I,r,q⟩:=h;exact⟨v,σ',H',I.unwish,r,q⟩
end

section
variable {X:Cx}{st:Stmt}{rest:Li Stmt}{t u:TS}{e:Expr}{te:TE}{pos:Pos}
noncomputable def tNext:TS:=fun D σ H=>D.nx σ H
noncomputable def tSeq(t u:TS):TS:=fun D σ H=>t { D with nx:=u D } σ H
theorem pss_nil:PSs X [] tNext:=fun _ _ σ H _ I h=>wpAny_execs_nil ⟨σ,H,I,h⟩
theorem pss_cons(h1:PS X st t)(h2:PSs X rest u):PSs X (st :: rest) (tSeq t u):=by
  intro pQ s σ H D I h;refine wpAny_execs_cons (thn (h1 pQ s σ H { D with nx:=u D } I h) fun f s1 q=>?_)
  cases f with
  |next=>
    obtain⟨σ',H',I',q⟩:=q;exact h2 pQ s1 σ' H' D I' q
  |ret v=>exact q
  |brk=>exact q
  |cont=>exact q
theorem pss_one(h1:PS X st t):PSs X [st] t:=by
  intro pQ s σ H D I h;refine wpAny_execs_cons (thn (h1 pQ s σ H D I h) fun f s1 q=>?_)
  cases f with
  |next=>exact wpAny_execs_nil q
  |ret v=>exact q
  |brk=>exact q
  |cont=>exact q
noncomputable def tBreak:TS:=fun D σ H=>D.bk σ H
noncomputable def tCont:TS:=fun D σ H=>D.ct σ H
theorem ps_pass:PS X (.Pass pos) tNext:=fun _ _ σ H _ I h=>wpAny_Pass ⟨σ,H,I,h⟩
theorem ps_break:PS X (.Break pos) tBreak:=fun _ _ σ H _ I h=>wpAny_Break ⟨σ,H,I,h⟩
theorem ps_continue:PS X (.Continue pos) tCont:=fun _ _ σ H _ I h=>wpAny_Continue ⟨σ,H,I,h⟩
theorem Inv.quiet{σ:St}(I:Inv X pQ σ H s):interactive X.env=false:=by simp[interactive,I.ok.kind]
noncomputable def tDrop(te:TE):TS:=fun D σ H=>te σ H fun _ H1=>D.nx σ H1
theorem ps_expr(he:PE X e te)(hs:swapsWith e none pos.line X.env=pure false:=by rfl):PS X (.Expr e pos) (tDrop te):=by
  intro pQ s σ H D I h;exact wpAny_Expr_any (thn (he pQ s σ H _ I h) fun v s1 ⟨x,H1,I1,r1,q1⟩=>⟨σ,H1,I1,q1⟩) I.quiet hs
noncomputable def tRet(te:TE):TS:=fun D σ H=>te σ H D.rt
theorem ps_ret(he:PE X e te):PS X (.Return (some e) pos) (tRet te):=by
  intro pQ s σ H D I h;exact wpAny_Return_some (thn (he pQ s σ H _ I h) fun v s1 ⟨x,H1,I1,r1,q1⟩=>⟨x,σ,H1,I1,r1,q1⟩)
noncomputable def tIfS(c:TT)(t u:TS):TS:=fun D σ H=>c σ H fun b H1=>if b=true then t D σ H1 else u D σ H1
theorem ps_if{c:Expr}{a b:Li Stmt}{tc:TT}(hc:PT X c tc)(ha:PSs X a t)(hb:PSs X b u):PS X (.If c a b pos) (tIfS tc t u):=by
  intro pQ s σ H D I h;refine wpAny_If (thn (hc pQ s σ H _ I h) fun d s1 ⟨H1,I1,q1⟩=>?_)
  cases d with
  |true=>exact ha pQ s1 σ H1 D I1 q1
  |false=>exact hb pQ s1 σ H1 D I1 q1
end

abbrev TG:=V->St->Hp->(St->Hp->Prop)->Prop
abbrev TGs:=Li V->St->Hp->(St->Hp->Prop)->Prop
def PG(X:Cx)(target:Expr)(t:TG):Prop:=
  ∀ (pQ:Li (Ad×Obj)) (s:sH7) (σ:St) (H:Hp) (v:V) (u:vL) (Q:St->Hp->Prop),Inv X pQ σ H s->RelV v u->t v σ H Q->
    wpAny (model X.prog X.w) X.A (assign target X.env u) (fun _ s'=>∃ σ' H',Inv X pQ σ' H' s'/\Q σ' H') X.xe s
def PGs(X:Cx)(ts:Li Expr)(t:TGs):Prop:=
  ∀ (pQ:Li (Ad×Obj)) (s:sH7) (σ:St) (H:Hp) (vs:Li V) (us:Li vL) (Q:St->Hp->Prop),Inv X pQ σ H s->Vals vs us->t vs σ H Q->
    wpAny (model X.prog X.w) X.A (assignInOrder ((assignEach ts X.env).map (·.2)) us) (fun _ s'=>∃ σ' H',Inv X pQ σ' H' s'/\Q σ' H') X.xe s
abbrev TSet:=V->V->V->Hp->(Hp->Prop)->Prop
def PSet(X:Cx)(t:TSet):Prop:=
  ∀ (pQ:Li (Ad×Obj)) (s:sH7) (σ:St) (H:Hp) (o i v:V) (ov iv u:vL) (Q:Hp->Prop),Inv X pQ σ H s->RelV o ov->RelV i iv->RelV v u->t o i v H Q->
    wpAny (model X.prog X.w) X.A (setItem ov iv u) (fun _ s'=>∃ H',Inv X pQ σ H' s'/\Q H') X.xe s
variable{es:Li Expr}{n:Nat}{tg:Expr}
section
variable {X:Cx}{pos:Pos}
noncomputable def gName(i:Nat):TG:=fun v σ H Q=>Q (σ.set i (some v)) H
theorem pg_name{x:Str}(hN:X.N.Nodup)(hi:X.N[i]?=some x)(hx:Loc X.env.scope x)(hf:X.fn x=true\/X.env.scope.names.lookup x=some .local:=by first|exact .inl rfl|exact .inr rfl|assumption):PG X (.Name x pos) (gName i):=by
  intro pQ s σ H v u Q I r h;exact wpAny_assign_Name (store_ok I hN hi hx r (fun s' I'=>⟨_,H,I',h⟩) hf)
noncomputable def gNil:TGs:=fun vs σ H Q=>vs=[]/\Q σ H
noncomputable def gCons(t:TG)(u:TGs):TGs:=fun vs σ H Q=>∃ v r,vs=v :: r/\t v σ H fun σ' H'=>u r σ' H' Q
theorem pgs_nil:PGs X [] gNil:=by
  intro pQ s σ H vs us Q I r h;obtain⟨e,h⟩:=h;subst e;cases r;exact assignInOrder_nil ⟨σ,H,I,h⟩
theorem pgs_cons{e:Expr}{t:TG}{u:TGs}(h1:PG X e t)(h2:PGs X es u)(hs:(assignEach (e :: es) X.env).map (·.2)=assign e X.env :: (assignEach es X.env).map (·.2):=by rfl):PGs X (e :: es) (gCons t u):=by
  intro pQ s σ H vs us Q I r h;obtain⟨v,vr,e1,h⟩:=h;subst e1;cases r with
  |cons r rr=>
    rw[hs];refine assignInOrder_cons (thn (h1 pQ s σ H _ _ _ I r h) fun _ s1 ⟨σ1,H1,I1,q1⟩=>?_)
    exact h2 pQ s1 σ1 H1 _ _ Q I1 rr q1
noncomputable def gTup(K:Fg)(n:Nat)(t:TGs):TG:=fun v σ H Q=>∃ a xs,v=.ref a/\SqT K H a xs/\xs.length=n/\t xs σ H Q
theorem pg_tup{k:Nat}{t:TGs}(hc:X.calm=true)(h:PGs X es t)(hn:(assignEach es X.env).length=n:=by rfl)(hst:(assignEach es X.env).findIdx? (·.1)=none:=by rfl):PG X (.Tuple es k pos) (gTup X.K n t):=by
  intro pQ s σ H v u Q I r hw;obtain⟨a,xs,e1,hq,hl,hw⟩:=hw;subst e1;cases r;obtain⟨its,rv,ht,hz⟩:=I.tuple hq;refine assign_Tuple_tuple (I.ok.hd hc) ht (by simp[hn,<-hl,rv.length]) hst fun h' hx=>?_
  have I1:Inv X pQ σ H { s with heap:=h' }:=I.kept (t':=s.toks) fun b o e=>hx b o (aZ (aI e)) e
  exact h pQ _ σ H xs _ Q I1 (by simpa using rv) hw
noncomputable def gSub(to ti:TE)(t:TSet):TG:=fun v σ H Q=>to σ H fun o H1=>ti σ H1 fun i H2=>t o i v H2 fun H3=>Q σ H3
theorem pg_sub{o i:Expr}{to ti:TE}{t:TSet}(ho:PE X o to)(hi:PE X i ti)(hs:PSet X t)(ha:∀ v,assign (.Subscript o i pos) X.env v=(do
      let ov <-holding [v] (eval o X.env)
      let iv <-holding [v,ov] (eval i X.env)
      standAt pos
      holding [v,ov,iv] (setItem ov iv v)
      release [v,ov,iv] []):=by intro _;rfl):PG X (.Subscript o i pos) (gSub to ti t):=by
  intro pQ s σ H v u Q I r h;rw[ha];refine aA (wpAny_holding (thn (ho pQ s σ H _ I h) fun ov s1 ⟨x,H1,I1,r1,q1⟩=>?_))
  refine aA (wpAny_holding (thn (hi pQ s1 σ H1 _ I1 q1) fun iv s2 ⟨y,H2,I2,r2,q2⟩=>?_))
  refine aA (wpAny_standAt (aA (wpAny_holding (thn (hs pQ s2 σ H2 x y v ov iv u _ I2 r1 r2 r q2) fun _ s3 ⟨H3,I3,q3⟩=>?_))))
  exact wpAny_release ⟨σ,H3,I3,q3⟩
noncomputable def tAsg(te:TE)(g:TG):TS:=fun D σ H=>te σ H fun x H1=>g x σ H1 D.nx
theorem ps_asg{e:Expr}{te:TE}{g:TG}(he:PE X e te)(hg:PG X tg g)(hs:swapsWithSole [tg] e pos.line X.env=pure false:=by rfl)(hw:swappedStores [tg] e X.env=pure none:=by rfl)(h1:(assignEach [tg] X.env).map (·.2)=[assign tg X.env]:=by rfl):PS X (.Assign [tg] e pos) (tAsg te g):=by
  intro pQ s σ H D I h;refine wpAny_Assign_stores (thn (he pQ s σ H _ I h) fun v s1 ⟨x,H1,I1,r1,q1⟩=>?_) hs hw
  rw[h1];exact thn (hg pQ s1 σ H1 x v _ I1 r1 q1) fun _ s2 q=>q
theorem ps_set{x:Str}{e:Expr}{te:TE}{pos':Pos}(hN:X.N.Nodup)(hi:X.N[i]?=some x)(hx:Loc X.env.scope x)(he:PE X e te)(hs:swapsWith e (some (.Name x pos')) pos.line X.env=pure false:=by rfl)(hf:X.fn x=true\/X.env.scope.names.lookup x=some .local:=by first|exact .inl rfl|exact .inr rfl|assumption) :
    PS X (.Assign [.Name x pos'] e pos) (tAsg te (gName i)):=by
  intro pQ s σ H D I h;refine wpAny_Assign_Name (thn (he pQ s σ H _ I h) fun v s1 ⟨y,H1,I1,r1,q1⟩=>?_) hs
  exact store_ok I1 hN hi hx r1 (fun s2 I2=>⟨_,H1,I2,q1⟩) hf
end

section
variable {X:Cx}{pos:Pos}
end

structure It where
  go:Nat->Hp->Prop
  yld:Nat->Hp->V->Hp->Prop
  stop:Nat->Hp->Prop
def FpOk(X:Cx)(pQ:Li (Ad×Obj))(H:Hp)(b:Ad):Prop:=
  H b=none/\b≠X.env.locals/\b∉X.fs/\(b∈X.ex\/X.s₀.heap.objs.size<=b)/\(∀ x c,X.env.cells.lookup x=some c->c≠b)/\∀ p∈X.pn++pQ,p.1≠b
theorem Inv.fpOk{σ:St}{H':Hp}{b:Ad}(I:Inv X pQ σ H s)(hb:s.heap.objs.size<=b)(hn:H' b=none):FpOk X pQ H' b:=by
  refine⟨hn,Nat.ne_of_gt (aQ I.lt hb),I.nofs hb,.inr (aH I.sz hb),fun x c e z=>?_,fun p hp z=>?_⟩
  · obtain⟨v,q⟩:=I.cell x c e
    exact absurd (aQ q.lt (by rw[z];exact hb)) (bM _)
  · exact absurd (aQ (aI (I.pin p hp).1) (by rw[z];exact hb)) (bM _)
structure Turn(P:Program)(w:World)(K:Fg)(tg:Expr)(J:It)(fp:List Addr)(it:Addr)(tn:Nat->Heap->Prop):Prop where
  mem:it∈fp
  obj:∀ i h,tn i h->∀ b∈fp,∃ o,h.get? b=some o/\∀ v,o.data≠.cell v
  keep:∀ i h h',tn i h->(∀ b∈fp,∀ o,h.get? b=some o->h'.get? b=some o)->tn i h'
  item:∀ (X:Cx),X.prog=P->X.w=w->X.K=K->X.calm=true->∀ (i:Nat) (pQ:List (Addr×Obj)) (s:Shared) (σ:St) (H:Hp) (E:Value->Shared->Prop),Inv X pQ σ H s->(∀ b∈fp,FpOk X pQ H b)->tn i s.heap->J.go i H->
    wpAny (model P w) X.A (pyNext (.ref it)) (fun r s1=>∃ u,r=some u /\
      wpAny (model P w) X.A (letOwnedTupleGo tg (.ref it) u) (fun _ s2=>∃ x H',Inv X pQ σ H' s2/\RelV x u/\J.yld i H x H'/\tn (i+1) s2.heap/\∀ b∈fp,H' b=none) E s1) E s
  done:∀ (X:Cx),X.prog=P->X.w=w->X.K=K->X.calm=true->∀ (i:Nat) (pQ:List (Addr×Obj)) (s:Shared) (σ:St) (H:Hp) (E:Value->Shared->Prop),Inv X pQ σ H s->(∀ b∈fp,FpOk X pQ H b)->tn i s.heap->J.stop i H->
    wpAny (model P w) X.A (pyNext (.ref it)) (fun r s1=>r=none/\Inv X pQ σ H s1) E s
  self:∀ (A:Around) (i:Nat) (s:Shared) (Q:Value->Shared->Prop) (E:Value->Shared->Prop),tn i s.heap->Q (.ref it) s->wpAny (model P w) A (pyIter (.ref it)) Q E s
abbrev TI:=St->Hp->(It->Hp->Prop)->Prop
def PIE(X:Cx)(pQ:Li (Ad×Obj))(σ:St)(tg:Expr)(R:It->Hp->Prop)(itv:vL)(s2:sH7):Prop:=
  ∃ (it:Ad) (fp:Li Ad) (tn:Nat->Heap->Prop) (J:It) (H':Hp),itv=.ref it/\Inv X pQ σ H' s2/\Turn X.prog X.w X.K tg J fp it tn/\tn 0 s2.heap/\(∀ b∈fp,FpOk X pQ H' b)/\R J H'
def PI(X:Cx)(tg iter:Expr)(wi:TI):Prop:=
  ∀ (pQ:Li (Ad×Obj)) (s:sH7) (σ:St) (H:Hp) (R:It->Hp->Prop),Inv X pQ σ H s->wi σ H R->
    wpAny (model X.prog X.w) X.A (eval iter X.env) (fun v s1=>wpAny (model X.prog X.w) X.A (pyIter v) (PIE X pQ σ tg R) X.xe s1) X.xe s

theorem go_of{E:vL->sH7->Prop}{it:Ad}{u:vL}{o:Obj}{n:String}{vs:Array vL}{Q:Unit->sH7->Prop}(ho:s.heap.get? it=some o)(hc:o.cls=.type n)(hd:o.data=.fields vs)(hn:["enumerate", "zip", "dict_itemiterator", "dict_reverseitemiterator", "odict_iterator", "itertools.zip_longest", "itertools.pairwise"].contains n=false)(hQ:Q () s):wpAny M A (letOwnedTupleGo tg (.ref it) u) Q E s:=by
  unfold letOwnedTupleGo;cases tg<;>first
    |exact aD hQ
    | (cases u<;>first
        |exact aD hQ
        | (refine aA (wpAny_load ho ?_)
           rw[hc,hd];show wpAny M A (if (["enumerate", "zip", "dict_itemiterator", "dict_reverseitemiterator", "odict_iterator", "itertools.zip_longest", "itertools.pairwise"].contains n&&vs[0]?==some (rawInt _))=true then _ else _) Q E s
           rw[if_neg (by intro h;rw[hn,dL]at h;cases h)]
           exact aD hQ))

noncomputable def Itl(K:Fg)(a:Ad):It:=
  ⟨fun i H=>∃ xs x,SqL K H a xs/\xs[i]?=some x,fun i H x H'=>H'=H/\∀ xs,SqL K H a xs->xs[i]?=some x,fun i H=>∃ xs,SqL K H a xs/\xs.length<=i⟩
noncomputable def Itt(K:Fg)(a:Ad):It:=
  ⟨fun i H=>∃ xs x,SqT K H a xs/\xs[i]?=some x,fun i H x H'=>H'=H/\∀ xs,SqT K H a xs->xs[i]?=some x,fun i H=>∃ xs,SqT K H a xs/\xs.length<=i⟩
noncomputable def Itr(lo:Int)(n:Nat):It:=⟨fun i _=>i < n,fun i H x H'=>H'=H/\x=.int (lo+i),fun i _=>n<=i⟩
theorem turn_list{P:Program}(a it:Ad):Turn P w K tg (Itl K a) [it] it (fun i h=>h.IsListIter it a i) where
  mem:=by simp
  obj:=fun i h st b hb=>by
    have e:b=it:=by simpa using hb
    subst e;obtain⟨o,e,c,d⟩:=st;exact⟨o,e,fun v z=>by rw[d]at z;cases z⟩
  keep:=fun i h h' st k=>st.at fun o e=>k it (by simp) o e
  item:=by
    intro X hP hw hK hc i pQ s σ H E I hf st hg;subst hP hw hK;obtain⟨xs,x,hq,hx⟩:=hg;obtain⟨its,rv,p,hz⟩:=I.list hq;obtain⟨u,hu,ru⟩:=rv.get hx;obtain⟨f0,f1,f2,f3,f4,f5⟩:=hf it (by simp)
    refine wpAny_pyNext_list_item st p.isList (x:=u) (by simpa using hu) fun h' st' sb=>?_
    have I1:Inv X pQ σ H { s with heap:=h' }:=I.turned (t':=s.toks) (fun b o hb e=>(sb.2 b hb).trans e) f0 f1 f3 f4 f5
    obtain⟨o,e,c,d⟩:=id st';exact⟨u,rfl,go_of (s:={ s with heap:=h' }) e c d (by decide) ⟨x,H,I1,ru,⟨rfl,fun ys hy=>by rw[I.list_inj hy hq];exact hx⟩,st',fun b hb=>(hf b hb).1⟩⟩
  done:=by
    intro X hP hw hK hc i pQ s σ H E I hf st hg;subst hP hw hK;obtain⟨xs,hq,hx⟩:=hg;obtain⟨its,rv,p,hz⟩:=I.list hq;obtain⟨f0,f1,f2,f3,f4,f5⟩:=hf it (by simp)
    have hl:=rv.length;exact wpAny_pyNext_list_end (I.ok.hd hc) st p.isList (by simp;omega) fun h' eb=>⟨rfl,I.turned (t':=s.toks) (fun b o hb e=>eb b o hb e) f0 f1 f3 f4 f5⟩
  self:=fun _ _ _ _ _ st h=>wpAny_pyIter_listiter st h
theorem turn_tuple{P:Program}(a it:Ad):Turn P w K tg (Itt K a) [it] it (fun i h=>h.IsTupleIter it a i) where
  mem:=by simp
  obj:=fun i h st b hb=>by
    have e:b=it:=by simpa using hb
    subst e;obtain⟨o,e,c,d⟩:=st;exact⟨o,e,fun v z=>by rw[d]at z;cases z⟩
  keep:=fun i h h' st k=>st.at fun o e=>k it (by simp) o e
  item:=by
    intro X hP hw hK hc i pQ s σ H E I hf st hg;subst hP hw hK;obtain⟨xs,x,hq,hx⟩:=hg;obtain⟨its,rv,p,hz⟩:=I.tuple hq;obtain⟨u,hu,ru⟩:=rv.get hx;obtain⟨f0,f1,f2,f3,f4,f5⟩:=hf it (by simp)
    refine wpAny_pyNext_tuple_item st (show s.heap.IsTuple a its.toArray from p) (x:=u) (by simpa using hu) fun h' st' sb=>?_
    have I1:Inv X pQ σ H { s with heap:=h' }:=I.turned (t':=s.toks) (fun b o hb e=>(sb.2 b hb).trans e) f0 f1 f3 f4 f5
    obtain⟨o,e,c,d⟩:=id st';exact⟨u,rfl,go_of (s:={ s with heap:=h' }) e c d (by decide) ⟨x,H,I1,ru,⟨rfl,fun ys hy=>by rw[I.tuple_inj hy hq];exact hx⟩,st',fun b hb=>(hf b hb).1⟩⟩
  done:=by
    intro X hP hw hK hc i pQ s σ H E I hf st hg;subst hP hw hK;obtain⟨xs,hq,hx⟩:=hg;obtain⟨its,rv,p,hz⟩:=I.tuple hq;obtain⟨f0,f1,f2,f3,f4,f5⟩:=hf it (by simp)
    have hl:=rv.length;exact wpAny_pyNext_tuple_end (I.ok.hd hc) st (show s.heap.IsTuple a its.toArray from p) (by simp;omega) fun h' eb=>⟨rfl,I.turned (t':=s.toks) (fun b o hb e=>eb b o hb e) f0 f1 f3 f4 f5⟩
  self:=fun _ _ _ _ _ st h=>wpAny_pyIter_tupleiter st h
theorem turn_range{P:Program}(it:Ad)(lo:Int)(n:Nat):Turn P w K tg (Itr lo n) [it] it (fun i h=>IsRangeIter h it (lo+(i:Nat) * 1) ((n:Int) - (i:Nat)) 1) where
  mem:=by simp
  obj:=fun i h st b hb=>by
    have e:b=it:=by simpa using hb
    subst e;exact⟨_,st,fun v z=>by
      have z':Data.fields _=Data.cell v:=z;cases z'⟩
  keep:=fun i h h' st k=>k it (by simp) _ st
  item:=by
    intro X hP hw hK hc i pQ s σ H E I hf st hg;subst hP hw hK;obtain⟨f0,f1,f2,f3,f4,f5⟩:=hf it (by simp)
    have W:=Walks.range (prog:=X.prog) (w:=X.w) (I.ok.hd hc) it lo 1 n;refine W.item i s _ _ hg st fun v h' tk hv st' kk=>?_
    obtain⟨t,rfl⟩:=hv;have I1:Inv X pQ σ H { s with heap:=h',toks:=tk }:=I.turned (fun b o hb e=>kk b o (by simpa using hb) e) f0 f1 f3 f4 f5
    refine⟨_,rfl,go_of (s:={ s with heap:=h',toks:=tk }) (n := "range_iterator") st' rfl rfl (by decide) ⟨.int (lo+i),H,I1,⟨t,?_⟩,⟨rfl,rfl⟩,st',fun b hb=>(hf b hb).1⟩⟩
    rw[Int.mul_one]
  done:=by
    intro X hP hw hK hc i pQ s σ H E I hf st hg;subst hP hw hK;obtain⟨f0,f1,f2,f3,f4,f5⟩:=hf it (by simp)
    exact wpAny_pyNext_range_end (I.ok.hd hc) st (by have:n<=i:=hg;omega) fun h' eb=>⟨rfl,I.turned (t':=s.toks) (fun b o hb e=>eb b o hb e) f0 f1 f3 f4 f5⟩
  self:=fun _ _ _ _ _ st h=>wpAny_pyIter_rangeiter st h
variable{l:Expr}{lo:Int}{fp:Li Ad}
section
variable {X:Cx}{tg:Expr}
noncomputable def iList(K:Fg)(tl:TE):TI:=fun σ H R=>tl σ H fun x H1=>∃ a,x=.ref a/\(∃ xs,SqL K H1 a xs)/\R (Itl K a) H1
noncomputable def iTup(K:Fg)(tl:TE):TI:=fun σ H R=>tl σ H fun x H1=>∃ a,x=.ref a/\(∃ xs,SqT K H1 a xs)/\R (Itt K a) H1
theorem pi_list{tl:TE}(hl:PE X l tl):PI X tg l (iList X.K tl):=by
  intro pQ s σ H R I h;refine thn (hl pQ s σ H _ I h) fun v s1 ⟨x,H1,I1,r1,q1⟩=>?_
  obtain⟨a,e,⟨xs,hq⟩,q⟩:=q1;subst e;cases r1;obtain⟨its,rv,p,hz⟩:=I1.list hq;refine wpAny_pyIter_list p.isList ?_;refine⟨s1.heap.objs.size,[s1.heap.objs.size],_,_,H1,rfl,I1.kept (t':=s1.toks) fun b o e=>aO _ e,turn_list a _,⟨_,bA _ rfl,rfl,rfl⟩,fun b hb=>?_,q⟩
  have e:b=s1.heap.objs.size:=by simpa using hb
  subst e;exact I1.fpOk (aE _) (I1.hok.fresh (aE _))
theorem pi_tup{tl:TE}(hl:PE X l tl):PI X tg l (iTup X.K tl):=by
  intro pQ s σ H R I h;refine thn (hl pQ s σ H _ I h) fun v s1 ⟨x,H1,I1,r1,q1⟩=>?_
  obtain⟨a,e,⟨xs,hq⟩,q⟩:=q1;subst e;cases r1;obtain⟨its,rv,p,hz⟩:=I1.tuple hq;refine wpAny_pyIter_tuple (show s1.heap.IsTuple a its.toArray from p) ?_;refine⟨s1.heap.objs.size,[s1.heap.objs.size],_,_,H1,rfl,I1.kept (t':=s1.toks) fun b o e=>aO _ e,turn_tuple a _,⟨_,bA _ rfl,rfl,rfl⟩,fun b hb=>?_,q⟩
  have e:b=s1.heap.objs.size:=by simpa using hb
  subst e;exact I1.fpOk (aE _) (I1.hok.fresh (aE _))
theorem range_it{σ:St}{R:It->Hp->Prop}{E:vL->sH7->Prop}{hi:Int}{t u v:Tok}{tk:Nat}(I:Inv X pQ σ H s)(h1:-(2 ^ 62)<=lo)(h2:lo < 2 ^ 62)(h3:-(2 ^ 62)<=hi)(h4:hi < 2 ^ 62)(q:R (Itr lo (hi - lo).toNat) H):wpAny (model X.prog X.w) X.A (pyIter (.ref s.heap.objs.size)) (PIE X pQ σ tg R) E { s with heap:=s.heap.push { cls:=.type "range",data:=.fields #[.int lo t,.int hi u,.int 1 v] },toks:=tk }:=by
  refine wpAny_pyIter_range (IsRange.new ..) (small_one h1 h2 h3 h4) ?_;have I1:Inv X pQ σ H { s with heap:=s.heap.push { cls:=.type "range",data:=.fields #[.int lo t,.int hi u,.int 1 v] },toks:=tk }:=I.kept fun b o e=>aO _ e
  refine⟨(s.heap.push { cls:=.type "range",data:=.fields #[.int lo t,.int hi u,.int 1 v] }).objs.size,[(s.heap.push { cls:=.type "range",data:=.fields #[.int lo t,.int hi u,.int 1 v] }).objs.size],_,_,H,rfl,
    I1.kept (t':=tk) fun b o e=>aO _ e,turn_range _ lo (hi - lo).toNat,?_,fun b hb=>?_,q⟩
  · have e1:lo+((0:Nat):Int) * 1=lo:=by simp
    have e2:(((hi - lo).toNat:Nat):Int) - ((0:Nat):Int)=Builtin.Range.rangeSize lo hi 1:=by rw[rangeSize_one];split<;>omega
    show IsRangeIter _ _ (lo+((0:Nat):Int) * 1) ((((hi - lo).toNat:Nat):Int) - ((0:Nat):Int)) 1;rw[e1,e2];exact bA _ rfl
  · have e:b=(s.heap.push { cls:=.type "range",data:=.fields #[.int lo t,.int hi u,.int 1 v] }).objs.size:=by simpa using hb
    subst e;exact I1.fpOk (aE _) (I1.hok.fresh (aE _))
noncomputable def iRng1(ta:TA):TI:=fun σ H R=>ta σ H fun vs H1=>∃ j:Int,vs=[.int j]/\-(2 ^ 62)<=j/\j < 2 ^ 62/\R (Itr 0 j.toNat) H1
theorem pi_range1{a:Expr}{ta:TA}{p pos:Pos}(hg:Gl X "range")(hm:X.mg "range"=none)(ha:PA X [a] ta)(hs:starEach [a] X.env=[(false,eval a X.env)]:=by rfl):PI X tg (.Call (.Name "range" p) [a] [] pos) (iRng1 ta):=by
  intro pQ s σ H R I h;refine Call_ (ld_blt I hg hm boot_range (PyProof.Rows.callWith_type1 (thn (ha pos pQ s σ H _ I h) fun us s1 ⟨vs,H1,I1,r1,q1⟩=>?_) hs rfl))
  obtain⟨j,e,q1,q2,q⟩:=q1;subst e;cases r1 with
  |cons r rr=>
    cases rr;obtain⟨t,rfl⟩:=r;exact call_range_1 (range_it I1 (by omega) (by omega) q1 q2 (by simpa using q))

noncomputable def tFor(wi:TI)(g:TG)(tb:TS):TS:=fun D σ H=>wi σ H fun J H1=>∃ W:Nat->Nat->St->Hp->Prop,(∃ m,W 0 m σ H1)/\∀ i m σ H,W i m σ H->
  (J.stop i H/\D.nx σ H)\/(J.go i H/\∃ N:St->Hp->Prop,(∀ σ' H',N σ' H'->∃ m',m' < m/\W (i+1) m' σ' H')/\∀ x H',J.yld i H x H'->g x σ H' fun σ2 H2=>tb { D with nx:=N,ct:=N,bk:=D.nx } σ2 H2)
noncomputable def pinsAt(fp:Li Ad)(h:Heap):Li (Ad×Obj):=fp.filterMap fun b=>(h.get? b).map fun o=>(b,o)
theorem mem_pinsAt{b:Ad}{o:Obj}(hb:b∈fp)(e:h.get? b=some o):(b,o)∈pinsAt fp h:=dW.mpr ⟨b,hb,by rw[e];rfl⟩
theorem of_pinsAt{p:Ad×Obj}(hp:p∈pinsAt fp h):p.1∈fp/\h.get? p.1=some p.2:=by
  obtain⟨b,hb,e⟩:=dW.mp hp;cases q:h.get? b with
  |none=>rw[q]at e;cases e
  |some o=>
    rw[q]at e;have e':(b,o)=p:=Option.some.inj e;subst e';exact⟨hb,q⟩
theorem Inv.pinned{σ:St}{fp:Li Ad}(I:Inv X pQ σ H s)(hf:∀ b∈fp,FpOk X pQ H b)(ho:∀ b∈fp,∃ o,s.heap.get? b=some o/\∀ v,o.data≠.cell v):Inv X (pQ++pinsAt fp s.heap) σ H s:=
  I.pins_of fun p hp=>(aS.mp hp).elim (fun z=>I.pin p (bZ _ z)) fun z=>by
    obtain⟨hb,e⟩:=of_pinsAt z;obtain⟨f0,f1,f2,_⟩:=hf p.1 hb;obtain⟨o,e',d⟩:=ho p.1 hb;rw[e]at e';cases e'
    exact⟨e,f0,f1,f2,d⟩
theorem Inv.unpinned{pl:Li (Ad×Obj)}{σ:St}(I:Inv X (pQ++pl) σ H s):Inv X pQ σ H s:=I.pins_of fun p hp=>I.pin p (bZ _ (dJ _ hp))
theorem ps_for{iter:Expr}{body:Li Stmt}{wi:TI}{g:TG}{tb:TS}{pos:Pos}(hp:PassesOwn (model X.prog X.w) X.A X.env X.xe)(hc:X.calm=true)(hi:PI X tg iter wi)(hg:PG X tg g)(hb:PSs X body tb)(hs:∀ x,foldedSetIterable iter X.env x=pure x:=by intro _;rfl):PS X (.For tg iter body [] pos) (tFor wi g tb):=by
  intro pQ s σ H D I h;refine wpAny_For (thn (hi pQ s σ H _ I h) fun v s1 h1=>thn h1 fun itv s2 h2=>?_) hs
  obtain⟨it,fp,tn,J,H2,e,I2,T,st2,f2,W,⟨m0,w0⟩,turn⟩:=h2;subst e
  -- what stays true of the iterator's objects through the loop
  have stat:∀ {H':Hp},(∀ b∈fp,H' b=none)->∀ b∈fp,FpOk X pQ H' b:=fun hn b hb=>⟨hn b hb,(f2 b hb).2⟩
  refine codeAny_forLoop_any (fun n s'=>∃ i σ' H',Inv X pQ σ' H' s'/\tn i s'.heap/\(∀ b∈fp,H' b=none)/\W i n σ' H') ?_ m0 ⟨0,σ,H2,I2,st2,fun b hb=>(f2 b hb).1,w0⟩
  rintro n s3 ⟨i,σ3,H3,I3,st3,fr3,w3⟩
  rcases turn i n σ3 H3 w3 with⟨stop,qn⟩|⟨go,N,hN,step⟩
  · refine wpAny_passesOwn hp (thn (T.done X rfl rfl rfl hc i pQ s3 σ3 H3 X.xe I3 (stat fr3) st3 stop) fun r s4 ⟨hr,I4⟩=>?_)
    subst hr;exact wpAny_execs_nil ⟨σ3,H3,I4,qn⟩
  · refine wpAny_passesOwn hp (thn (T.item X rfl rfl rfl hc i pQ s3 σ3 H3 X.xe I3 (stat fr3) st3 go) fun r s4 ⟨u,hr,h4⟩=>?_)
    subst hr;refine wpAny_passesOwn hp (thn h4 fun _ s5 ⟨x,H5,I5,r5,y5,st5,fr5⟩=>?_)
    have I5':=I5.pinned (stat fr5) (T.obj _ _ st5);refine wpAny_passesOwn hp (thn (hg _ s5 σ3 H5 x u _ I5' r5 (step x H5 y5)) fun _ s6 ⟨σ6,H6,I6,q6⟩=>?_)
    refine wpAny_passesOwn hp (thn (hb _ s6 σ6 H6 _ I6 q6) fun f s7 q7=>?_)
    have again:∀ {σ7:St}{H7:Hp},Inv X (pQ++pinsAt fp s5.heap) σ7 H7 s7->N σ7 H7->∃ m,m < n/\∃ i σ' H',Inv X pQ σ' H' s7/\tn i s7.heap/\(∀ b∈fp,H' b=none)/\W i m σ' H':=fun {σ7 H7} I7 n7=>by
      obtain⟨m',hm,w7⟩:=hN σ7 H7 n7;refine⟨m',hm,i+1,σ7,H7,I7.unpinned,T.keep _ _ _ st5 fun b hb o e=>(I7.pin (b,o) (bZ _ (bZ _ (mem_pinsAt hb e)))).1,fun b hb=>?_,w7⟩
      obtain⟨o,e,d⟩:=T.obj _ _ st5 b hb;exact(I7.pin (b,o) (bZ _ (bZ _ (mem_pinsAt hb e)))).2.1
    cases f with
    |next=>obtain⟨σ7,H7,I7,n7⟩:=q7;exact again I7 n7
    |cont=>obtain⟨σ7,H7,I7,n7⟩:=q7;exact again I7 n7
    |brk=>obtain⟨σ7,H7,I7,q7⟩:=q7;exact⟨σ7,H7,I7.unpinned,q7⟩
    |ret v=>obtain⟨x7,σ7,H7,I7,r7,q7⟩:=q7;exact⟨x7,σ7,H7,I7.unpinned,r7,q7⟩
end

theorem for_range{g:TG}{tb:TS}{D:Ends}{σ:St}{H:Hp}(Pv:Nat->St->Hp->Prop)(h0:Pv 0 σ H)(hs:∀ i σ H,i < n->Pv i σ H->g (.int (lo+i)) σ H fun σ2 H2=>tb { D with nx:=Pv (i+1),ct:=Pv (i+1),bk:=D.nx } σ2 H2)(hd:∀ σ H,Pv n σ H->D.nx σ H) :
    ∃ W:Nat->Nat->St->Hp->Prop,(∃ m,W 0 m σ H)/\∀ i m σ H,W i m σ H->
      ((Itr lo n).stop i H/\D.nx σ H)\/((Itr lo n).go i H/\∃ N:St->Hp->Prop,(∀ σ' H',N σ' H'->∃ m',m' < m/\W (i+1) m' σ' H')/\∀ x H',(Itr lo n).yld i H x H'->g x σ H' fun σ2 H2=>tb { D with nx:=N,ct:=N,bk:=D.nx } σ2 H2):=by
  refine⟨fun i m σ H=>m=n - i/\i<=n/\Pv i σ H,⟨n,by simp,bH _,h0⟩,?_⟩
  rintro i m σ H ⟨rfl,hi,p⟩
  by_cases hlt:i < n
  · refine .inr ⟨hlt,Pv (i+1),fun σ' H' p'=>⟨n - (i+1),by omega,rfl,hlt,p'⟩,fun x H' y=>?_⟩
    obtain⟨e,y⟩:=y;subst e y;exact hs i σ _ hlt p
  · have e:i=n:=by omega
    subst e;exact .inl ⟨aE _,hd σ H p⟩
abbrev R2:=V->V->Hp->VK->Prop
def OpR(X:Cx)(f:vL->vL->Sem vL)(r:R2):Prop:=
  ∀ (pQ:Li (Ad×Obj)) (s:sH7) (σ:St) (H:Hp) (x y:V) (v u:vL) (Q:VK),Inv X pQ σ H s->RelV x v->RelV y u->r x y H Q->
    wpAny (model X.prog X.w) X.A (f v u) (EP X pQ σ Q) X.xe s
def UnR(X:Cx)(f:vL->Sem vL)(r:V->Hp->VK->Prop):Prop:=
  ∀ (pQ:Li (Ad×Obj)) (s:sH7) (σ:St) (H:Hp) (x:V) (v:vL) (Q:VK),Inv X pQ σ H s->RelV x v->r x H Q->
    wpAny (model X.prog X.w) X.A (f v) (EP X pQ σ Q) X.xe s
def CallR(X:Cx)(f:vL)(r:Li V->Hp->VK->Prop):Prop:=
  ∀ (pQ:Li (Ad×Obj)) (s:sH7) (σ:St) (H:Hp) (xs:Li V) (us:Li vL) (Q:VK),Inv X pQ σ H s->Vals xs us->r xs H Q->
    wpAny (model X.prog X.w) X.A (call f us) (EP X pQ σ Q) X.xe s

noncomputable def tOp(r:R2)(ta tb:TE):TE:=fun σ H Q=>ta σ H fun x H1=>tb σ H1 fun y H2=>r x y H2 Q
noncomputable def tUn(r:V->Hp->VK->Prop)(ta:TE):TE:=fun σ H Q=>ta σ H fun x H1=>r x H1 Q
noncomputable def rI(C:Int->Int->Prop)(g:Int->Int->V):R2:=fun x y H Q=>∃ i j,x=.int i/\y=.int j/\C i j/\Q (g i j) H
noncomputable def rI0(g:Int->Int->V):R2:=fun x y H Q=>∃ i j,x=.int i/\y=.int j/\Q (g i j) H
def rU(g:Int->V):V->Hp->VK->Prop:=fun x H Q=>∃ i,x=.int i/\Q (g i) H

section
variable {X:Cx}{a b c:Expr}{ta tb tc:TE}{pos:Pos}

theorem binT(ha:PE X a ta)(hb:PE X b tb){σ:St}{R:V->V->Hp->Prop}(I:Inv X pQ σ H s)(h:ta σ H fun x H1=>tb σ H1 fun y H2=>R x y H2){f:vL->vL->Sem vL}(hf:∀ v u s2 x y H2,Inv X pQ σ H2 s2->RelV x v->RelV y u->R x y H2->wpAny (model X.prog X.w) X.A (f v u) Q X.xe s2) :
    wpAny (model X.prog X.w) X.A (eval a X.env) (fun v s₁=>wpAny (model X.prog X.w) X.A (eval b X.env) (fun u s₂=>wpAny (model X.prog X.w) X.A (f v u) Q X.xe s₂) X.xe s₁) X.xe s:=by
  refine thn (ha pQ s σ H _ I h) fun v s1 ⟨x,H1,I1,r1,q1⟩=>?_
  refine thn (hb pQ s1 σ H1 _ I1 q1) fun u s2 ⟨y,H2,I2,r2,q2⟩=>?_
  exact hf v u s2 x y H2 I2 r1 r2 q2

theorem pe_op{op:Operator}{r:R2}(ho:OpR X (binaryOp op) r)(ha:PE X a ta)(hb:PE X b tb):PE X (.BinOp a op b pos) (tOp r ta tb):=by
  intro pQ s σ H Q I h;exact wpAny_BinOp (binT ha hb I h fun v u s2 x y H2 I2 rx ry q=>ho pQ s2 σ H2 x y v u Q I2 rx ry q)
theorem pe_un{op:UnaryOp}{r:V->Hp->VK->Prop}(ho:UnR X (unaryOp op) r)(ha:PE X a ta):PE X (.UnaryOp op a pos) (tUn r ta):=by
  intro pQ s σ H Q I h;exact UnaryOp_ (thn (ha pQ s σ H _ I h) fun v s1 ⟨x,H1,I1,r1,q1⟩=>ho pQ s1 σ H1 x v Q I1 r1 q1)

theorem opI{f:vL->vL->Sem vL}{C:Int->Int->Prop}{g:Int->Int->Int}(rule:∀ (i j:Int) (t u:Tok) (s:sH7) (Q:vL->sH7->Prop) (E:vL->sH7->Prop),C i j->Q (.int (g i j) s.toks) { s with toks:=s.toks+1 }->wpAny (model X.prog X.w) X.A (f (.int i t) (.int j u)) Q E s) :
    OpR X f (rI C fun i j=>.int (g i j)):=by
  intro pQ s σ H x y v u Q I rx ry h;obtain⟨i,j,rfl,rfl,hc,q⟩:=h;obtain⟨t,rfl⟩:=rx;obtain⟨t',rfl⟩:=ry;exact rule i j t t' s _ _ hc ⟨.int (g i j),H,I.tok _,⟨_,rfl⟩,q⟩
theorem opI0{f:vL->vL->Sem vL}{g:Int->Int->Int}(rule:∀ (i j:Int) (t u:Tok) (s:sH7) (Q:vL->sH7->Prop) (E:vL->sH7->Prop),Q (.int (g i j) s.toks) { s with toks:=s.toks+1 }->wpAny (model X.prog X.w) X.A (f (.int i t) (.int j u)) Q E s) :
    OpR X f (rI0 fun i j=>.int (g i j)):=by
  intro pQ s σ H x y v u Q I rx ry h;obtain⟨i,j,rfl,rfl,q⟩:=h;obtain⟨t,rfl⟩:=rx;obtain⟨t',rfl⟩:=ry;exact rule i j t t' s _ _ ⟨.int (g i j),H,I.tok _,⟨_,rfl⟩,q⟩
theorem opB0{f:vL->vL->Sem vL}{g:Int->Int->Bool}(rule:∀ (i j:Int) (t u:Tok) (s:sH7) (Q:vL->sH7->Prop) (E:vL->sH7->Prop),Q (.bool (g i j)) s->wpAny (model X.prog X.w) X.A (f (.int i t) (.int j u)) Q E s) :
    OpR X f (rI0 fun i j=>.bl (g i j)):=by
  intro pQ s σ H x y v u Q I rx ry h;obtain⟨i,j,rfl,rfl,q⟩:=h;obtain⟨t,rfl⟩:=rx;obtain⟨t',rfl⟩:=ry;exact rule i j t t' s _ _ ⟨.bl (g i j),H,I,rfl,q⟩

def CDiv(i j:Int):Prop:=0 < j/\j < 1073741824
def CDivN(i j:Int):Prop:=j≠0/\j.natAbs < 1073741824
def CPow(i j:Int):Prop:=0<=j/\j<=1000000/\i.natAbs < 2 ^ 64
def CMul(i j:Int):Prop:=(-(2 ^ 64) < i/\i < 2 ^ 64)\/(-(2 ^ 64) < j/\j < 2 ^ 64)
theorem CMul.ok{i j:Int}(h:CMul i j):IntMulOk i j:=by
  rcases h with⟨h1,h2⟩|⟨h1,h2⟩
  · exact .of_left (intBits_le_64 h1 h2)
  · exact .of_right (intBits_le_64 h1 h2)

theorem op_add:OpR X (binaryOp .Add) (rI0 fun i j=>.int (i+j)):=opI0 fun _ _ _ _ _ _ _ q=>add_int q
theorem op_sub:OpR X (binaryOp .Sub) (rI0 fun i j=>.int (i - j)):=opI0 fun _ _ _ _ _ _ _ q=>sub_int q
theorem op_mul:OpR X (binaryOp .Mult) (rI CMul fun i j=>.int (i * j)):=opI fun _ _ _ _ _ _ _ hc q=>mul_int q hc.ok
theorem op_fdiv:OpR X (binaryOp .FloorDiv) (rI CDiv fun i j=>.int (i / j)):=opI fun i j _ _ _ _ _ hc q=>by
  have h1:(0:Int) < j:=hc.1;have h2:j < 1073741824:=hc.2;exact floordiv_int (by omega) (by rw[Int.fdiv_eq_ediv_of_nonneg i (by omega)];exact q) (.inl (PyProof.noPylong_small (by omega)))
theorem op_fdivN:OpR X (binaryOp .FloorDiv) (rI CDivN fun i j=>.int (i.fdiv j)):=opI fun _ _ _ _ _ _ _ hc q=>floordiv_int hc.1 q (.inl (PyProof.noPylong_small hc.2))
theorem op_mod:OpR X (binaryOp .Mod) (rI (fun _ j=>0 < j) fun i j=>.int (i % j)):=opI fun i j _ _ _ _ _ hc q=>by
  have h1:(0:Int) < j:=hc;exact mod_int' (by omega) (by rw[Int.fmod_eq_emod_of_nonneg i (by omega)];exact q)
theorem op_modN:OpR X (binaryOp .Mod) (rI (fun _ j=>j≠0) fun i j=>.int (i.fmod j)):=opI fun _ _ _ _ _ _ _ hc q=>mod_int' hc q
theorem op_pow:OpR X (binaryOp .Pow) (rI CPow fun i j=>.int (i ^ j.toNat)):=opI fun _ _ _ _ _ _ _ hc q=>pow_int_small hc.1 hc.2.1 hc.2.2 q


theorem unI{f:vL->Sem vL}{g:Int->Int}(rule:∀ (i:Int) (t:Tok) (s:sH7) (Q:vL->sH7->Prop) (E:vL->sH7->Prop),Q (.int (g i) s.toks) { s with toks:=s.toks+1 }->wpAny (model X.prog X.w) X.A (f (.int i t)) Q E s) :
    UnR X f (rU fun i=>.int (g i)):=by
  intro pQ s σ H x v Q I rx h;obtain⟨i,rfl,q⟩:=h;obtain⟨t,rfl⟩:=rx;exact rule i t s _ _ ⟨.int (g i),H,I.tok _,⟨_,rfl⟩,q⟩
theorem un_neg:UnR X (unaryOp .USub) (rU fun i=>.int (-i)):=unI fun _ _ _ _ _ q=>neg_int q

end

noncomputable def scal:V->V->Bool
  |.non,.non=>true|.non,.int _=>true|.int _,.non=>true|.non,.bl _=>true|.bl _,.non=>true|.non,.str _=>true|.str _,.non=>true
  |.int _,.int _=>true|.bl _,.bl _=>true|.str _,.str _=>true|.byt _,.byt _=>true
  |.int _,.str _=>true|.str _,.int _=>true|.bl _,.str _=>true|.str _,.bl _=>true
  |_,_=>false
noncomputable def rEq:R2:=fun x y H Q=>scal x y=true/\Q (.bl (decide (x=y))) H
noncomputable def rNe:R2:=fun x y H Q=>scal x y=true/\Q (.bl (!decide (x=y))) H

theorem dec_int{i j:Int}:decide (V.int i=V.int j)=(i==j):=by
  rw[cR];simp
theorem dec_bl{i j:Bool}:decide (V.bl i=V.bl j)=(i==j):=by
  rw[cR];simp
theorem dec_str{i j:Str}:decide (V.str i=V.str j)=(i==j):=by
  rw[cR];simp
theorem dec_byt{i j:Array UInt8}:decide (V.byt i=V.byt j)=(i.toList==j.toList):=by
  rw[cR];cases i;cases j;simp

variable{op op':CmpOp}
section
variable {X:Cx}{a b c:Expr}{ta tb tc:TE}{pos:Pos}
theorem fin_bl{σ:St}{Q:VK}{k k':Bool}(I:Inv X pQ σ H s)(q:Q (.bl k) H)(e:k=k'):EP X pQ σ Q (.bool k') s:=by
  subst e;exact⟨.bl k,H,I,rfl,q⟩
theorem op_eq:OpR X (compareOp .Eq) rEq:=by
  intro pQ s σ H x y v u Q I rx ry h;obtain⟨hs,q⟩:=h;cases x with
  |non=>
    cases rx;cases y with
    |non=>cases ry;exact PySem.EqNone.eq_none_none (fin_bl I q (by simp))
    |bl j=>cases ry;exact PySem.EqNone.eq_none_bool (fin_bl I q (by simp))
    |int j=>obtain⟨t',rfl⟩:=ry;exact PySem.EqNone.eq_none_int (fin_bl I q (by simp))
    |str j=>obtain⟨t',rfl⟩:=ry;exact PySem.EqNone.eq_none_str (fin_bl I q (by simp))
    |_=>exact absurd (show false=true from hs) Bf
  |bl i=>
    cases rx;cases y with
    |non=>cases ry;exact PySem.EqNone.eq_bool_none (fin_bl I q (by simp))
    |bl j=>cases ry;exact eq_bool (fin_bl I q dec_bl)
    |str j=>obtain⟨t',rfl⟩:=ry;exact PySem.EqMixed.eq_bool_str (fin_bl I q (by simp))
    |_=>exact absurd (show false=true from hs) Bf
  |int i=>
    obtain⟨t,rfl⟩:=rx;cases y with
    |non=>cases ry;exact PySem.EqNone.eq_int_none (fin_bl I q (by simp))
    |int j=>obtain⟨t',rfl⟩:=ry;exact eq_int (fin_bl I q dec_int)
    |str j=>obtain⟨t',rfl⟩:=ry;exact PySem.EqMixed.eq_int_str (fin_bl I q (by simp))
    |_=>exact absurd (show false=true from hs) Bf
  |str i=>
    obtain⟨t,rfl⟩:=rx;cases y with
    |non=>cases ry;exact PySem.EqNone.eq_str_none (fin_bl I q (by simp))
    |bl j=>cases ry;exact PySem.EqMixed.eq_str_bool (fin_bl I q (by simp))
    |int j=>obtain⟨t',rfl⟩:=ry;exact PySem.EqMixed.eq_str_int (fin_bl I q (by simp))
    |str j=>obtain⟨t',rfl⟩:=ry;exact eq_str (fin_bl I q dec_str)
    |_=>exact absurd (show false=true from hs) Bf
  |byt i=>
    obtain⟨t,rfl⟩:=rx;cases y with
    |byt j=>obtain⟨t',rfl⟩:=ry;exact PySem.W.eq_bytes (fin_bl I q dec_byt)
    |_=>exact absurd (show false=true from hs) Bf
  |_=>cases y<;>exact absurd (show false=true from hs) Bf
theorem op_ne:OpR X (compareOp .NotEq) rNe:=by
  intro pQ s σ H x y v u Q I rx ry h;obtain⟨hs,q⟩:=h;cases x with
  |non=>
    cases rx;cases y with
    |non=>cases ry;exact PySem.EqNone.ne_none_none (fin_bl I q (by simp))
    |bl j=>cases ry;exact PySem.EqNone.ne_none_bool (fin_bl I q (by simp))
    |int j=>obtain⟨t',rfl⟩:=ry;exact PySem.EqNone.ne_none_int (fin_bl I q (by simp))
    |str j=>obtain⟨t',rfl⟩:=ry;exact PySem.EqNone.ne_none_str (fin_bl I q (by simp))
    |_=>exact absurd (show false=true from hs) Bf
  |bl i=>
    cases rx;cases y with
    |non=>cases ry;exact PySem.EqNone.ne_bool_none (fin_bl I q (by simp))
    |bl j=>cases ry;exact ne_bool (fin_bl I q (congrArg not dec_bl))
    |str j=>obtain⟨t',rfl⟩:=ry;exact PySem.EqMixed.ne_bool_str (fin_bl I q (by simp))
    |_=>exact absurd (show false=true from hs) Bf
  |int i=>
    obtain⟨t,rfl⟩:=rx;cases y with
    |non=>cases ry;exact PySem.EqNone.ne_int_none (fin_bl I q (by simp))
    |int j=>obtain⟨t',rfl⟩:=ry;exact ne_int (fin_bl I q (congrArg not dec_int))
    |str j=>obtain⟨t',rfl⟩:=ry;exact PySem.EqMixed.ne_int_str (fin_bl I q (by simp))
    |_=>exact absurd (show false=true from hs) Bf
  |str i=>
    obtain⟨t,rfl⟩:=rx;cases y with
    |non=>cases ry;exact PySem.EqNone.ne_str_none (fin_bl I q (by simp))
    |bl j=>cases ry;exact PySem.EqMixed.ne_str_bool (fin_bl I q (by simp))
    |int j=>obtain⟨t',rfl⟩:=ry;exact PySem.EqMixed.ne_str_int (fin_bl I q (by simp))
    |str j=>obtain⟨t',rfl⟩:=ry;exact ne_str (fin_bl I q (congrArg not dec_str))
    |_=>exact absurd (show false=true from hs) Bf
  |byt i=>
    obtain⟨t,rfl⟩:=rx;cases y with
    |byt j=>obtain⟨t',rfl⟩:=ry;exact PySem.W.ne_bytes (fin_bl I q (congrArg not dec_byt))
    |_=>exact absurd (show false=true from hs) Bf
  |_=>cases y<;>exact absurd (show false=true from hs) Bf

theorem op_lt:OpR X (compareOp .Lt) (rI0 fun i j=>.bl (decide (i < j))):=opB0 fun _ _ _ _ _ _ _ q=>lt_int q
theorem op_le:OpR X (compareOp .LtE) (rI0 fun i j=>.bl (decide (i<=j))):=opB0 fun _ _ _ _ _ _ _ q=>le_int q
theorem op_gt:OpR X (compareOp .Gt) (rI0 fun i j=>.bl (decide (j < i))):=opB0 fun _ _ _ _ _ _ _ q=>gt_int q
theorem op_in_str:OpR X (compareOp .In) (fun x y H Q=>∃ i j,x=.str i/\y=.str j/\Q (.bl (!(Builtin.Str.occurrences j i 0 j.length 1).isEmpty)) H):=by
  intro pQ s σ H x y v u Q I rx ry h;obtain⟨i,j,rfl,rfl,q⟩:=h;obtain⟨t,rfl⟩:=rx;obtain⟨t',rfl⟩:=ry;exact in_str (fin_bl I q rfl)

theorem op_isN:OpR X (compareOp .Is) (fun x y H Q=>y=.non/\Q (.bl (decide (x=.non))) H):=by
  intro pQ s σ H x y v u Q I rx ry h;obtain⟨rfl,q⟩:=h;cases ry;refine is_none_gen (fin_bl I q ?_);cases x<;>first
    | (cases rx;rfl)
    | (obtain⟨t,rfl⟩:=rx;rfl)
theorem op_notN:OpR X (compareOp .IsNot) (fun x y H Q=>y=.non/\Q (.bl (!decide (x=.non))) H):=by
  intro pQ s σ H x y v u Q I rx ry h;obtain⟨rfl,q⟩:=h;cases ry;refine isnot_none_gen (fin_bl I q ?_);cases x<;>first
    | (cases rx;rfl)
    | (obtain⟨t,rfl⟩:=rx;rfl)



theorem pe_cmpR{r:R2}(ho:OpR X (compareOp op) r)(ha:PE X a ta)(hb:PE X b tb)(hm:behindInMarks op b=false):PE X (.Compare a [op] [b] pos) (tOp r ta tb):=by
  intro pQ s σ H Q I h;exact wpAny_Compare1 (binT ha hb I h fun v u s2 x y H2 I2 rx ry q=>ho pQ s2 σ H2 x y v u Q I2 rx ry q) hm
noncomputable def tTest(t:TE):TT:=fun σ H Q=>t σ H fun x H'=>∃ k,x=.bl k/\Q k H'
theorem pt_cmpR{r:R2}(ho:OpR X (compareOp op) r)(ha:PE X a ta)(hb:PE X b tb)(hm:behindInMarks op b=false):PT X (.Compare a [op] [b] pos) (tTest (tOp r ta tb)):=by
  intro pQ s σ H Q I h;refine wpAny_isTrue_Compare1 (thn (ha pQ s σ H _ I h) fun v s1 ⟨x,H1,I1,r1,q1⟩=>thn (hb pQ s1 σ H1 _ I1 q1) fun u s2 ⟨y,H2,I2,r2,q2⟩=>
    thn (ho pQ s2 σ H2 x y v u _ I2 r1 r2 q2) fun c s3 ⟨z,H3,I3,r3,k,e,q3⟩=>?_) hm
  subst e;cases r3;exact wpAny_truthy_bool ⟨H3,I3,q3⟩
noncomputable def tChain(r r':R2)(ta tb tc:TE):TE:=fun σ H Q=>ta σ H fun x H1=>tb σ H1 fun y H2=>r x y H2 fun z H3=>∃ k,z=.bl k /\
  (if k=true then tc σ H3 fun w' H4=>r' y w' H4 Q else Q (.bl false) H3)
theorem pe_chain{r r':R2}(ho:OpR X (compareOp op) r)(ho':OpR X (compareOp op') r')(ha:PE X a ta)(hb:PE X b tb)(hc:PE X c tc)(hm:lastMarks [op,op'] [b,c]=false:=by with_unfolding_all rfl):PE X (.Compare a [op,op'] [b,c] pos) (tChain r r' ta tb tc):=by
  intro pQ s σ H Q I h;refine Compare_chain (thn (ha pQ s σ H _ I h) fun v s1 ⟨x,H1,I1,r1,q1⟩=>chain_link (thn (hb pQ s1 σ H1 _ I1 q1) fun u s2 ⟨y,H2,I2,r2,q2⟩=>
    thn (ho pQ s2 σ H2 x y v u _ I2 r1 r2 q2) fun d s3 ⟨z,H3,I3,r3,k,e,q3⟩=>?_)) hm
  subst e;cases r3;refine wpAny_truthy_bool ?_;cases k with
  |false=>exact ite_ff ⟨.bl false,H3,I3,rfl,q3⟩
  |true=>exact ite_tt (chain_last (thn (hc pQ s3 σ H3 _ I3 q3) fun w' s4 ⟨z',H4,I4,r4,q4⟩=>ho' pQ s4 σ H4 y z' u w' Q I4 r2 r4 q4))
theorem pt_chain{r r':R2}(ho:OpR X (compareOp op) r)(ho':OpR X (compareOp op') r')(ha:PE X a ta)(hb:PE X b tb)(hc:PE X c tc)(hm:lastMarks [op,op'] [b,c]=false:=by with_unfolding_all rfl):PT X (.Compare a [op,op'] [b,c] pos) (tTest (tChain r r' ta tb tc)):=by
  intro pQ s σ H Q I h;refine isTrue_chain (thn (ha pQ s σ H _ I h) fun v s1 ⟨x,H1,I1,r1,q1⟩=>test_link (thn (hb pQ s1 σ H1 _ I1 q1) fun u s2 ⟨y,H2,I2,r2,q2⟩=>
    thn (ho pQ s2 σ H2 x y v u _ I2 r1 r2 q2) fun d s3 ⟨z,H3,I3,r3,k,e,q3⟩=>?_)) hm
  subst e;cases r3;refine wpAny_truthy_bool ?_;cases k with
  |false=>
    obtain⟨k',e',q'⟩:=q3;cases e';exact ite_ff ⟨H3,I3,q'⟩
  |true=>
    refine ite_tt (test_last (thn (hc pQ s3 σ H3 _ I3 q3) fun w' s4 ⟨z',H4,I4,r4,q4⟩=>thn (ho' pQ s4 σ H4 y z' u w' _ I4 r2 r4 q4) fun d' s5 ⟨z2,H5,I5,r5,k2,e2,q5⟩=>?_))
    subst e2;cases r5;exact wpAny_truthy_bool ⟨H5,I5,q5⟩

theorem line63:(sizeLine:Nat) < 2 ^ 63:=by rw[sizeLine_eq];decide

theorem op_add_str:OpR X (binaryOp .Add) (fun x y H Q=>∃ i j,x=.str i/\y=.str j/\i.length+j.length<=sizeLine/\Q (.str (i++j)) H):=by
  intro pQ s σ H x y v u Q I rx ry h;obtain⟨i,j,rfl,rfl,hz,q⟩:=h;obtain⟨t,rfl⟩:=rx;obtain⟨t',rfl⟩:=ry;exact add_str (fun t' tk=>⟨.str (i++j),H,I.tok _,⟨_,rfl⟩,q⟩) hz


theorem vals1{x:V}(r:Vals [x] us):∃ u,us=[u]/\RelV x u:=by
  cases r with
  |cons r1 r2=>cases r2;exact⟨_,rfl,r1⟩
theorem vals2{x:V}(r:Vals [x,y] us):∃ u w',us=[u,w']/\RelV x u/\RelV y w':=by
  cases r with
  |cons r1 r2=>
    cases r2 with
    |cons r3 r4=>cases r4;exact⟨_,_,rfl,r1,r3⟩
theorem call_max2(hc:X.calm=true):CallR X (.builtin "max") (fun xs H Q=>∃ i j,xs=[.int i,.int j]/\Q (.int (if j > i then j else i)) H):=by
  intro pQ s σ H xs us Q I r h;obtain⟨i,j,rfl,q⟩:=h;obtain⟨u,w',rfl,⟨t,rfl⟩,⟨t',rfl⟩⟩:=vals2 r;refine max_two_ints (I.ok.hd hc) fun h' tk k=>⟨_,H,I.kept k,?_,q⟩
  by_cases hj:j > i
  · rw[if_pos hj,if_pos hj];exact⟨_,rfl⟩
  · rw[if_neg hj,if_neg hj];exact⟨_,rfl⟩
theorem call_min2(hc:X.calm=true):CallR X (.builtin "min") (fun xs H Q=>∃ i j,xs=[.int i,.int j]/\Q (.int (if j < i then j else i)) H):=by
  intro pQ s σ H xs us Q I r h;obtain⟨i,j,rfl,q⟩:=h;obtain⟨u,w',rfl,⟨t,rfl⟩,⟨t',rfl⟩⟩:=vals2 r;refine min_two_ints (I.ok.hd hc) fun h' tk k=>⟨_,H,I.kept k,?_,q⟩
  by_cases hj:j < i
  · rw[if_pos hj,if_pos hj];exact⟨_,rfl⟩
  · rw[if_neg hj,if_neg hj];exact⟨_,rfl⟩
theorem call_int1:CallR X (.type "int") (fun xs H Q=>(∃ i,xs=[.int i]/\Q (.int i) H)\/∃ k,xs=[.bl k]/\Q (.int (if k then 1 else 0)) H):=by
  intro pQ s σ H xs us Q I r h;rcases h with⟨i,rfl,q⟩|⟨k,rfl,q⟩
  · obtain⟨u,rfl,t,rfl⟩:=vals1 r
    exact call_int_int ⟨.int i,H,I,⟨_,rfl⟩,q⟩
  · obtain⟨u,rfl,r1⟩:=vals1 r
    cases r1;exact call_int_bool ⟨.int (if k then 1 else 0),H,I.tok _,⟨_,rfl⟩,q⟩
def LenV(K:Fg)(x:V)(H:Hp)(n:Nat):Prop:=
  match x with
  |.str y=>y.length<=sizeLine/\n=y.length
  |.byt y=>y.size<=sizeLine/\n=y.size
  |.ref p=>(∃ xs,SqL K H p xs/\n=xs.length)\/∃ xs,SqT K H p xs/\n=xs.length
  |_=>False
theorem call_len:CallR X (.builtin "len") (fun xs H Q=>∃ x n,xs=[x]/\LenV X.K x H n/\Q (.int n) H):=by
  intro pQ s σ H xs us Q I r h;obtain⟨x,n,rfl,e,q⟩:=h;obtain⟨u,rfl,rx⟩:=vals1 r;have hl:=line63;have hs:sizeLine=16777216:=sizeLine_eq;cases x with
  |str y=>
    obtain⟨t,rfl⟩:=rx;obtain⟨hy,e'⟩:y.length<=sizeLine/\n=y.length:=e;subst e';exact len_str (by omega) ⟨.int _,H,I.tok _,⟨_,rfl⟩,q⟩
  |byt y=>
    obtain⟨t,rfl⟩:=rx;obtain⟨hy,e'⟩:y.size<=sizeLine/\n=y.size:=e;subst e';exact PySem.W.len_bytes (by omega) ⟨.int _,H,I.tok _,⟨_,rfl⟩,q⟩
  |ref p=>
    cases rx;have e':(∃ xs,SqL X.K H p xs/\n=xs.length)\/∃ xs,SqT X.K H p xs/\n=xs.length:=e;rcases e' with⟨xs,hx,e'⟩|⟨xs,hx,e'⟩
    · subst e'
      obtain⟨its,r',pl,hz⟩:=I.list hx;have hlen:=r'.length;exact Calls.call_len_list pl.isList (by simp only[aY];omega) ⟨.int xs.length,H,I.tok _,⟨_,by simp only[aY];rw[hlen]⟩,q⟩
    · subst e'
      obtain⟨its,r',pl,hz⟩:=I.tuple hx;have hlen:=r'.length;exact len_tuple pl (by simp only[aY];omega) ⟨.int xs.length,H,I.tok _,⟨_,by simp only[aY];rw[hlen]⟩,q⟩
  |_=>exact(show False from e).elim
end
structure ObjM(h:Heap)(x dx C:Addr)(mA:Str->Option Value):Prop where
  obj:h.get? x=some (PySem.W.instObj C dx)
  ns:h.Ns1 dx mA
  ne:dx≠x

variable{mA:Str->Ot vL}
theorem lookIn_ns{dx:Ad}(n:h.Ns1 dx mA):∃ od,h.get? dx=some od/\∀ name,PySem.W.lookIn name od=some (mA name):=by
  obtain⟨o,es,ep,ho,hd,hk,_,hm⟩:=n;refine⟨o,ho,fun name=>?_⟩
  have e:=hm name;unfold nsFind findBy at e;rw[<-Array.find?_toList]at e;unfold PySem.W.lookIn;rw[hd];dsimp only;split
  · rename_i y q
    rw[q]at e;exact congrArg some e
  · rename_i q
    rw[q]at e;have a:es.toList.any (·.refKey)=false:=by
      rw[List.any_eq_false];intro y hy;obtain⟨z,t,hkey⟩:=hk y (Array.mem_toList_iff.mp hy);simp[DictEntry.refKey,hkey]
    have a':¬es.toList.any (·.refKey)=true:=by rw[a];exact Bf
    rw[if_neg a'];exact congrArg some e

theorem ObjM.look{x dx C:Ad}(I:ObjM h x dx C mA):∃ od,PySem.W.InstAt h x (PySem.W.instObj C dx) C (some od)/\∀ name,PySem.W.lookIn name od=some (mA name):=
  let ⟨od,ho,hl⟩:=lookIn_ns I.ns
  ⟨od,⟨I.obj,rfl,rfl,ho⟩,hl⟩

variable{pl:Sem Bool}{kw:Li (Str×vL)}
section
variable {prog:Program}{w:World}{A:Around}{E:vL->sH7->Prop}{s:sH7}{K:Fg}{x dx C f:Ad}{mA:Str->Ot vL}{name:Str}{v:vL}

theorem get_map{expr:Bool}(X:K.In s.heap)(I:ObjM s.heap x dx C mA)(hg:PySem.W.plainGet K C name=true)(hh:PySem.W.hasDictIn K C=true)(ha:PySem.W.findIn K (.ref C) name=some none)(hv:mA name=some v)(hv':PySem.W.handedIn v=true)(h:Q v { s with toks:=s.toks+1 }) :
    wpAny (model prog w) A (getAttr (.ref x) name expr) Q E s:=by
  obtain⟨od,J,hl⟩:=I.look;exact PySem.W.get_value X J (PySem.W.plainGet_of hg).1 (PySem.W.findObj_own hh ha rfl (by rw[hl,hv])) hv' h


theorem get_meth{Q:vL×Li vL->sH7->Prop}(X:K.In s.heap)(I:ObjM s.heap x dx C mA)(hg:PySem.W.plainGet K C name=true)(hf:PySem.W.findIn K (.ref C) name=some (some (.ref f)))(ht:PySem.W.isFn K (.ref f)=true)(hv:mA name=none)(h:Q (.ref f,[.ref x]) s) :
    wpAny (model prog w) A (getMethod (.ref x) name pl) Q E s:=by
  obtain⟨od,J,hl⟩:=I.look;exact PySem.W.method_fn X J (PySem.W.plainGet_of hg).1 (PySem.W.plainGet_of hg).2 hf (beq_iff_eq.mp ht) (by show(PySem.W.lookIn name od).map (·.isSome)=some false;rw[hl,hv];rfl) h

theorem set_map{ns:Li Str}{Q:Unit->sH7->Prop}(X:K.In s.heap)(I:ObjM s.heap x dx C mA)(hs:PySem.W.findIn K (.ref C) "__setattr__"=some (some (.builtin "object.__setattr__")))(hp:PySem.W.plainOver K C=true)(ht:PySem.W.takerIn K C name=some none)(hh:PySem.W.hasDictIn K C=true)(hw:PySem.Within mA ns)(hsz:ns.length<=sizeLine)(h:∀ h',ObjM h' x dx C (fun y=>if y=name then some v else mA y)->Heap.SameBut dx s.heap h'->Q () { s with heap:=h',toks:=s.toks+2 }) :
    wpAny (model prog w) A (setAttr (.ref x) name v) Q E s:=by
  obtain⟨od,J,hl⟩:=I.look;refine PySem.W.set_plain X J hs (PySem.W.osa_open (s:={ s with toks:=s.toks+1 }) (r:=none) X J hp ht fun b=>?_)
  obtain⟨cd,hc,hd'⟩:=PySem.W.any_some hh;have hx:s.heap.get? x=some ⟨.ref C,some dx,.plain,#[]⟩:=I.obj;refine aA (aD (aA (aA (wpAny_loadPart hx (aA (PySem.W.Looks.here (s:={ s with toks:=s.toks+1 }) (PySem.W.looks_clsIn X hc) ?_))))))
  rw[hd'];refine aD (a:=some dx) (aA (aD (aA ?_)));refine wpAny_nsSet1 (s:={ s with toks:=s.toks+1 }) I.ns fun h' hn2 hs2=>?_
  obtain⟨oD,esD,epD,hoD,hdD,hcD⟩:=hn2.count (PySem.Within.cons name v hw);refine aA (wpAny_lookBehind hoD (by rw[hdD];exact pastItsLine_dict (aH hcD (by rw[aR];omega))) ?_)
  exact aD (h _ ⟨(hs2.2 _ (Ne.symm I.ne)).trans I.obj,hn2,I.ne⟩ hs2)

theorem make_map{R:Result->sH7->Prop}{vs:Li vL}(X:K.In s.heap)(hm:PySem.W.makesIn K C=true)(hi:PySem.W.findIn K (.ref C) "__init__"=some (some (.ref f)))(hf:PySem.W.typeIn K (.ref f)=some (.type "function"))(h:codeAny (model prog w) (A.under (.builtin "type.__call__" ⟨.ref C :: vs,kw⟩)) (.call (.ref f) ⟨.ref (s.heap.objs.size+1) :: vs,kw⟩) (PySem.W.InitBack (s.heap.objs.size+1) R)
      { s with heap:=(s.heap.push PySem.W.emptyDict).push (PySem.W.instObj C s.heap.objs.size) }) :
    codeAny (model prog w) A (.call (.ref C) ⟨vs,kw⟩) R s:=by
  obtain⟨hh,g,d,t,os⟩:=s;exact PySem.W.make_core (PySem.W.makes_of X hm) (PySem.W.looks_findIn X hi) (fun self=>PySem.W.bind_fn X self hf) (.inl rfl) h
end

noncomputable def putF(f:Str)(v:V):Li (Str×V)->Li (Str×V)
  |[]=>[(f,v)]
  | (g,x) :: r=>if g=f then (g,v) :: r else (g,x) :: putF f v r
theorem lookup_putF(f g:Str)(v:V):∀ fs:Li (Str×V),(putF f v fs).lookup g=if g=f then some v else fs.lookup g
  |[]=>by
    show List.lookup g [(f,v)]=_;by_cases h:g=f
    · have hb:(g==f)=true:=beq_iff_eq.mpr h
      simp only[List.lookup,hb,if_pos h]
    · have hb:(g==f)=false:=bQ.mpr h
      simp only[List.lookup,hb,if_neg h]
  | (k,x) :: r=>by
    have ih:=lookup_putF f g v r;rw[show putF f v ((k,x) :: r)=(if k=f then (k,v) :: r else (k,x) :: putF f v r) from rfl]
    by_cases hk:k=f
    · rw[if_pos hk]
      by_cases h:g=k
      · have hb:(g==k)=true:=beq_iff_eq.mpr h
        simp only[List.lookup,hb,if_pos (h.trans hk)]
      · have hb:(g==k)=false:=bQ.mpr h
        simp only[List.lookup,hb,if_neg (fun e:g=f=>h (e.trans hk.symm))]
    · rw[if_neg hk]
      by_cases h:g=k
      · have hb:(g==k)=true:=beq_iff_eq.mpr h
        simp only[List.lookup,hb,if_neg (fun e:g=f=>hk (h.symm.trans e))]
      · have hb:(g==k)=false:=bQ.mpr h
        simp only[List.lookup,hb];exact ih
theorem keys_putF(f:Str)(v:V):∀ fs:Li (Str×V),f∈(putF f v fs).map (·.1)/\∀ g,g∈fs.map (·.1)->g∈(putF f v fs).map (·.1)
  |[]=>⟨by simp[putF],fun g h=>by simp at h⟩
  | (k,x) :: r=>by
    obtain⟨i1,i2⟩:=keys_putF f v r;rw[show putF f v ((k,x) :: r)=(if k=f then (k,v) :: r else (k,x) :: putF f v r) from rfl]
    by_cases hk:k=f
    · rw[if_pos hk]
      subst hk;exact⟨by simp,fun g h=>by simpa using h⟩
    · rw[if_neg hk]
      refine⟨?_,fun g h=>?_⟩
      · rw[aT]
        exact Lm _ i1
      · rw[aT]at h ⊢
        rcases aG.mp h with e|e
        · exact aG.mpr (.inl e)
        · exact Lm _ (i2 g e)
theorem length_putF(f:Str)(v:V):∀ fs:Li (Str×V),(putF f v fs).length<=fs.length+1
  |[]=>by simp[putF]
  | (k,x) :: r=>by
    have ih:=length_putF f v r;rw[show putF f v ((k,x) :: r)=(if k=f then (k,v) :: r else (k,x) :: putF f v r) from rfl]
    by_cases hk:k=f
    · rw[if_pos hk,aR,aR];omega
    · rw[if_neg hk,aR,aR];omega

theorem RelO.some_of{v:V}{o:Ot vL}(r:RelO (some v) o):∃ u,o=some u/\RelV v u:=by
  cases o with
  |none=>exact(show False from r).elim
  |some u=>exact⟨u,rfl,r⟩
theorem RelO.none_of{o:Ot vL}(r:RelO none o):o=none:=by
  cases o with
  |none=>rfl
  |some u=>exact(show False from r).elim
theorem handed_of{v:V}{u:vL}(r:RelV v u):PySem.W.handedIn u=true:=by
  cases v with
  |non=>cases (show u=Value.none from r);rfl
  |bl b=>cases (show u=Value.bool b from r);rfl
  |int i=>obtain⟨t,e⟩:=(show ∃ t,u=Value.int i t from r);cases e;rfl
  |str x=>obtain⟨t,e⟩:=(show ∃ t,u=Value.str x t from r);cases e;rfl
  |byt b=>obtain⟨t,e⟩:=(show ∃ t,u=Value.bytes b t from r);cases e;rfl
  |flt b=>obtain⟨t,e⟩:=(show ∃ t,u=Value.float b t from r);cases e;rfl
  |ref a=>cases (show u=Value.ref a from r);rfl
  |ty n=>cases (show u=Value.type n from r);rfl

section
variable {P:Program}{w:World}{H H':Hp}{h h':Heap}{a C dx:Ad}{fs fs':Li (Str×V)}
theorem ins_get(hok:HOk P w H h)(e:H a=some (.ins C dx fs)):∃ mA,ObjM h a dx C mA/\(∀ f,RelO (fs.lookup f) (mA f))/\PySem.Within mA (fs.map (·.1))/\fs.length<=1000/\H dx=some (.own a):=by
  obtain⟨d,z,ne,ob,mA,n,r,q⟩:=(show ObjOk P w H h a (.ins C dx fs) from hok a _ e);exact⟨mA,⟨ob,n,ne⟩,r,q,z,d⟩
end

structure Cls(K:Fg)(C:Addr):Prop where
  pg:PySem.W.plainGet K C Str.empty=true
  hd:PySem.W.hasDictIn K C=true
  po:PySem.W.plainOver K C=true
  sa:PySem.W.findIn K (.ref C) "__setattr__"=some (some (.builtin "object.__setattr__"))
theorem Cls.get{C:Ad}(c:Cls K C)(f:Str):PySem.W.plainGet K C f=true:=c.pg
def NoAttr(K:Fg)(C:Ad)(f:Str):Prop:=PySem.W.findIn K (.ref C) f=some none
theorem NoAttr.taker{C:Ad}{f:Str}(n:NoAttr K C f):PySem.W.takerIn K C f=some none:=by
  unfold PySem.W.takerIn;rw[show PySem.W.findIn K (.ref C) f=some none from n];rfl
structure Con(K:Fg)(C:Addr)(f:Str)(v:V)(u:Value):Prop where
  at_:PySem.W.findIn K (.ref C) f=some (some u)
  rel:RelV v u
  get:PySem.W.specialIn K u "__get__"=some none
  cp:PySem.W.copiedNames.contains f=false
structure Meth(K:Fg)(C:Addr)(m:Str)(f:Addr):Prop where
  at_:PySem.W.findIn K (.ref C) m=some (some (.ref f))
  fn:PySem.W.isFn K (.ref f)=true
  kp:PySem.W.keepIn K (.ref f)=true

section
variable {X:Cx}{pQ:Li (Ad×Obj)}{σ:St}{H:Hp}{s:sH7}{a C dx:Ad}{fs:Li (Str×V)}{f:Str}{v:V}{A:Around}{E:vL->sH7->Prop}

theorem getattr_ok{b:Bool}(I:Inv X pQ σ H s)(e:H a=some (.ins C dx fs))(c:Cls X.K C)(n:NoAttr X.K C f)(l:fs.lookup f=some v)(h:∀ u s',Inv X pQ σ H s'->RelV v u->Q u s'):wpAny (model X.prog X.w) A (getAttr (.ref a) f b) Q E s:=by
  obtain⟨mA,O,r,_,_,_⟩:=ins_get I.hok e;obtain⟨u,hu,ru⟩:=RelO.some_of (v:=v) (o:=mA f) (by rw[<-l];exact r f)
  exact get_map I.kIn O (c.get f) c.hd n hu (handed_of ru) (h u _ (I.tok _) ru)


theorem getmeth_ok{m:Str}{g:Ad}{Q:vL×Li vL->sH7->Prop}(I:Inv X pQ σ H s)(e:H a=some (.ins C dx fs))(c:Cls X.K C)(k:Meth X.K C m g)(l:fs.lookup m=none)(h:Q (.ref g,[.ref a]) s):wpAny (model X.prog X.w) A (getMethod (.ref a) m pl) Q E s:=by
  obtain⟨mA,O,r,_,_,_⟩:=ins_get I.hok e;have hn:mA m=none:=RelO.none_of (by rw[<-l];exact r m)
  exact get_meth I.kIn O (c.get m) k.at_ k.fn hn h

theorem setattr_ok{u:vL}{Q:Unit->sH7->Prop}(I:Inv X pQ σ H s)(e:H a=some (.ins C dx fs))(c:Cls X.K C)(n:NoAttr X.K C f)(hl:fs.length < 1000)(ry:RelV y u)(h:∀ s',Inv X pQ σ (upd H a (.ins C dx (putF f y fs))) s'->Q () s'):wpAny (model X.prog X.w) A (setAttr (.ref a) f u) Q E s:=by
  obtain⟨mA,O,r,wi,_,ho⟩:=ins_get I.hok e;have hz:(fs.map (·.1)).length<=sizeLine:=by rw[aJ,sizeLine_eq];omega
  refine set_map I.kIn O c.sa c.po n.taker c.hd wi hz fun h' O' sb=>h _ ?_
  have hd:∃ o,h'.get? dx=some o:=let ⟨o,_,_,e',_⟩:=O'.ns;⟨o,e'⟩
  refine I.write (x:=a) (e:=dx) (by rw[e];exact True.intro) (.inr ho) (fun b q hb z=>(sb.2 b hb).trans z) hd ?_
  refine⟨by rw[upd_ne O.ne];exact ho,?_,O.ne,O'.obj,_,O'.ns,fun g=>?_,fun g hg=>?_⟩
  · have:=length_putF f y fs;omega
  · show RelO ((putF f y fs).lookup g) (if g=f then some u else mA g)
    rw[lookup_putF];by_cases q:g=f
    · rw[if_pos q,if_pos q];exact ry
    · rw[if_neg q,if_neg q];exact r g
  · by_cases q:g=f
    · rw[q];exact(keys_putF f y fs).1
    · refine(keys_putF f y fs).2 g (wi g fun z=>hg ?_)
      show(if g=f then some u else mA g)=none
      rw[if_neg q];exact z

theorem Inv.made(I:Inv X pQ σ H s):Inv X pQ σ (upd (upd H s.heap.objs.size (.own (s.heap.objs.size+1))) (s.heap.objs.size+1) (.ins C s.heap.objs.size []))
    { s with heap:=(s.heap.push PySem.W.emptyDict).push (PySem.W.instObj C s.heap.objs.size) }:=by
  have e1:(s.heap.push PySem.W.emptyDict).get? s.heap.objs.size=some PySem.W.emptyDict:=bA s.heap rfl;have e2:((s.heap.push PySem.W.emptyDict).push (PySem.W.instObj C s.heap.objs.size)).get? (s.heap.objs.size+1)=some (PySem.W.instObj C s.heap.objs.size):=by
    have:=bA (s.heap.push PySem.W.emptyDict) (o:=PySem.W.instObj C s.heap.objs.size) rfl
    rwa [Heap.size_push]at this
  have e3:(s.heap.push PySem.W.emptyDict).Ns s.heap.objs.size (fun _=>none):=⟨PySem.W.emptyDict,#[],_,e1,rfl,(fun e he=>absurd he (by simp)),fun _=>rfl⟩
  have I1:=I.laid (a:=s.heap.objs.size) (o:=.own (s.heap.objs.size+1)) (h':=s.heap.push PySem.W.emptyDict) (t':=s.toks) (fun b u q=>aO _ q) (aE _) ⟨_,e1⟩
  refine I1.laid (a:=s.heap.objs.size+1) (o:=.ins C s.heap.objs.size []) (t':=s.toks) (fun b u q=>aO _ q) (cU (Heap.size_push _ _)) ?_
  have ne:s.heap.objs.size≠s.heap.objs.size+1:=aZ (Nat.lt_succ_self _);refine⟨by rw[upd_ne ne,upd_same],bH _,ne,e2,fun _=>none,(Heap.Ns1.of_empty e3).at fun o q=>aO _ q,fun _=>True.intro,fun y hy=>absurd rfl hy⟩

theorem attr_of{prog:Program}{env:Env}{e:Expr}{f:Str}{pos:Pos}(hb:attributeBase e f env (eval e env)=eval e env)(h:wpAny (model prog w) A (eval e env) (fun o s₁=>wpAny (model prog w) A (getAttr o f true) Q E s₁) E s):wpAny (model prog w) A (eval (.Attribute e f pos) env) Q E s:=
  Attribute_any_ h (by rw[arm_eval_Attribute,hb])
end

noncomputable def tFld(K:Fg)(ta:TE)(f:Str):TE:=fun σ H Q=>ta σ H fun x H1=>∃ a C dx fs v,x=.ref a/\H1 a=some (.ins C dx fs)/\Cls K C/\NoAttr K C f/\fs.lookup f=some v/\Q v H1
noncomputable def sFld(K:Fg)(ta tv:TE)(f:Str):TS:=fun D σ H=>tv σ H fun y H1=>ta σ H1 fun x H2=>∃ a C dx fs,x=.ref a/\H2 a=some (.ins C dx fs)/\Cls K C/\NoAttr K C f/\fs.length < 1000 /\
  D.nx σ (upd H2 a (.ins C dx (putF f y fs)))

section
variable {X:Cx}{o e value:Expr}{f:Str}{pos pos' tpos:Pos}{ta tv:TE}
theorem pe_fld(he:PE X e ta)(hb:attributeBase e f X.env (eval e X.env)=eval e X.env):PE X (.Attribute e f pos) (tFld X.K ta f):=by
  intro pQ s σ H Q I h;refine attr_of hb (thn (he pQ s σ H _ I h) fun u s1 ⟨x,H1,I1,rx,a,C,dx,fs,v,ex,ea,c,n,l,q⟩=>?_)
  subst ex;obtain rfl:u=Value.ref a:=rx;exact getattr_ok I1 ea c n l fun u' s2 I2 ru=>⟨v,H1,I2,ru,q⟩
theorem ps_fld(ha:PE X o ta)(hv:PE X value tv)(hs:swapsWith value (some (.Attribute o f pos')) pos.line X.env=pure false):PS X (.Assign [.Attribute o f pos'] value pos) (sFld X.K ta tv f):=by
  intro pQ s σ H D I h;refine plainObj_wpAny_Assign_Attribute (thn (hv pQ s σ H _ I h) fun u s1 ⟨y,H1,I1,ry,q⟩=>thn (ha pQ s1 σ H1 _ I1 q) fun ov s2 ⟨x,H2,I2,rx,a,C,dx,fs,ex,ea,c,n,l,q2⟩=>?_) hs
  subst ex;obtain rfl:ov=Value.ref a:=rx;exact setattr_ok I2 ea c n l ry fun s3 I3=>⟨σ,_,I3,q2⟩

end

section
variable {X:Cx}{pQ:Li (Ad×Obj)}{σ:St}{H:Hp}{s:sH7}{A:Around}{E:vL->sH7->Prop}{Q:vL->sH7->Prop}{c:vL}{b:Bool}
inductive TyOf(K:Fg)(H:Hp):V->Value->Prop where
  |non:TyOf K H .non (.type "NoneType")
  |bl (x:Bool):TyOf K H (.bl x) (.type "bool")
  |int (i:Int):TyOf K H (.int i) (.type "int")
  |str (x:Str):TyOf K H (.str x) (.type "str")
  |flt (x:UInt64):TyOf K H (.flt x) (.type "float")
  |lst {a:Addr}{xs:List V} (e:H a=some (.lst xs)):TyOf K H (.ref a) (.type "list")
  |frz {a:Addr}{o:Obj}{xs:List V} (e:H a=some (.frz o (.lst xs))):TyOf K H (.ref a) (.type "list")
  |tup {a:Addr}{xs:List V} (e:H a=some (.tup xs)):TyOf K H (.ref a) (.type "tuple")
  |dK {a:Addr}{kvs:List (Key×V)} (e:H a=some (.dK kvs)):TyOf K H (.ref a) (.type "dict")
  |dT {a:Addr}{kvs:List (List Key×V)} (e:H a=some (.dT kvs)):TyOf K H (.ref a) (.type "dict")
  |ins {a C dx:Addr}{fs:List (Str×V)} (e:H a=some (.ins C dx fs)) (cl:Cls K C) (ha:PySem.W.findIn K (.ref C) "__class__"=some (some (.builtin "object.__class__")))
      (hn:PySem.W.specialIn K (.builtin "object.__class__") "__get__"=some (some (.builtin "getset_descriptor.__get__"))) (htk:PySem.W.takesIn K (.builtin "object.__class__")=some true)
      (hm:PySem.W.mroIn K C (.type "object")=some true):TyOf K H (.ref a) (.ref C)
theorem isinst_ok{x:V}{u t:vL}(I:Inv X pQ σ H s)(rx:RelV x u)(ty:TyOf X.K H x t)(e:PySem.W.kitOne X.K t c=some b)(h:∀ tk,Q (.bool b) { s with toks:=tk }) :
    wpAny (model X.prog X.w) A (call (.builtin "isinstance") [u,c]) Q E s:=by
  cases ty with
  |non=>cases (show u=Value.none from rx);exact PySem.W.kia_one PySem.W.kitx_none I.kIn True.intro e (fun z=>nomatch z) h
  |bl y=>cases (show u=Value.bool y from rx);exact PySem.W.kia_one PySem.W.kitx_bool I.kIn True.intro e (fun z=>nomatch z) h
  |int i=>obtain⟨t,q⟩:=(show ∃ t,u=Value.int i t from rx);cases q;exact PySem.W.kia_one PySem.W.kitx_int I.kIn True.intro e (fun z=>nomatch z) h
  |str y=>obtain⟨t,q⟩:=(show ∃ t,u=Value.str y t from rx);cases q;exact PySem.W.kia_one PySem.W.kitx_str I.kIn True.intro e (fun z=>nomatch z) h
  |flt y=>obtain⟨t,q⟩:=(show ∃ t,u=Value.float y t from rx);cases q;exact PySem.W.kia_one PySem.W.kitx_float I.kIn True.intro e (fun z=>nomatch z) h
  |@lst a xs ea=>
    cases (show u=Value.ref a from rx)
    obtain⟨_,_,n,_,h1⟩:=(show ObjOk X.prog X.w H s.heap a (.lst xs) from I.hok a _ ea);exact PySem.W.kia_one PySem.W.kitx_list I.kIn ⟨_,h1,rfl⟩ e (fun z=>nomatch z) h
  |@frz a ob xs ea=>
    cases (show u=Value.ref a from rx)
    obtain⟨_,_,_,n,_,h1⟩:=(show ObjOk X.prog X.w H s.heap a (.frz ob (.lst xs)) from I.hok a _ ea);exact PySem.W.kia_one PySem.W.kitx_list I.kIn ⟨_,h1,rfl⟩ e (fun z=>nomatch z) h
  |@tup a xs ea=>
    cases (show u=Value.ref a from rx)
    obtain⟨_,_,_,p⟩:=(show ObjOk X.prog X.w H s.heap a (.tup xs) from I.hok a _ ea);obtain⟨o,h1,h2,_⟩:=p;exact PySem.W.kia_one PySem.W.kitx_tuple I.kIn ⟨o,h1,h2⟩ e (fun z=>nomatch z) h
  |@dK a kvs ea=>
    cases (show u=Value.ref a from rx)
    obtain⟨_,_,vs,_,p⟩:=(show ObjOk X.prog X.w H s.heap a (.dK kvs) from I.hok a _ ea);obtain⟨o,es,ep,h1,h2,_⟩:=p;exact PySem.W.kia_one PySem.W.kitx_dict I.kIn ⟨o,h1,h2.1⟩ e (fun z=>nomatch z) h
  |@dT a kvs ea=>
    cases (show u=Value.ref a from rx)
    obtain⟨_,_,xs,_,o,es,ep,h1,h2,_⟩:=(show ObjOk X.prog X.w H s.heap a (.dT kvs) from I.hok a _ ea);exact PySem.W.kia_one PySem.W.kitx_dict I.kIn ⟨o,h1,h2.1⟩ e (fun z=>nomatch z) h
  |@ins a C dx fs ea cl ha hn htk hm=>
    cases (show u=Value.ref a from rx)
    obtain⟨mA,O,_⟩:=ins_get I.hok ea;obtain⟨od,J,_⟩:=O.look;exact PySem.W.kia_one (PySem.W.kitx_own (cl.get _) cl.hd ha hn htk hm) I.kIn J e (fun z=>nomatch z) h
end
structure Room(k:Nat)(A:Around):Prop where
  hd:3<=k->A.handled=none
  dp:A.depth+3 * k+5 < recursionLimit
  un:A.units+16 * k+200 < cLine
variable{k:Nat}
theorem Room.mono{j:Nat}(r:Room k A)(h:j<=k):Room j A:=⟨fun z=>r.hd (aH z h),by have:=r.dp;omega,by have:=r.un;omega⟩
theorem Room.deeper(r:Room (k+1) A)(env:Env):Room k (A.deeper env):=
  ⟨fun z=>r.hd (Nat.le_succ_of_le z),by have:=r.dp;show A.depth+1+3 * k+5 < _;omega,by have:=r.un;show A.units+3+16 * k+200 < _;omega⟩
theorem make_depth{C:Ad}:(A.under (.builtin "type.__call__" ⟨.ref C :: us,kw⟩)).depth=A.depth+1:=by
  first|rfl|simp[Around.under,Code.weight,Code.isCreation,Code.isGuard,Code.isCaller,Code.frames,Code.isFrame,guardIds]
theorem make_units{C:Ad}:(A.under (.builtin "type.__call__" ⟨.ref C :: us,kw⟩)).units=A.units+1:=by
  first|rfl|simp[Around.under,Code.cUnits,Code.frames,Code.isFrame]
theorem Room.make(r:Room (k+1) A)(C:Ad)(us:Li vL)(kw:Li (Str×vL)):Room k (A.under (.builtin "type.__call__" ⟨.ref C :: us,kw⟩)):=
  ⟨fun z=>r.hd (Nat.le_succ_of_le z),by have:=r.dp;rw[make_depth];omega,by have:=r.un;rw[make_units];omega⟩
theorem Room.depth(r:Room k A):A.depth < recursionLimit:=by have:=r.dp;omega
theorem Room.units(r:Room k A):A.units+64 < cLine:=by have:=r.un;omega

noncomputable def tNil:TA:=fun _ H Q=>Q [] H
noncomputable def tCons(ta:TE)(tr:TA):TA:=fun σ H Q=>ta σ H fun x H1=>tr σ H1 fun xs H2=>Q (x :: xs) H2
section
variable {X:Cx}{e:Expr}{es:Li Expr}{te:TE}{t:TA}{pos:Pos}
theorem pa_nil:PA X [] tNil:=fun _ _ _ _ H Q I h=>Calls.spliced_nil ⟨[],H,I,.nil,h⟩
theorem pa_cons(ha:PE X e te)(hr:PA X es t)(hs:starEach (e :: es) X.env=(false,eval e X.env) :: starEach es X.env:=by rfl):PA X (e :: es) (tCons te t):=by
  intro pos pQ s σ H Q I h;rw[hs];show wpAny _ _ (spliced ((false,eval e X.env) :: backTo pos (starEach es X.env))) _ _ s;refine Calls.spliced_cons (thn (ha pQ s σ H _ I h) fun u s1 ⟨x,H1,I1,r1,q1⟩=>?_)
  exact thn (hr pos pQ s1 σ H1 _ I1 q1) fun us s2 ⟨xs,H2,I2,r2,q2⟩=>⟨x :: xs,H2,I2,.cons r1 r2,q2⟩

noncomputable def tTup(t:TA):TE:=fun σ H Q=>t σ H fun xs H1=>xs.length<=sizeLine/\∀ p,H1 p=none->Q (.ref p) (upd H1 p (.tup xs))
noncomputable def tLst(t:TA):TE:=fun σ H Q=>t σ H fun xs H1=>xs.length<=sizeLine/\∀ p,H1 p=none->Q (.ref p) (upd H1 p (.lst xs))
theorem pe_tup{x1}(h:PA X es t):PE X (.Tuple es x1 pos) (tTup t):=by
  intro pQ s σ H Q I hq;refine wpAny_Tuple_spliced (thn (h pos pQ s σ H _ I hq) fun us s1 ⟨xs,H1,I1,r,z,q⟩=>⟨by rw[<-r.length];exact z,?_⟩)
  have hf:H1 s1.heap.objs.size=none:=I1.hok.fresh (aE _);refine⟨.ref s1.heap.objs.size,upd H1 s1.heap.objs.size (.tup xs),I1.laid (t':=s1.toks) (fun b u e=>aO _ e) (aE _) ?_,rfl,q _ hf⟩
  exact⟨z,us,r,⟨_,bA _ rfl,rfl,_,rfl⟩⟩
theorem pe_lst(h:PA X es t):PE X (.List es pos) (tLst t):=by
  intro pQ s σ H Q I hq;refine wpAny_List_spliced (thn (h pos pQ s σ H _ I hq) fun us s1 ⟨xs,H1,I1,r,z,q⟩=>⟨by rw[<-r.length];exact z,?_⟩)
  have hf:H1 s1.heap.objs.size=none:=I1.hok.fresh (aE _);refine⟨.ref s1.heap.objs.size,upd H1 s1.heap.objs.size (.lst xs),I1.laid (t':=s1.toks) (fun b u e=>aO _ e) (aE _) ?_,rfl,q _ hf⟩
  exact⟨z,us,0,r,bA _ rfl⟩
end

abbrev Sp:=Li V->Hp->VK->XK->Prop
abbrev CXT:=Li Env->Hp->sH7->XK->vL->sH7->Prop

structure Env0(P:Program)(w:World)(K:Fg)(mg:Str->Option Value)(base:Heap)(A:Around)(outer:List Env)(s:Shared)(H:Hp):Prop where
  frames:A.frames=some outer
  mod:Mod K mg base
  bs:∀ b o,base.get? b=some o->s.heap.get? b=some o/\H b=none
  bsz:base.objs.size<=s.heap.objs.size
  funs:s.heap.FunFrames base outer
  frf:∀ b∈frs outer,H b=none
  hok:HOk P w H s.heap
  bare:AllBare s.gens
def CE(outer:Li Env)(P:Program)(w:World)(H:Hp)(s:sH7)(Q:VK)(u:vL)(s':sH7):Prop:=
  ∃ v H',s'.os=s.os/\AllBare s'.gens/\Un (frs outer) [] H H' s.heap s'.heap/\HOk P w H' s'.heap/\RelV v u/\Q v H'
def CR(CX:CXT)(outer:Li Env)(P:Program)(w:World)(H:Hp)(s:sH7)(Q:VK)(E:XK)(r:Result)(s':sH7):Prop:=
  match r with
  |.ok (.ret u)=>CE outer P w H s Q u s'
  |.ok _=>False
  |.error e=>CX outer H s E e s'
structure FnOk(P:Program)(w:World)(K:Fg)(mg:Str->Option Value)(base:Heap)(CX:CXT)(k:Nat)(f:Addr)(fd:FuncData)(ps:List Str)(sp:Sp):Prop where
  len:∀ vs H Q E,sp vs H Q E->vs.length=ps.length
  run:∀ (A:Around) (outer:List Env) (s:Shared) (H:Hp) (args:Args) (us:List Value) (vs:List V) (Q:VK) (E:XK),Room k A->Env0 P w K mg base A outer s H->BindsTo s fd args (ps.zip us)->Vals vs us->sp vs H Q E->
    codeAny (model P w) A (.call (.ref f) args) (CR CX outer P w H s Q E) s

variable{mg:Str->Ot vL}{base:Heap}{outer:Li Env}
theorem Env0.make{P:Program}(e:Env0 P w K mg base A outer s H)(C:Ad)(us:Li vL)(kw:Li (Str×vL)) :
    Env0 P w K mg base (A.under (.builtin "type.__call__" ⟨.ref C :: us,kw⟩)) outer s H:=⟨by first|exact e.frames | (simpa[Around.under,Code.envs,Code.isFrame,pushEnvs] using e.frames),e.mod,e.bs,e.bsz,e.funs,e.frf,e.hok,e.bare⟩

section
variable {X:Cx}{pQ:Li (Ad×Obj)}{σ:St}{H:Hp}{s s':sH7}
theorem Inv.env0(I:Inv X pQ σ H s):Env0 X.prog X.w X.K X.mg X.base X.A X.stack s H:=
  ⟨I.ok.frames,I.ok.mod,I.bs,aH I.ok.bsz I.sz,I.stack,I.stkFree,I.hok,I.bare⟩
theorem Inv.after{Q:VK}{u:vL}(I:Inv X pQ σ H s)(h:CE X.stack X.prog X.w H s Q u s'):EP X pQ σ Q u s':=by
  obtain⟨v,H',os,bare,un,hok,r,q⟩:=h;obtain⟨hh,g,d,t,os'⟩:=s';obtain rfl:os'=s.os:=os;exact⟨v,H',I.call (h':=hh) (g':=g) (d':=d) (t':=t) (ch:=[]) un hok bare (fun b z=>absurd z (by simp)),r,q⟩
end

noncomputable def tCall(sp:Sp)(dvs:Li V)(E:XK)(t:TA):TE:=fun σ H Q=>t σ H fun vs H1=>sp (vs++dvs) H1 Q E

def Binds(K:Fg)(fd:FuncData)(ps:Li Str)(ds:Li vL):Prop:=
  ∀ (s:sH7) (us:Li vL),K.In s.heap->(us++ds).length=ps.length->BindsTo s fd ⟨us,[]⟩ (ps.zip (us++ds))
variable{ps:Li Str}
theorem Binds.all{fd:FuncData}(h:∀ us:Li vL,us.length=ps.length->bindArgs fd ⟨us,[]⟩=pure (ps.zip us)):Binds K fd ps []:=fun s us _ hl=>by
  rw[aP]at hl ⊢;exact .of_eq (h us hl)

def Passes(CX:CXT)(X:Cx)(E:XK):Prop:=∀ (pQ:Li (Ad×Obj)) (σ:St) (H:Hp) (s:sH7) (e:vL) (s':sH7),Inv X pQ σ H s->CX X.stack H s E e s'->X.xe e s'

variable{vs:Li V}
section
variable {X:Cx}{CX:CXT}{k:Nat}{f C:Ad}{fd:FuncData}{ps:Li Str}{sp:Sp}{dvs:Li V}{ds:Li vL}{E:XK}{x m:Str}{p pos apos:Pos}{e o:Expr}{es:Li Expr}{ta:TE}{t:TA}

theorem run_fn{σ:St}{Q:VK}(F:FnOk X.prog X.w X.K X.mg X.base CX k f fd ps sp)(hr:Room k X.A)(hb:Binds X.K fd ps ds)(hd:Vals dvs ds)(hx:Passes CX X E)(I:Inv X pQ σ H s)(r:Vals vs us)(h:sp (vs++dvs) H Q E):wpAny (model X.prog X.w) X.A (call (.ref f) us) (EP X pQ σ Q) X.xe s:=by
  have r2:Vals (vs++dvs) (us++ds):=r.append hd;have hl:(us++ds).length=ps.length:=by rw[<-r2.length];exact F.len _ _ _ _ h
  refine wpAny_call (codeAny_mono (F.run X.A X.stack s H ⟨us,[]⟩ (us++ds) (vs++dvs) Q E hr I.env0 (hb s us I.kIn hl) r2 h) fun r s' hq=>?_)
  cases r with
  |error e=>exact hx pQ σ H s e s' I hq
  |ok fl=>
    cases fl with
    |ret u=>exact I.after hq
    |next=>exact False.elim hq
    |brk=>exact False.elim hq
    |cont=>exact False.elim hq

theorem pe_call(F:FnOk X.prog X.w X.K X.mg X.base CX k f fd ps sp)(hr:Room k X.A)(hg:Gl X x)(hm:X.mg x=some (.ref f))(hk:PySem.W.keepIn X.K (.ref f)=true)(hb:Binds X.K fd ps ds)(hd:Vals dvs ds)(hx:Passes CX X E)(ha:PA X (e :: es) t)(hdb:(x==("__debug__":Str))=false:=by decide)(he:starEach (e :: es) X.env=(false,eval e X.env) :: starEach es X.env:=by rfl)(hpl:(backTo pos (starEach es X.env)).any (·.1)=false:=by rfl) :
    PE X (.Call (.Name x p) (e :: es) [] pos) (tCall sp dvs E t):=by
  intro pQ s σ H Q I h;refine wpAny_Call_Name_kw (ld_glob I hg hm ?_ hdb);refine PySem.W.callWith_K (h₀:=X.base) I.ok.mod.kin hk (thn (ha pos pQ s σ H _ I h) fun us s1 ⟨vs,H1,I1,r,q⟩=>⟨I1.kIn,?_⟩) he hpl
  exact run_fn F hr hb hd hx I1 r q
theorem pe_call0(F:FnOk X.prog X.w X.K X.mg X.base CX k f fd ps sp)(hr:Room k X.A)(hg:Gl X x)(hm:X.mg x=some (.ref f))(hk:PySem.W.keepIn X.K (.ref f)=true)(hb:Binds X.K fd ps ds)(hd:Vals dvs ds)(hx:Passes CX X E)(hdb:(x==("__debug__":Str))=false:=by decide):PE X (.Call (.Name x p) [] [] pos) (tCall sp dvs E tNil):=by
  intro pQ s σ H Q I h;refine wpAny_Call_Name_kw (ld_glob I hg hm ?_ hdb);exact PySem.W.callWith_K0 I.kIn hk (run_fn (us:=[]) F hr hb hd hx I .nil h)


structure Mk(K:Fg)(C f:Addr):Prop where
  makes:PySem.W.makesIn K C=true
  init:PySem.W.findIn K (.ref C) "__init__"=some (some (.ref f))
  fn:PySem.W.isFn K (.ref f)=true
  kp:PySem.W.keepIn K (.ref C)=true

theorem run_make{σ:St}{Q:VK}(M:Mk X.K C f)(F:FnOk X.prog X.w X.K X.mg X.base CX k f fd ps sp)(hr:Room (k+1) X.A)(hb:Binds X.K fd ps ds)(hd:Vals dvs ds)(hx:Passes CX X E)(I:Inv X pQ σ H s)(r:Vals vs us)(h:∀ x dx,H x=none->H dx=none->dx≠x->(∀ o,X.K.lookup x≠some o)->sp (.ref x :: (vs++dvs)) (upd (upd H dx (.own x)) x (.ins C dx [])) (fun v H2=>v=.non/\Q (.ref x) H2) E) :
    wpAny (model X.prog X.w) X.A (call (.ref C) us) (EP X pQ σ Q) X.xe s:=by
  have hq:=h (s.heap.objs.size+1) s.heap.objs.size (I.hok.fresh (Nat.le_succ _)) (I.hok.fresh (aE _)) (aZ (Nat.lt_succ_self _)) (fun o z=>absurd (aI (I.kIn _ o z)) (Nat.not_lt.mpr (Nat.le_succ _)))
  have I2:=Inv.made (C:=C) I;have r2:Vals (V.ref (s.heap.objs.size+1) :: (vs++dvs)) (Value.ref (s.heap.objs.size+1) :: (us++ds)):=.cons rfl (r.append hd);have hl:(Value.ref (s.heap.objs.size+1) :: us++ds).length=ps.length:=by
    have e:=r2.length;rw[F.len _ _ _ _ hq]at e;exact e.symm
  refine wpAny_call (make_map (f:=f) I.kIn M.makes M.init (beq_iff_eq.mp M.fn) (codeAny_mono (F.run _ X.stack _ _ ⟨Value.ref (s.heap.objs.size+1) :: us,[]⟩ (Value.ref (s.heap.objs.size+1) :: (us++ds)) _ _ E (hr.make C us [])
    (I2.env0.make C us []) (hb _ (Value.ref (s.heap.objs.size+1) :: us) I2.kIn hl) r2 hq) fun r s' hq'=>?_))
  cases r with
  |error e=>exact hx pQ σ _ _ e s' I2 hq'
  |ok fl=>
    cases fl with
    |ret u=>
      obtain⟨v,H',I3,rv,ev,q3⟩:=I2.after hq';subst ev;exact⟨rv,⟨V.ref (s.heap.objs.size+1),H',I3,rfl,q3⟩⟩
    |next=>exact False.elim hq'
    |brk=>exact False.elim hq'
    |cont=>exact False.elim hq'
end

section
variable {X:Cx}{CX:CXT}{k:Nat}{f C:Ad}{fd:FuncData}{ps ks:Li Str}{sp:Sp}{E:XK}{x m:Str}{p pos apos kpos:Pos}{e o:Expr}{es:Li Expr}{kws:Li Keyword}{te ta:TE}{t tk:TA}{nm:Ot Str}

structure KBinds(K:Fg)(fd:FuncData)(ps ks:List Str)(g:List Value->List Value->List Value)(gV:List V->List V->List V):Prop where
  to:∀ (s:Shared) (us ws:List Value),K.In s.heap->(g us ws).length=ps.length->BindsTo s fd ⟨us,ks.zip ws⟩ (ps.zip (g us ws))
  rel:∀ {vs:List V}{us:List Value}{zs:List V}{ws:List Value},Vals vs us->Vals zs ws->Vals (gV vs zs) (g us ws)
variable {g:Li vL->Li vL->Li vL}{gV:Li V->Li V->Li V}
end

structure FnScope(N P:List Str)(sc:Scope):Prop where
  kind:sc.kind=.function
  co:sc.isCoroutine=false
  gen:sc.isGenerator=false
  nd:N.Nodup
  pre:N.take P.length=P
  par:∀ x∈P,sc.names.lookup x=some .local\/sc.names.lookup x=some .cell
  nofree:∀ y∈sc.names,y.2≠.free

theorem bindL_out{kindOf:Str->Ot NameKind}{x:Str}:∀ {binds:Li (Str×vL)}{m:Str->Ot vL},(∀ v,(x,v)∉binds)->bindL kindOf binds m x=m x
  |[],_,_=>rfl
  | (n,v) :: r,m,h=>by
    unfold bindL;rw[bindL_out fun w hw=>h w (Lm _ hw)]
    split
    · have:x≠n:=by rintro rfl;exact h v lQ7
      simp[this]
    · rfl
theorem bindC_out{kindOf:Str->Ot NameKind}{x:Str}:∀ {binds:Li (Str×vL)}{m:Str->Ot vL},(∀ v,(x,v)∉binds)->bindC kindOf binds m x=m x
  |[],_,_=>rfl
  | (n,v) :: r,m,h=>by
    unfold bindC;rw[bindC_out fun w hw=>h w (Lm _ hw)]
    split
    · rfl
    · have:x≠n:=by rintro rfl;exact h v lQ7
      simp[this]
theorem bindL_get{kindOf:Str->Ot NameKind}{x:Str}{v:vL}:∀ {P:Li Str}{vs:Li vL}{i:Nat}{m:Str->Ot vL},P.Nodup->P[i]?=some x->vs[i]?=some v->kindOf x=some .local->
    bindL kindOf (P.zip vs) m x=some v
  |[],_,_,_,_,h,_,_=>by simp at h
  |_ :: _,[],_,_,_,_,h,_=>by simp at h
  |p :: P,w :: vs,0,m,nd,h1,h2,hk=>by
    simp at h1 h2;subst h1;subst h2;show bindL kindOf ((p,w) :: P.zip vs) m p=_;unfold bindL;rw[bindL_out fun v hv=>(cJ.mp nd).1 (dC hv).1,if_pos hk]
    simp
  |p :: P,w :: vs,i+1,m,nd,h1,h2,hk=>by
    show bindL kindOf ((p,w) :: P.zip vs) m x=_;unfold bindL;exact bindL_get (i:=i) (cJ.mp nd).2 (by simpa using h1) (by simpa using h2) hk
theorem bindC_get{kindOf:Str->Ot NameKind}{x:Str}{v:vL}:∀ {P:Li Str}{vs:Li vL}{i:Nat}{m:Str->Ot vL},P.Nodup->P[i]?=some x->vs[i]?=some v->kindOf x≠some .local->
    bindC kindOf (P.zip vs) m x=some v
  |[],_,_,_,_,h,_,_=>by simp at h
  |_ :: _,[],_,_,_,_,h,_=>by simp at h
  |p :: P,w :: vs,0,m,nd,h1,h2,hk=>by
    simp at h1 h2;subst h1;subst h2;show bindC kindOf ((p,w) :: P.zip vs) m p=_;unfold bindC;rw[bindC_out fun v hv=>(cJ.mp nd).1 (dC hv).1,if_neg hk]
    simp
  |p :: P,w :: vs,i+1,m,nd,h1,h2,hk=>by
    show bindC kindOf ((p,w) :: P.zip vs) m x=_;unfold bindC;exact bindC_get (i:=i) (cJ.mp nd).2 (by simpa using h1) (by simpa using h2) hk

noncomputable def start(N:Li Str)(vs:Li V):St:=vs.map some++List.replicate (N.length - vs.length) none

noncomputable def cxOf(CX:CXT)(P:Program)(w:World)(K:Fg)(mg:Str->Ot vL)(base:Heap)(N:Li Str)(qual:Str)(scope:Scope)(f:Ad)(cd:vL)(A:Around)(outer:Li Env)(s:sH7)(H:Hp)(E:XK):Cx where
  prog:=P
  w:=w
  K:=K
  mg:=mg
  base:=base
  A:=A.deeper (envOfC qual scope s.heap.objs.size f cd)
  N:=N
  s₀:=s
  H₀:=H
  env:=envOfC qual scope s.heap.objs.size f cd
  outer:=outer
  stack:=envOfC qual scope s.heap.objs.size f cd :: outer
  ex:=[]
  calm:=A.handled.isNone
  fn:=fun _=>true
  pn:=[]
  xe:=fun e s'=>wpAny (model P w) (A.deeper (envOfC qual scope s.heap.objs.size f cd)) (leaving (envOfC qual scope s.heap.objs.size f cd) e) (fun _ s''=>CX outer H s E e s'') (fun e' s''=>CX outer H s E e' s'') s'

theorem cell_has{sc:Scope}{x:Str}(h:sc.names.lookup x=some .cell):∃ c,(cellsFrom n sc.names []).lookup x=some c:=by
  have q:=PySem.W.cellsFrom_some sc.names n [] (.inl h);exact Option.isSome_iff_exists.mp q

variable{CX:CXT}
theorem inv_start{P:Program}{qual:Str}{scope:Scope}{f:Ad}{cd:vL}{s1:sH7}{E:XK}(S:FnScope N ps scope)(e0:Env0 P w K mg base A outer s H)(hl:vs.length=ps.length)(r:Vals vs us)(x:InCallC s s.heap.objs.size (bindL (envOfC qual scope s.heap.objs.size f cd).kindOf (ps.zip us) fun _=>none) (cellsFrom (s.heap.objs.size+1) scope.names []) (bindC (envOfC qual scope s.heap.objs.size f cd).kindOf (ps.zip us) fun _=>none) s1) :
    Inv (cxOf CX P w K mg base N qual scope f cd A outer s H E) [] (start N vs) H s1:=by
  have hpl:ps.length<=N.length:=by have:=congrArg List.length S.pre;rw[bF]at this;omega
  obtain⟨h1,tk,rfl,hk⟩:=x.done;have noA:∀ b:Ad,b∉(cxOf CX P w K mg base N qual scope f cd A outer s H E).ex:=fun b z=>absurd (show b∈([]:Li Ad) from z) (by simp)
  refine⟨⟨e0.mod,S.kind,rfl,rfl,aE _,fun y z c h1 h2=>?_,fun y hy=>?_,fun y c _ h=>?_,fun z=>Option.isNone_iff_eq_none.mp z,Around.frames_deeper e0.frames,.inr ⟨rfl,rfl⟩,fun b z=>absurd z (noA b),e0.bs,e0.bsz,fun b _ _=>noA b,fun b z=>absurd z (noA b),e0.funs,e0.frf⟩,
    rfl,e0.bare,Un.kept hk,⟨_,x.toInCall.ns,fun i y v h1 h2 h3=>?_⟩,fun y c h=>⟨_,x.cell y c h⟩,e0.hok.fresh (aE _),fun y c h=>?_,fun p hp=>absurd (show p∈([]:Li (Ad×Obj)) from hp) (by simp),e0.hok.kept hk,?_⟩
  · exact name_of_addr x.apart (PySem.mem_of_lookup h1) (PySem.mem_of_lookup h2)
  · have hy:scope.names.lookup y=some .cell\/scope.names.lookup y=some .free:=hy
    rcases hy with hy|hy
    · exact cell_has hy
    · exact absurd rfl (S.nofree _ (PySem.mem_of_lookup hy))
  · exact Nat.le_of_lt (x.above y c (PySem.mem_of_lookup h))
  · have hi:i < vs.length:=by
      unfold start at h2;by_cases hi:i < vs.length
      · exact hi
      · rw[bV (by simpa using hi)]at h2
        rw[eI]at h2;split at h2<;>cases h2
    have ha:vs[i]?=some v:=by
      unfold start at h2;rw[bU (by simpa using hi),aU]at h2
      cases e:vs[i]? with
      |none=>rw[e]at h2;cases h2
      |some a=>rw[e]at h2;cases h2;rfl
    obtain⟨u,hu,rv⟩:=r.get ha;have hp:ps[i]?=some y:=by
      rw[<-S.pre,List.getElem?_take_of_lt (by omega)];exact h1
    have ndP:ps.Nodup:=by rw[<-S.pre];exact S.nd.sublist (List.take_sublist _ _)
    refine⟨u,rv,?_⟩;rcases S.par y (aV hp) with k|k
    · exact .inl ⟨k,bindL_get ndP hp hu k⟩
    · obtain⟨c,e⟩:=cell_has (n:=s.heap.objs.size+1) k
      refine .inr ⟨.inl k,c,e,?_⟩;have q:=x.cell y c e;rw[bindC_get ndP hp hu (by show scope.names.lookup y≠_;rw[k];decide)]at q
      exact q
  · exact e0.hok.fresh (Nat.le_of_lt (x.above y c (PySem.mem_of_lookup h)))
  · unfold start
    show _=N.length;rw[aK,aJ,cV];omega

theorem fn_of{P:Program}{f:Ad}{name qual:Str}{params:Arguments}{body:Li Stmt}{scope:Scope}{dV kV doc pm cdv ct oc:vL}{an od:Ot Ad}{osl:Array (Ot vL)}{sp:Sp}(lk:K.lookup f=some ⟨oc,od,.func (PySem.W.fnOf name qual params body scope dV kV doc pm an cdv ct),osl⟩)(hcd:PySem.W.codeIn K cdv qual=true)(S:FnScope N ps scope)(len:∀ vs H Q E,sp vs H Q E->vs.length=ps.length)(hbody:∀ (A:Around) (outer:Li Env) (s:sH7) (H:Hp) (vs:Li V) (Q:VK) (E:XK),Room k (A.deeper (envOfC qual scope s.heap.objs.size f cdv))->sp vs H Q E->
      ∃ t,PSs (cxOf CX P w K mg base N qual scope f cdv A outer s H E) body t/\t { nx:=fun _ H'=>Q .non H',rt:=Q } (start N vs) H) :
    FnOk P w K mg base CX (k+1) f (PySem.W.fnOf name qual params body scope dV kV doc pm an cdv ct) ps sp:=by
  refine⟨len,fun A outer s H args us vs Q E hr e0 hb r hsp=>?_⟩
  have hl:=len _ _ _ _ hsp;have KX:K.In s.heap:=e0.mod.kin.keeps fun b o e=>(e0.bs b o e).1
  have lim:s.heap.NoLimit:=e0.mod.nolimit.keeps fun b o e=>(e0.bs b o e).1
  have hkind:∀ y∈ps.zip us,scope.names.lookup y.1=some .local\/(scope.names.lookup y.1=some .cell/\((cellsFrom (s.heap.objs.size+1) scope.names []).lookup y.1).isSome=true):=fun⟨n,v⟩ hy=>by
    rcases S.par n (dC hy).1 with q|q
    · exact .inl q
    · exact .inr ⟨q,PySem.W.cellsFrom_some _ _ _ (.inl q)⟩
  refine codeAny_call_function hr.depth (KX _ _ lk) rfl S.co S.gen rfl (PySem.W.codeRec_of KX hcd) (hb _ _ _ _ ?_);refine wpAny_newFunctionEnv_cells S.kind hkind fun env he s1 x=>?_
  subst he;refine⟨lim.keeps x.toInCall.keep,codeAny_func ?_⟩;obtain⟨t,ht,hq⟩:=hbody A outer s H vs Q E (hr.deeper _) hsp;have I:Inv (cxOf CX P w K mg base N qual scope f cdv A outer s H E) [] (start N vs) H s1:=inv_start S e0 hl r x;refine bD (ht [] s1 (start N vs) H _ I hq) (fun fl s' hs=>?_) fun e s' hs=>hs
  have fin:∀ {σ':St}{H':Hp}{v:V}{u:vL},Inv (cxOf CX P w K mg base N qual scope f cdv A outer s H E) [] σ' H' s'->RelV v u->Q v H'->CE outer P w H s Q u s':=
    fun {σ' H' v u} J rv q=>⟨v,H',J.os,J.bare,J.base,J.hok,rv,q⟩
  cases fl with
  |ret u=>
    obtain⟨v,σ',H',J,rv,q⟩:=hs;exact fin J rv q
  |next=>
    obtain⟨σ',H',J,q⟩:=hs;exact fin (v:=V.non) (u:=Value.none) J rfl q
  |brk=>
    obtain⟨_,_,_,q⟩:=hs;exact False.elim q
  |cont=>
    obtain⟨_,_,_,q⟩:=hs;exact False.elim q
section
variable {X:Cx}{x:Str}{p pos:Pos}{e:Expr}{es:Li Expr}{t:TA}{id T:String}{r:Li V->Hp->VK->Prop}

noncomputable def tCB(r:Li V->Hp->VK->Prop)(t:TA):TE:=fun σ H Q=>t σ H fun vs H1=>r vs H1 Q
theorem pe_callB(hc:CallR X (.builtin id) r)(hg:Gl X x)(hm:X.mg x=none)(hv:bootBuiltins x=some (.builtin id))(ha:PA X (e :: es) t)(hn:x ≠ "__name__":=by decide)(hdb:(x==("__debug__":Str))=false:=by decide)(he:starEach (e :: es) X.env=(false,eval e X.env) :: starEach es X.env:=by rfl)(hpl:(backTo pos (starEach es X.env)).any (·.1)=false:=by rfl):PE X (.Call (.Name x p) (e :: es) [] pos) (tCB r t):=by
  intro pQ s σ H Q I h;refine wpAny_Call_Name_kw (ld_blt I hg hm hv ?_ hn hdb);exact PyProof.Rows.callWith_builtin1 (thn (ha pos pQ s σ H _ I h) fun us s1 ⟨vs,H1,I1,r1,q1⟩=>hc pQ s1 σ H1 vs us Q I1 r1 q1) he hpl
theorem pe_callTy(hc:CallR X (.type T) r)(hg:Gl X x)(hm:X.mg x=none)(hv:bootBuiltins x=some (.type T))(ha:PA X (e :: es) t)(hn:x ≠ "__name__":=by decide)(hdb:(x==("__debug__":Str))=false:=by decide)(he:starEach (e :: es) X.env=(false,eval e X.env) :: starEach es X.env:=by rfl)(hpl:(backTo pos (starEach es X.env)).any (·.1)=false:=by rfl):PE X (.Call (.Name x p) (e :: es) [] pos) (tCB r t):=by
  intro pQ s σ H Q I h;refine wpAny_Call_Name_kw (ld_blt I hg hm hv ?_ hn hdb);exact PyProof.Rows.callWith_type1 (thn (ha pos pQ s σ H _ I h) fun us s1 ⟨vs,H1,I1,r1,q1⟩=>hc pQ s1 σ H1 vs us Q I1 r1 q1) he hpl
end
end L2

namespace HT
open PySem PyProof.Rows



section
open PySem.SeqAt
open PySem.AutoSeq1 (wpAny_loadPart')
open PySem.MeetsSeq PySem.MeetsSeq2 PySem.MeetsSeq3

end

section
variable {prog:Program}{w:World}{A:Around}{E:vL->sH7->Prop}{s:sH7}



noncomputable def sIx(n d:Nat):Ot Int->Nat
  |none=>d
  |some v=>if v < 0 then (v+(n:Int)).toNat else min v.toNat n

end
end HT

namespace L2
open PySem PySem.Spec PyProof.Rows

abbrev TO:=St->Hp->(Ot Int->Hp->Prop)->Prop
def PO(X:Cx)(e:Ot Expr)(t:TO):Prop:=
  ∀ (pQ:Li (Ad×Obj)) (s:sH7) (σ:St) (H:Hp) (Q:Ot Int->Hp->Prop),Inv X pQ σ H s->t σ H Q->
    wpAny (model X.prog X.w) X.A (evalPart e X.env) (fun u s'=>∃ o H',Inv X pQ σ H' s'/\IsPart u o/\Q o H') X.xe s
noncomputable def tNoPart:TO:=fun _ H Q=>Q none H
noncomputable def tPart(t:TE):TO:=fun σ H Q=>t σ H fun x H1=>∃ i,x=.int i/\Q (some i) H1


section
variable {X:Cx}{e:Expr}{te:TE}{lo hi:Ot Expr}{tl th:TO}{pos p2:Pos}

theorem po_none:PO X none tNoPart:=by
  intro pQ s σ H Q I h;rw[evalPart_none];exact aD ⟨none,H,I,.none,h⟩
theorem po_some(h:PE X e te):PO X (some e) (tPart te):=by
  intro pQ s σ H Q I hw;rw[evalPart_some];refine thn (h pQ s σ H _ I hw) fun u s1 ⟨x,H1,I1,r1,q1⟩=>?_
  obtain⟨i,rfl,q⟩:=q1;obtain⟨t,rfl⟩:=r1;exact⟨some i,H1,I1,.int i t,q⟩

def SlR(X:Cx)(r:V->Ot Int->Ot Int->Hp->VK->Prop):Prop:=
  ∀ (pQ:Li (Ad×Obj)) (s:sH7) (σ:St) (H:Hp) (x:V) (v vl vu:vL) (lo hi:Ot Int) (sl:Ad) (Q:VK),Inv X pQ σ H s->RelV x v->s.heap.IsSliceOf sl vl vu .none->IsPart vl lo->IsPart vu hi->r x lo hi H Q->
    ∃ T id,typeLookup (.type T) "__getitem__"=pure (some (.builtin id))/\s.TypeIs v T/\wpAny (model X.prog X.w) X.A (getItem v (.ref sl)) (EP X pQ σ Q) X.xe s
noncomputable def tSl(r:V->Ot Int->Ot Int->Hp->VK->Prop)(te:TE)(tl th:TO):TE:=fun σ H Q=>te σ H fun x H1=>tl σ H1 fun l H2=>th σ H2 fun u H3=>r x l u H3 Q
theorem pe_slice{r:V->Ot Int->Ot Int->Hp->VK->Prop}(hr:SlR X r)(he:PE X e te)(hl:PO X lo tl)(hu:PO X hi th):PE X (.Subscript e (.Slice lo hi none p2) pos) (tSl r te tl th):=by
  intro pQ s σ H Q I h;refine Subscript_ (thn (he pQ s σ H _ I h) fun v s1 ⟨x,H1,I1,r1,q1⟩=>?_)
  refine wpAny_Slice (thn (hl pQ s1 σ H1 _ I1 q1) fun vl s2 ⟨l,H2,I2,pl,q2⟩=>thn (hu pQ s2 σ H2 _ I2 q2) fun vu s3 ⟨u,H3,I3,pu,q3⟩=>?_)
  rw[evalPart_none];refine aD ?_;have I4:Inv X pQ σ H3 { s3 with heap:=s3.heap.push { cls:=.type "slice",data:=.fields #[vl,vu,.none] } }:=I3.kept (t':=s3.toks) fun b ob q=>aO _ q
  obtain⟨T,id,hT,ht,hg⟩:=hr pQ { s3 with heap:=s3.heap.push { cls:=.type "slice",data:=.fields #[vl,vu,.none] } } σ H3 x v vl vu l u s3.heap.objs.size Q I4 r1 (Heap.IsSliceOf.new ..) pl pu q3
  show wpAny (model X.prog X.w) X.A (subscriptTail e (.Slice lo hi none p2) v (.ref s3.heap.objs.size)) (EP X pQ σ Q) X.xe { s3 with heap:=s3.heap.push { cls:=.type "slice",data:=.fields #[vl,vu,.none] } }
  exact tail_any (ops:=[.ref s3.heap.objs.size,v]) ht hT hg (by with_unfolding_all rfl)

noncomputable def cutV(xs:Li V)(lo hi:Ot Int):Li V:=(xs.drop (HT.sIx xs.length 0 lo)).take (HT.sIx xs.length xs.length hi - HT.sIx xs.length 0 lo)
theorem cutV_length(xs:Li V)(lo hi:Ot Int):(cutV xs lo hi).length<=xs.length:=by
  unfold cutV;rw[bF,cA];omega

end
noncomputable def ixN(n:Nat)(i:Int):Ot Nat:=if 0<=i then (if i < n then some i.toNat else none) else if -(n:Int)<=i then some (i+n).toNat else none
noncomputable def atI{α:Type}(xs:Li α)(i:Int):Ot α:=(ixN xs.length i).bind fun j=>xs[j]?
variable{n:Nat}
theorem ixN_seq{i:Int}{j:Nat}(h:ixN n i=some j):seqIndex? i n=some j/\j < n/\-(n:Int)<=i/\i < n:=by
  unfold ixN at h;by_cases h0:0<=i
  · rw[if_pos h0]at h
    by_cases h1:i < n
    · rw[if_pos h1]at h
      have e:i.toNat=j:=Option.some.inj h;exact⟨by rw[seqIndex_of h0 h1,e],by omega,by omega,h1⟩
    · rw[if_neg h1]at h;cases h
  · rw[if_neg h0]at h
    by_cases h1:-(n:Int)<=i
    · rw[if_pos h1]at h
      have e:(i+n).toNat=j:=Option.some.inj h;exact⟨by rw[seqIndex_neg (by omega) h1,e],by omega,h1,by omega⟩
    · rw[if_neg h1]at h;cases h
variable{α:Type}
theorem atI_get{xs:Li α}{i:Int}{v:α}(h:atI xs i=some v):∃ j,seqIndex? i xs.length=some j/\xs[j]?=some v/\j < xs.length/\-(xs.length:Int)<=i/\i < xs.length:=by
  unfold atI at h;cases e:ixN xs.length i with
  |none=>rw[e]at h;cases h
  |some j=>
    rw[e]at h;obtain⟨h1,h2,h3,h4⟩:=ixN_seq e;exact⟨j,h1,h,h2,h3,h4⟩

def PlainIx(b:Expr):Prop:=∀ o i,subscripted b false o i=operate [o,i] (getItem o i)
def IxR(X:Cx)(r:R2):Prop:=
  ∀ (value slice:Expr) (pQ:Li (Ad×Obj)) (s:sH7) (σ:St) (H:Hp) (x y:V) (v u:vL) (Q:VK),Inv X pQ σ H s->RelV x v->RelV y u->r x y H Q->
    subscripted slice false v u=operate [v,u] (getItem v u)->wpAny (model X.prog X.w) X.A (subscriptTail value slice v u) (EP X pQ σ Q) X.xe s
def MtR(X:Cx)(id:String)(r:V->Li V->Hp->VK->Prop):Prop:=
  ∀ (pQ:Li (Ad×Obj)) (s:sH7) (σ:St) (H:Hp) (x:V) (xs:Li V) (v:vL) (us:Li vL) (Q:VK),Inv X pQ σ H s->RelV x v->Vals xs us->r x xs H Q->
    wpAny (model X.prog X.w) X.A (call (.builtin id) (v :: us)) (EP X pQ σ Q) X.xe s
variable{x:V}
section
variable {X:Cx}{a b:Expr}{ta tb:TE}{pos:Pos}
theorem pe_ix{r:R2}(hr:IxR X r)(ha:PE X a ta)(hb:PE X b tb)(hs:PlainIx b):PE X (.Subscript a b pos) (tOp r ta tb):=by
  intro pQ s σ H Q I h;exact Subscript_ (binT ha hb I h fun v u s2 x y H2 I2 rx ry q=>hr a b pQ s2 σ H2 x y v u Q I2 rx ry q (hs _ _))

noncomputable def rIxL(K:Fg):R2:=fun x y H Q=>∃ p xs i v,x=.ref p/\y=.int i/\SqL K H p xs/\atI xs i=some v/\Q v H
noncomputable def rIxT(K:Fg):R2:=fun x y H Q=>∃ p xs i v,x=.ref p/\y=.int i/\SqT K H p xs/\atI xs i=some v/\Q v H
noncomputable def rIxS:R2:=fun x y H Q=>∃ z i c,x=.str z/\y=.int i/\z.length<=sizeLine/\atI z.cps.toList i=some c/\Q (.str ⟨#[c]⟩) H
theorem ix_list:IxR X (rIxL X.K):=by
  intro value slice pQ s σ H x y v u Q I rx ry h hs;obtain⟨p,xs,i,z,rfl,rfl,hq,he,q⟩:=h;cases rx;obtain⟨t,rfl⟩:=ry;obtain⟨its,r,pl,hz⟩:=I.list hq;obtain⟨j,h1,h2,h3,h4,h5⟩:=atI_get he;obtain⟨w,ew,rw'⟩:=r.get h2;have hl:=r.length;have hn:=line63;have fin:EP X pQ σ Q w s:=⟨z,H,I,rw',q⟩;by_cases h0:0<=i
  · have hj:i.toNat=j:=by
      rw[seqIndex_of h0 h5]at h1;exact Option.some.inj h1
    exact item_listR pl.isList h0 (by omega) (by rw[hj];simpa using ew) fin hs
  · have hj:(i+(its.toArray.size:Int)).toNat=j:=by
      rw[seqIndex_neg (by omega) h4]at h1
      rw[aY,<-hl];exact Option.some.inj h1
    exact subscriptTail_builtinR (x:=w) pl.isList.typeIs slot_list_getitem.lookup
      (wpAny_getItem_list_neg (Q:=fun r s'=>r=w/\EP X pQ σ Q r s') pl.isList (by omega) (by rw[aY]<;>omega) (by omega) (by rw[hj];simpa using ew) ⟨rfl,fin⟩) hs
theorem ix_tup:IxR X (rIxT X.K):=by
  intro value slice pQ s σ H x y v u Q I rx ry h hs;obtain⟨p,xs,i,z,rfl,rfl,hq,he,q⟩:=h;cases rx;obtain⟨t,rfl⟩:=ry;obtain⟨its,r,pl,hz⟩:=I.tuple hq;obtain⟨j,h1,h2,h3,h4,h5⟩:=atI_get he;obtain⟨w,ew,rw'⟩:=r.get h2;have hl:=r.length;have hn:=line63;have fin:EP X pQ σ Q w s:=⟨z,H,I,rw',q⟩;exact subscriptTail_builtinR (x:=w) pl.typeIs slot_tuple_getitem.lookup
    (getItem_tuple (j:=j) (Q:=fun r s'=>r=w/\EP X pQ σ Q r s') pl (by omega) (by omega) (by rw[aY,<-hl];exact h1) (by simpa using ew) ⟨rfl,fin⟩) hs
theorem ix_str:IxR X rIxS:=by
  intro value slice pQ s σ H x y v u Q I rx ry h hs;obtain⟨z,i,c,rfl,rfl,hz,he,q⟩:=h;obtain⟨t,rfl⟩:=rx;obtain⟨t',rfl⟩:=ry;obtain⟨j,h1,h2,h3,h4,h5⟩:=atI_get he;have hl:z.cps.toList.length=z.length:=by simp[Str.length]
  rw[hl]at h1 h4 h5;have hn:=line63;exact tail_any (typeIs_str s z t) slot_str_getitem.lookup (getItem_str (c:=c) (by
    have e1:decide (i < -(2 ^ 63:Int))=false:=aL (by omega)
    have e2:decide (i>=2 ^ 63)=false:=aL (by omega)
    rw[e1,e2,cW]) (by rw[h1];simpa using h2) ⟨.str ⟨#[c]⟩,H,I.tok _,⟨_,rfl⟩,q⟩) hs


theorem slice_bounds(lo hi:Ot Int)(n:Nat):(sliceBounds lo hi none n).1=((HT.sIx n 0 lo:Nat):Int)/\(sliceBounds lo hi none n).2.1=((HT.sIx n n hi:Nat):Int)/\(sliceBounds lo hi none n).2.2=1:=by
  refine⟨?_,?_,rfl⟩
  · cases lo with
    |none=>simp[sliceBounds,HT.sIx]
    |some i=>
      simp only[sliceBounds,HT.sIx,Option.getD_none,show(1:Int) > 0 by decide,if_true]
      by_cases h:i < 0
      · simp only[h,if_true]<;>omega
      · simp only[h,if_false]<;>omega
  · cases hi with
    |none=>simp[sliceBounds,HT.sIx]
    |some i=>
      simp only[sliceBounds,HT.sIx,Option.getD_none,show(1:Int) > 0 by decide,if_true]
      by_cases h:i < 0
      · simp only[h,if_true]<;>omega
      · simp only[h,if_false]<;>omega
theorem slicePick_cut(its:Li vL)(lo hi:Ot Int):slicePick its.toArray lo hi none=((its.drop (HT.sIx its.length 0 lo)).take (HT.sIx its.length its.length hi - HT.sIx its.length 0 lo)).toArray:=by
  obtain⟨h1,h2,h3⟩:=slice_bounds lo hi its.toArray.size;unfold slicePick;rw[h1,h2,h3];simp only[sliceRange_one,pick_run,aY]<;>rfl
def rSlL(K:Fg):V->Ot Int->Ot Int->Hp->VK->Prop:=fun x lo hi H Q=>∃ a xs,x=.ref a/\SqL K H a xs/\∀ p,H p=none->Q (.ref p) (upd H p (.lst (cutV xs lo hi)))
theorem sl_list:SlR X (rSlL X.K):=by
  intro pQ s σ H x v vl vu lo hi sl Q I rx hs pl pu h;obtain⟨a,xs,rfl,hx,q⟩:=h;cases rx;obtain⟨its,r,ht,hz⟩:=I.list hx;have hlen:=r.length;refine⟨"list",_,slot_list_getitem.lookup,ht.isList.typeIs,?_⟩;refine wpAny_getItem_list_slice ht.isList hs pl pu .none (by simp) ?_ (by rw[aY]<;>omega)
  rw[slicePick_cut,<-hlen];refine⟨.ref s.heap.objs.size,_,I.laid (t':=s.toks) (o:=.lst (cutV xs lo hi)) (fun b ob q=>aO _ q) (aE _) ?_,rfl,q _ (I.hok.fresh (aE _))⟩
  exact⟨aH (cutV_length xs lo hi) hz,_,0,(r.drop (HT.sIx xs.length 0 lo)).take (HT.sIx xs.length xs.length hi - HT.sIx xs.length 0 lo),bA _ rfl⟩

noncomputable def flatV:V->Bool
  |.non=>true
  |.bl _=>true
  |.int _=>true
  |.str _=>true
  |_=>false
noncomputable def eqV:V->V->Bool
  |.non,.non=>true
  |.bl a,.bl b=>a==b
  |.bl a,.int b=>(if a then 1 else 0)==b
  |.int a,.bl b=>a==(if b then 1 else 0)
  |.int a,.int b=>a==b
  |.str a,.str b=>a==b
  |_,_=>false
theorem eqAt_V{A:Around}{s:sH7}{y:V}{u v:vL}(ry:RelV y u)(rx:RelV x v)(fy:flatV y=true)(fx:flatV x=true):SeqAt.EqAt A s u v (eqV y x):=by
  cases y with
  |non=>
    cases ry;cases x with
    |non=>cases rx;exact SeqAt.EqAt.same _
    |bl b=>cases rx;exact SeqAt.EqAt.none_bool b
    |int b=>obtain⟨t,rfl⟩:=rx;exact SeqAt.EqAt.none_int b t
    |str b=>obtain⟨t,rfl⟩:=rx;exact SeqAt.EqAt.none_str b t
    |_=>exact absurd (show false=true from fx) Bf
  |bl a=>
    cases ry;cases x with
    |non=>cases rx;exact SeqAt.EqAt.bool_none a
    |bl b=>cases rx;exact SeqAt.EqAt.bool_bool a b
    |int b=>obtain⟨t,rfl⟩:=rx;exact SeqAt.EqAt.bool_int a b t
    |str b=>obtain⟨t,rfl⟩:=rx;exact SeqAt.EqAt.bool_str a b t
    |_=>exact absurd (show false=true from fx) Bf
  |int a=>
    obtain⟨t',rfl⟩:=ry;cases x with
    |non=>cases rx;exact SeqAt.EqAt.int_none a t'
    |bl b=>cases rx;exact SeqAt.EqAt.int_bool a t' b
    |int b=>obtain⟨t,rfl⟩:=rx;exact SeqAt.EqAt.int_int a t' b t
    |str b=>obtain⟨t,rfl⟩:=rx;exact SeqAt.EqAt.int_str a t' b t
    |_=>exact absurd (show false=true from fx) Bf
  |str a=>
    obtain⟨t',rfl⟩:=ry;cases x with
    |non=>cases rx;exact SeqAt.EqAt.str_none a t'
    |bl b=>cases rx;exact SeqAt.EqAt.str_bool a t' b
    |int b=>obtain⟨t,rfl⟩:=rx;exact SeqAt.EqAt.str_int a t' b t
    |str b=>obtain⟨t,rfl⟩:=rx;exact SeqAt.EqAt.str_str a t' b t
    |_=>exact absurd (show false=true from fx) Bf
  |_=>exact absurd (show false=true from fy) Bf
noncomputable def eqU(x:V)(u:vL):Bool:=match u with
  |.none=>eqV .non x
  |.bool b=>eqV (.bl b) x
  |.int i _=>eqV (.int i) x
  |.str z _=>eqV (.str z) x
  |_=>false
theorem eqU_of{y:V}{u:vL}(r:RelV y u)(f:flatV y=true):eqU x u=eqV y x:=by
  cases y with
  |non=>cases r;rfl
  |bl b=>cases r;rfl
  |int i=>obtain⟨t,rfl⟩:=r;rfl
  |str z=>obtain⟨t,rfl⟩:=r;rfl
  |_=>exact absurd (show false=true from f) Bf
theorem any_eqU{x:V}:∀ {xs:Li V}{us:Li vL},Vals xs us->xs.all flatV=true->us.any (eqU x)=xs.any fun y=>eqV y x
  |_,_,.nil,_=>rfl
  |y :: xs,u :: us,.cons r t,f=>by
    rw[bK,Ba]at f;rw[cL,cL,eqU_of r f.1,any_eqU t f.2]
theorem mem_eqAt{A:Around}{s:sH7}{x:V}{v:vL}(rx:RelV x v)(fx:flatV x=true):∀ {xs:Li V}{us:Li vL},Vals xs us->xs.all flatV=true->∀ u∈us,SeqAt.EqAt A s u v (eqU x u)
  |_,_,.nil,_=>fun u hu=>by cases hu
  |y :: xs,u :: us,.cons r t,f=>fun u' hu=>by
    rw[bK,Ba]at f;rcases aG.mp hu with rfl|hu
    · rw[eqU_of r f.1];exact eqAt_V r rx f.1 fx
    · exact mem_eqAt rx fx t f.2 u' hu
noncomputable def inV(x:V)(xs:Li V):Bool:=xs.any fun y=>eqV y x
noncomputable def rIn(K:Fg)(neg:Bool):R2:=fun x y H Q=>∃ p xs,y=.ref p/\(SqL K H p xs\/SqT K H p xs)/\flatV x=true/\xs.all flatV=true/\Q (.bl (if neg then !inV x xs else inV x xs)) H
theorem op_in_seq:OpR X (compareOp .In) (rIn X.K false):=by
  intro pQ s σ H x y v u Q I rx ry h;obtain⟨p,xs,rfl,hq,fx,fs,q⟩:=h;cases ry;rcases hq with hq|hq
  · obtain⟨its,r,pl,hz⟩:=I.list hq
    refine SeqAt.in_listAt (eqU x) pl.isList (fun w hw=>mem_eqAt rx fx r fs w (by simpa using hw)) ⟨.bl _,H,I,rfl,?_⟩
    rw[show its.toArray.any (eqU x)=its.any (eqU x) by simp,any_eqU r fs]
    exact q
  · obtain⟨its,r,pl,hz⟩:=I.tuple hq
    refine SeqAt.in_tupleAt (eqU x) pl (fun w hw=>mem_eqAt rx fx r fs w (by simpa using hw)) ⟨.bl _,H,I,rfl,?_⟩
    rw[show its.toArray.any (eqU x)=its.any (eqU x) by simp,any_eqU r fs]
    exact q
theorem op_notIn_seq:OpR X (compareOp .NotIn) (rIn X.K true):=by
  intro pQ s σ H x y v u Q I rx ry h;obtain⟨p,xs,rfl,hq,fx,fs,q⟩:=h;cases ry;rcases hq with hq|hq
  · obtain⟨its,r,pl,hz⟩:=I.list hq
    refine SeqAt.notIn_listAt (eqU x) pl.isList (fun w hw=>mem_eqAt rx fx r fs w (by simpa using hw)) ⟨.bl _,H,I,rfl,?_⟩
    rw[show its.toArray.any (eqU x)=its.any (eqU x) by simp,any_eqU r fs]
    exact q
  · obtain⟨its,r,pl,hz⟩:=I.tuple hq
    refine SeqAt.notIn_tupleAt (eqU x) pl (fun w hw=>mem_eqAt rx fx r fs w (by simpa using hw)) ⟨.bl _,H,I,rfl,?_⟩
    rw[show its.toArray.any (eqU x)=its.any (eqU x) by simp,any_eqU r fs]
    exact q
theorem op_notIn_str:OpR X (compareOp .NotIn) (fun x y H Q=>∃ i j,x=.str i/\y=.str j/\Q (.bl (!(!(Builtin.Str.occurrences j i 0 j.length 1).isEmpty))) H):=by
  intro pQ s σ H x y v u Q I rx ry h;obtain⟨i,j,rfl,rfl,q⟩:=h;obtain⟨t,rfl⟩:=rx;obtain⟨t',rfl⟩:=ry;exact notIn_str ⟨.bl _,H,I,rfl,q⟩

theorem call_len_seq:CallR X (.builtin "len") (fun xs H Q=>∃ p ys,xs=[.ref p]/\(SqL X.K H p ys\/SqT X.K H p ys)/\Q (.int ys.length) H):=by
  intro pQ s σ H xs us Q I r h;obtain⟨p,ys,rfl,hq,q⟩:=h;obtain⟨u,rfl,rx⟩:=vals1 r;cases rx;have hn:=line63;rcases hq with hq|hq
  · obtain⟨its,r',pl,hz⟩:=I.list hq
    have hlen:=r'.length;exact Calls.call_len_list pl.isList (by simp only[aY]<;>omega) ⟨.int ys.length,H,I.tok _,⟨s.toks+1,by rw[aY,hlen]⟩,q⟩
  · obtain⟨its,r',pl,hz⟩:=I.tuple hq
    have hlen:=r'.length;exact len_tuple pl (by simp only[aY]<;>omega) ⟨.int ys.length,H,I.tok _,⟨s.toks+1,by rw[aY,hlen]⟩,q⟩
theorem call_tuple_of:CallR X (.type "tuple") (fun xs H Q=>∃ p ys,xs=[.ref p]/\((SqL X.K H p ys/\∀ l,H l=none->Q (.ref l) (upd H l (.tup ys)))\/(SqT X.K H p ys/\Q (.ref p) H))):=by
  intro pQ s σ H xs us Q I r h;obtain⟨p,ys,rfl,h⟩:=h;obtain⟨u,rfl,rx⟩:=vals1 r;cases rx;rcases h with⟨hq,q⟩|⟨hq,q⟩
  · obtain⟨its,r',pl,hz⟩:=I.list hq
    have hlen:=r'.length;refine call_tuple_list pl.isList (fun h' kp=>?_) (by simp only[aY]<;>omega)
    have I1:Inv X pQ σ H { s with heap:=h' }:=I.kept (t':=s.toks) kp
    have I2:Inv X pQ σ (upd H h'.objs.size (.tup ys)) { s with heap:=h'.push { cls:=.type "tuple",data:=.seq its.toArray } }:=
      I1.laid (t':=s.toks) (fun b o e=>aO _ e) (aE _) (show ObjOk X.prog X.w _ _ _ (.tup ys) from⟨hz,its,r',IsTup.new _ _⟩)
    exact⟨.ref h'.objs.size,_,I2,rfl,q _ (I1.hok.fresh (aE _))⟩
  · obtain⟨its,r',pl,hz⟩:=I.tuple hq
    exact call_tuple_same pl ⟨.ref p,H,I,rfl,q⟩

def tyV(K:Fg)(T:String)(x:V)(H:Hp):Prop:=match x with
  |.str _=>T = "str"
  |.int _=>T = "int"
  |.ref p=>(T = "list"/\∃ xs,SqL K H p xs)\/(T = "tuple"/\∃ o,K.lookup p=some o/\o.cls=.type "tuple"/\o.dict=none) \/
      (T = "dict"/\((∃ kvs,H p=some (.dK kvs))\/∃ kvs,H p=some (.dT kvs)))\/(T = "set"/\∃ S n,H p=some (.set S n))
  |_=>False
theorem tyV_is{pQ:Li (Ad×Obj)}{σ:St}{H:Hp}{s:sH7}{T:String}{v:vL}(I:Inv X pQ σ H s)(r:RelV x v)(ty:tyV X.K T x H) :
    s.TypeIs v T/\∀ a,v=.ref a->∃ ob,s.heap.get? a=some ob/\ob.dict=none:=by
  cases x with
  |str z=>
    obtain⟨t,rfl⟩:=r;cases (show T = "str" from ty)
    exact⟨typeIs_str s z t,fun _ e=>nomatch e⟩
  |int i=>
    obtain⟨t,rfl⟩:=r;cases (show T = "int" from ty)
    exact⟨typeIs_int s i t,fun _ e=>nomatch e⟩
  |ref p=>
    cases r;rcases ty with⟨rfl,xs,hq⟩|⟨rfl,o,hk,hc,hd⟩|⟨rfl,hk⟩|⟨rfl,S,n,hk⟩
    · obtain⟨its,_,pl,_⟩:=I.list hq
      refine⟨pl.isList.typeIs,fun a e=>?_⟩
      cases e;obtain⟨o,n,e,c,hd,_⟩:=pl;exact⟨o,e,hd⟩
    · refine⟨⟨o,I.kIn p o hk,hc⟩,fun a e=>?_⟩
      cases e;exact⟨o,I.kIn _ o hk,hd⟩
    · have z:∃ o,s.heap.get? p=some o/\o.ExactDict:=by
        rcases hk with⟨kvs,hk⟩|⟨kvs,hk⟩
        · obtain⟨_,_,_,_,o,_,_,e,ex,_⟩:=I.hok p _ hk
          exact⟨o,e,ex⟩
        · obtain⟨_,_,_,_,o,_,_,e,ex,_⟩:=I.hok p _ hk
          exact⟨o,e,ex⟩
      obtain⟨o,e,ex⟩:=z;refine⟨⟨o,e,ex.1⟩,fun a e2=>?_⟩
      cases e2;exact⟨o,e,ex.2.1⟩
    · obtain⟨o,_,_,_,e,ex,_⟩:=I.hok p _ hk
      refine⟨⟨o,e,ex.1⟩,fun a e2=>?_⟩
      cases e2;exact⟨o,e,ex.2.1⟩
  |_=>exact False.elim ty
noncomputable def tBM(K:Fg)(T:String)(r:V->Li V->Hp->VK->Prop)(to:TE)(t:TA):TE:=fun σ H Q=>to σ H fun x H1=>tyV K T x H1/\t σ H1 fun xs H2=>r x xs H2 Q
variable {o e:Expr}{es:Li Expr}{to:TE}{t:TA}{name:Str}{apos cpos:Pos}{T id:String}{r:V->Li V->Hp->VK->Prop}
theorem pe_bm(pa:PlainAttrs T)(slot:Slot T name id)(hty:typeOf (.builtin id)=pure (.type "method_descriptor"))(hm:MtR X id r)(ho:PE X o to)(ha:PA X (e :: es) t)(hbase:attributeBase o name X.env (eval o X.env)=eval o X.env:=by rfl)(hfew:((backTo cpos (starEach (e :: es) X.env)).all (fun x=>!x.1)&&(backToKw cpos (keywordEach [] X.env)).all (fun x=>x.1.isSome)
     &&decide ((e :: es).length+([]:Li Keyword).length+(if ([]:Li Keyword).isEmpty then 0 else 1) < 30))=true:=by rfl)(hline:(apos.endLine==cpos.line)=true:=by rfl)(hs:starEach (e :: es) X.env=(false,eval e X.env) :: starEach es X.env:=by rfl)(hplain:(backTo cpos (starEach es X.env)).any (·.1)=false:=by rfl) :
    PE X (.Call (.Attribute o name apos) (e :: es) [] cpos) (tBM X.K T r to t):=by
  intro pQ s σ H Q I h;refine wpAny_Call_method_late hbase hfew hline rfl (thn (ho pQ s σ H _ I h) fun v s1 ⟨x,H1,I1,r1,ty,q1⟩=>?_)
  obtain⟨h1,h2⟩:=tyV_is I1 r1 ty;refine⟨T,id,pa,slot,hty,h1,h2,?_⟩;have hA:=ha cpos pQ s1 σ H1 _ I1 q1;rw[hs]at hA ⊢;refine Calls.callWith_builtin (by show(false||(backTo cpos (starEach es X.env)).any (·.1))=false;rw[hplain]<;>rfl) (Calls.evalArgs_plain ?_)
  exact thn hA fun us s2 ⟨vs,H2,I2,r2,q2⟩=>hm pQ s2 σ H2 x vs v us Q I2 r1 r2 q2
end
def MtM(X:Cx)(id:String)(r:V->Li V->Hp->VK->Prop):Prop:=
  ∀ (pQ:Li (Ad×Obj)) (s:sH7) (σ:St) (H:Hp) (x:V) (xs:Li V) (v:vL) (us:Li vL) (Q:VK),Inv X pQ σ H s->RelV x v->Vals xs us->r x xs H Q->
    wpAny (model X.prog X.w) X.A (call (.builtin id) (v :: us)) (EP X pQ σ Q) X.xe s

theorem Vals.one:∀ {x:V}{us:Li vL},Vals [x] us->∃ u,us=[u]/\RelV x u
  |_,_,.cons r .nil=>⟨_,rfl,r⟩
theorem Vals.rep{xs:Li V}{us:Li vL}(h:Vals xs us):∀ k:Nat,Vals (List.replicate k xs).flatten (List.replicate k us).flatten
  |0=>.nil
  |k+1=>by
    rw[cX,cX,dM,dM];exact Vals.append h (Vals.rep h k)
theorem foldl_rep(its:Li vL):∀ (k:Nat) (acc:Li vL),
    List.foldl (fun x1 x2=>x1++x2) acc.toArray (List.replicate k its.toArray)=(acc++(List.replicate k its).flatten).toArray
  |0,acc=>by simp
  |k+1,acc=>by
    have e:acc.toArray++its.toArray=(acc++its).toArray:=by simp
    have e2:(acc++its)++(List.replicate k its).flatten=acc++(List.replicate (k+1) its).flatten:=by
      rw[cX,dM,aM]
    rw[<-e2,<-foldl_rep its k (acc++its),<-e,cX,List.foldl_cons]

variable{its:Li vL}
section
variable {X:Cx}{pQ:Li (Ad×Obj)}{σ:St}{H:Hp}{s:sH7}{l b:Ad}{xs ys zs:Li V}

theorem Inv.lset{its':Li vL}{f:Array vL->Array vL}{t':Nat}(I:Inv X pQ σ H s)(hH:H l=some (.lst xs))(e:s.heap.get? l=some { cls:=.type "list",data:=.seq its.toArray n })(hf:f its.toArray=its'.toArray)(hv:Vals ys its')(hz:ys.length<=sizeLine) :
    Inv X pQ σ (upd H l (.lst ys)) { s with heap:=s.heap.update l (Obj.mapSeq f),toks:=t' }:=by
  have q:=PySem.IsL.update e f;rw[hf]at q;refine I.write (x:=l) (e:=l) (by rw[hH];exact trivial) (.inl rfl) (fun b' u hb hu=>(Heap.get?_update_other s.heap (Obj.mapSeq f) (Ne.symm hb)).trans hu) ⟨_,q⟩ ?_
  exact⟨hz,its',_,hv,q⟩
theorem Inv.lnew{t':Nat}(I:Inv X pQ σ H s)(hv:Vals ys its)(hz:ys.length<=sizeLine) :
    Inv X pQ σ (upd H s.heap.objs.size (.lst ys)) { s with heap:=s.heap.push { cls:=.type "list",data:=.seq its.toArray },toks:=t' }:=
  I.laid (fun _ _ q=>aO _ q) (aE _) ⟨hz,its,0,hv,bA _ rfl⟩
theorem Inv.fresh(I:Inv X pQ σ H s):H s.heap.objs.size=none:=I.hok.fresh (aE _)
theorem Inv.lstM(I:Inv X pQ σ H s)(hH:H l=some (.lst xs)):xs.length<=sizeLine/\∃ (its:Li vL) (n:Nat),Vals xs its/\xs.length=its.length/\s.heap.get? l=some { cls:=.type "list",data:=.seq its.toArray n }:=by
  obtain⟨z,its,n,r,e⟩:=I.hok l _ hH;exact⟨z,its,n,r,r.length,e⟩

theorem notLongL(h:n<=sizeLine):Builtin.List.listTooLong n=false:=by
  unfold Builtin.List.listTooLong;exact aL (by omega)
end

section
variable {X:Cx}

def rAppend:V->Li V->Hp->VK->Prop:=fun x vs H Q=>∃ l xs y,x=.ref l/\vs=[y]/\H l=some (.lst xs)/\xs.length < sizeLine/\Q .non (upd H l (.lst (xs++[y])))
theorem mt_append:MtM X "list.append" rAppend:=by
  intro pQ s σ H x vs v us Q I rx rv h;obtain⟨l,xs,y,rfl,rfl,hH,hz,q⟩:=h;cases rx;obtain⟨u,rfl,ru⟩:=rv.one;obtain⟨z,its,n,r,hl,e⟩:=I.lstM hH;refine call_meets F.slot_list_append ⟨_,e,rfl⟩ F.entry_list_append (F.args_list_append_2 _ _) (PySem.list_append l its.toArray n u (by rw[aY];omega)) ⟨e,?_⟩
  refine⟨.non,_,I.lset (its':=its++[u]) hH e (by simp) (r.append (.cons ru .nil)) ?_,rfl,q⟩
  rw[aK,eJ];omega






noncomputable def rRep:R2:=fun x y H Q=>∃ l k xs,x=.ref l/\y=.int k/\H l=some (.lst xs)/\-(2 ^ 63)<=k/\k < 2 ^ 63/\xs.length * k.toNat<=sizeLine /\
  ∀ p,H p=none->Q (.ref p) (upd H p (.lst (List.replicate k.toNat xs).flatten))
theorem len_rep(xs:Li α)(k:Nat):(List.replicate k xs).flatten.length=k * xs.length:=by
  induction k with
  |zero=>simp
  |succ k ih=>rw[cX,dM,aK,ih,Nat.succ_mul,Nat.add_comm]
theorem op_rep:OpR X (binaryOp .Mult) rRep:=by
  intro pQ s σ H x y v u Q I rx ry h;obtain⟨l,k,xs,rfl,rfl,hH,h1,h2,hz,q⟩:=h;cases rx;obtain⟨t,rfl⟩:=ry;obtain⟨z,its,n,r,hl,e⟩:=I.lstM hH;have hlen:its.toArray.size * k.toNat<=sizeLine:=by rw[aY,<-hl];exact hz
  have hcap:¬its.toArray.size * k.toNat > (2 ^ 63 - 1) / 8:=by
    have:(sizeLine:Nat)<=(2 ^ 63 - 1) / 8:=by decide
    omega
  have hfit:¬(!Builtin.List.listFitsIndex k)=true:=by
    rw[fitsIndex_both h1 h2];exact Bf
  have hlong:¬Builtin.List.listTooLong (its.toArray.size * k.toNat)=true:=by
    rw[notLongL hlen];exact Bf
  have hnew:List.foldl (fun x1 x2=>x1++x2) #[] (List.replicate (if its.toArray.isEmpty=true then 0 else k.toNat) its.toArray)=(List.replicate k.toNat its).flatten.toArray:=by
    have f0:∀ m:Nat,List.foldl (fun x1 x2=>x1++x2) #[] (List.replicate m its.toArray)=(List.replicate m its).flatten.toArray:=fun m=>by
      have:=foldl_rep its m [];rw[List.nil_append]at this;exact this
    rw[f0];cases its with
    |nil=>simp
    |cons a r'=>rw[if_neg (by simp)]
  refine wpAny_binaryOp_repeat_ref (T := "list") (U := "int") (by decide) ⟨_,e,rfl⟩ (fun s'=>typeIs_int s' k t) noFill_list_mul F.fills_int_mul F.slot_int_rmul repeat_list F.slot_int_index.lookup
    (call_meets F.slot_int_rmul (typeIs_int s k t) F.entry_int_rmul (F.args_int_rmul_2 _ _) (int___rmul___int_list k t l its.toArray n)
      ⟨e,rfl,⟨_,e,rfl⟩,call_meets F.slot_list_mul ⟨_,e,rfl⟩ F.entry_list_mul (F.args_list_mul_2 _ _) (AutoListH.list___mul___list_int_3 l its.toArray n k t hfit hcap hlong) ⟨e,?_⟩⟩)
  rw[hnew];exact⟨.ref _,_,I.lnew (t':=s.toks) (r.rep k.toNat) (by rw[len_rep,Nat.mul_comm];exact hz),rfl,q _ I.fresh⟩

end

section
variable {prog:Program}{w:World}{A:Around}{E:vL->sH7->Prop}{s:sH7}
end

section
variable {X:Cx}
end
end L2

namespace Att
open PySem PySem.W PySem.Calls PyProof.Rows

variable{h:Heap}
theorem ints_of_wellAll{P:Params}:∀ (ns:Li Int) (vs:Li vL),WellAll P h vs (ns.map WData.int)->IntsAre vs ns:=by
  intro ns
  induction ns with
  |nil=>
    intro vs w;rw[List.map_nil]at w;cases w;exact .nil
  |cons n ns ih=>
    intro vs w;rw[aT]at w;cases w with
    |cons a b=>
      cases a;exact .cons _ _ (ih _ b)

variable{l:OpenLaw}
theorem script_of{n:Nat}(hn:l.most=some n){P:Params}{args:Li WData}{vals:Li vL}(hpre:l.row.toRowW.claim.pre args=true)(hwl:WellAll P h vals args) :
    ∃ a vs ns,vals=[Value.ref a]/\args=[WData.list (ns.map WData.int)]/\h.get? a=some { cls:=.type "list",data:=.seq vs.toArray }/\IntsAre vs ns/\ns.length<=n:=by
  have hsh:WShape.hasAll [] args [.list .int]=true:=(pre_splitW hpre).1;have hc:l.pre.holds [] { args:=args }=true:=(pre_splitW hpre).2;obtain⟨d,r,rfl,h1,h2⟩:=hasAllW_cons hsh;obtain rfl:=hasAllW_nil h2;obtain⟨xs,rfl,h3⟩:=hasW_list h1;obtain⟨ns,rfl⟩:=items_int h3;have hlen:ns.length<=n:=by
    unfold OpenLaw.pre at hc;have h4:(WTm.not (.lt (.lit (.int (n:Int))) (.len (.arg 0)))).holds [] { args:=[.list (ns.map .int)] }=true:=by
      have h4:=(holds_andW hc).1;rw[hn]at h4;exact h4
    have h5:=condW_of h4 (w_not (w_lt w_lit (w_len_list (w_arg rfl))));rw[aJ]at h5;refine dX fun q=>?_
    have q':(n:Int) < ((ns.length:Nat):Int):=by omega
    first
      | (rw[aF q']at h5;exact absurd h5 (by decide))
      | (simp at h5;omega)
  cases hwl with
  |cons w1 w2=>
    cases w2;cases w1 with
    |list ho hall=>exact⟨_,_,ns,rfl,rfl,ho,ints_of_wellAll ns _ hall,hlen⟩

theorem post_true(l:OpenLaw)(args:Li WData):l.row.toRowW.claim.post args (.bool true) args=true:=
  postW_of (r:=l.row.toRowW) (X:=(true==true))
    (show WShape.has [] (.bool true) .bool=true by first|rfl|decide|simp[WShape.has,WShape.arms,WShape.armsAll])
    (show(WTm.eq .res (.lit (.bool true))).value [] { args:=args,res:=some (.bool true),after:=args }=some (.bool (true==true)) from w_eq_bool (w_res rfl) w_lit) rfl


theorem attach_call{n:Nat}{q:Program}{loose:Li Str}{XP:(Str->Ot vL)->Heap->Prop}{YP:World->Heap->Prop}{d:DefRec}(hn:l.most=some n)(hdf:d.params.defaults=[])(call:∀ (w:World) (s₀ s₁:sH7) (mg mb:Str->Ot vL) (fa:Ad) (o:Obj) (pm cd doc:vL) (a:Ad) (vs:Li vL) (ns:Li Int),
      Ground q loose [] XP w s₀ mg mb s₁.heap->YP w s₁.heap->
      s₁.heap.get? fa=some o->o.data=.func (docDef d.name d.params d.body d.scope pm cd doc)->s₁.heap.CodeRec cd d.name->mg d.name=some (.ref fa)->
      s₁.heap.get? a=some { cls:=.type "list",data:=.seq vs.toArray }->IntsAre vs ns->ns.length<=n->s₁.gens=#[]->
      codeAny (model l.prog w) callerA (.call (.ref fa) ⟨[.ref a],[]⟩) (fun r s'=>r=.ok (.ret (.bool true))/\OldK s₁.heap s'.heap/\s'.os=s₁.os/\AllBare s'.gens) s₁) :
    WalkO q loose XP YP l.row.toRowW d [] (fun f vs=>PySem.call f vs):=by
  intro w s₀ s₁ mg mb G Y fa o pm cd doc dV kV ho hd hcd hD hmg hg args vals as hpre hlay hrd hwl hlo;obtain rfl:dV=.none:=Dflts.none hD hdf;obtain rfl:kV=.none:=Dflts.noKw hD;obtain⟨a,vs,ns,rfl,rfl,hobj,hints,hlen⟩:=script_of hn hpre hwl;refine enter_call (codeAny_mono (call w s₀ s₁ mg mb fa o pm cd doc a vs ns G Y ho (fd_plain hd) hcd hmg hobj hints hlen hg) fun r s' hq=>?_)
  obtain⟨rfl,h2,h3,h4⟩:=hq;exact⟨.inl ⟨.bool true,.bool true,[],rfl,fun _=>rfl,.bool true,post_true l _,fun _=>⟨List.Pairwise.nil,fun _ hm=>(nomatch hm)⟩⟩,h2,h3,h4⟩


section
variable {prog:Program}{w:World}{A:Around}{E:vL->sH7->Prop}{s:sH7}{K:Frag}






end
end Att

namespace L2
open PySem PySem.Spec PyProof.Rows

theorem vals_ints:∀ {vs:Li vL}{ns:Li Int},IntsAre vs ns->Vals (ns.map V.int) vs
  |_,_,.nil=>.nil
  |_,_,.cons n t h=>.cons ⟨t,rfl⟩ (vals_ints h)

def Only(H:Hp):Prop:=∀ b,H b=none\/∃ o xs,H b=some (.frz o (.lst xs))

variable{w:World}{K:Fg}{mg:Str->Ot vL}
theorem law_call{P:Program}{mb:Str->Ot vL}{CX:CXT}{k:Nat}{fa a:Ad}{fd:FuncData}{x:Str}{sp:Sp}{s₁:sH7}{vs:Li vL}{ns:Li Int}(KX:K.In s₁.heap)(hns:s₁.heap.Ns mainGlobals mg)(hb:s₁.heap.Ns builtinsNs mb)(hbb:∀ x:Str,x ≠ "__name__"->mb x=bootBuiltins x)(hlim:s₁.heap.NoLimit)(hg:s₁.gens=#[])(ha:s₁.heap.get? a=some { cls:=.type "list",data:=.seq vs.toArray })(hi:IntsAre vs ns)(hl:ns.length<=sizeLine)(hr:Room k callerA)(F:∀ base:Heap,K.In base->base.Ns mainGlobals mg->FnOk P w K mg base CX k fa fd [x] sp)(hbind:∀ (s:sH7) (u:vL),BindsTo s fd ⟨[u],[]⟩ [(x,u)])(hsp:∀ H:Hp,Only H->SqL K H a (ns.map V.int)->sp [.ref a] H (fun v _=>v=.bl true) fun _ _ _=>False)(hCX:∀ H e s',CX [] H s₁ (fun _ _ _=>False) e s'->False) :
    codeAny (model P w) callerA (.call (.ref fa) ⟨[.ref a],[]⟩) (fun r s'=>r=.ok (.ret (.bool true))/\OldK s₁.heap s'.heap/\s'.os=s₁.os/\AllBare s'.gens) s₁:=by
  have rv:=vals_ints hi;have lenV:=hi.length
  -- from an abstract heap in which nothing but the script may be tracked
  have core:∀ H:Hp,Only H->SqL K H a (ns.map V.int)->HOk P w H s₁.heap->(∀ b,H b≠none->b=a)->(H a≠none->K.lookup a=none)->
      codeAny (model P w) callerA (.call (.ref fa) ⟨[.ref a],[]⟩) (fun r s'=>r=.ok (.ret (.bool true))/\OldK s₁.heap s'.heap/\s'.os=s₁.os/\AllBare s'.gens) s₁:=by
    intro H hO hS hok hA hK;have base_of:∀ {b:Ad}{o:Obj},s₁.heap.get? b=some o->H b=none->(hidT s₁.heap H).get? b=some o:=fun e n=>hidT_get e n
    have noA:∀ {b:Ad}{o:Obj}{es:Array DictEntry}{ep:Nat},s₁.heap.get? b=some o->o.data=.dict es ep->H b=none:=fun {b o es ep} e d=>by
      cases q:H b with
      |none=>rfl
      |some u=>
        have e':b=a:=hA b (by rw[q];simp)
        subst e';rw[ha]at e;cases e
        have d':Data.seq vs.toArray _=Data.dict es ep:=d;cases d'
    have nsK:∀ {b:Ad}{m:Str->Ot vL},s₁.heap.Ns b m->(hidT s₁.heap H).Ns b m:=fun {b m} ⟨o,es,ep,e,d,r⟩=>⟨o,es,ep,base_of e (noA e d),d,r⟩
    have hKb:K.In (hidT s₁.heap H):=fun b o e=>base_of (KX b o e) (by
      cases q:H b with
      |none=>rfl
      |some u=>
        have e':b=a:=hA b (by rw[q];simp)
        subst e';rw[hK (by rw[q];simp)]at e;cases e)
    have hM:Mod K mg (hidT s₁.heap H):=⟨hKb,nsK hns,⟨mb,nsK hb,hbb⟩,let ⟨mc,h1,h2⟩:=hlim;⟨mc,nsK h1,h2⟩⟩
    have e0:Env0 P w K mg (hidT s₁.heap H) callerA [] s₁ H:=⟨rfl,hM,fun b o e=>of_hidT e,cU (hidT_size _ _),trivial,fun b hb=>absurd (show b∈([]:Li Ad) from hb) (by simp),hok,.of_eq hg⟩
    refine codeAny_mono ((F _ hKb (nsK hns)).run callerA [] s₁ H ⟨[.ref a],[]⟩ [.ref a] [.ref a] _ _ hr e0 (hbind s₁ (.ref a)) (.cons rfl .nil) (hsp H hO hS)) fun r s' h=>?_
    cases r with
    |error e=>exact(hCX H e s' h).elim
    |ok fl=>
      cases fl with
      |next=>exact False.elim h
      |brk=>exact False.elim h
      |cont=>exact False.elim h
      |ret u=>
        obtain⟨v,H',os,bare,un,hok',r',q⟩:=h;have q':v=.bl true:=q;subst q';obtain rfl:u=Value.bool true:=r';refine⟨rfl,OldK.of_keep fun b o e=>?_,os,bare⟩
        cases q:H b with
        |none=>exact un.keep b o e q (by intro z;exact absurd (show b∈([]:Li Ad) from z) (by simp)) (by simp)
        |some u=>
          rcases hO b with z|⟨ob,xs,z⟩
          · rw[q]at z;cases z
          · have z2:=un.frzs b ob _ z
            obtain⟨e1,_⟩:=hok b _ z;obtain⟨e2,_⟩:=hok' b _ z2;rw[e]at e1;cases e1
            exact e2
  cases hk:K.lookup a with
  |some o=>
    -- the script is one of the module's own objects
    have e:=KX a o hk;rw[ha]at e;cases e;refine core (fun _=>none) (fun _=>.inl rfl) (.inr ⟨_,vs.toArray,_,hk,rfl,rfl,rfl,by rw[aY,lenV];exact hl,by simpa using rv⟩) (fun b u z=>by have z':(none:Ot HO)=some u:=z;cases z') (fun b z=>absurd rfl z) fun z=>absurd rfl z
  |none=>
    refine core (fun b=>if b=a then some (.frz { cls:=.type "list",data:=.seq vs.toArray } (.lst (ns.map V.int))) else none) (fun b=>?_) (.inl (.inr ⟨{ cls:=.type "list",data:=.seq vs.toArray },if_pos rfl⟩)) (fun b u z=>?_) (fun b z=>?_) fun _=>hk
    · by_cases hb:b=a
      · exact .inr ⟨_,_,if_pos hb⟩
      · exact .inl (if_neg hb)
    · by_cases hb:b=a
      · have z':=(if_pos hb).symm.trans z
        cases z';subst hb;exact⟨ha,by rw[aJ];exact hl,vs,_,rv,ha⟩
      · have z':=(if_neg hb).symm.trans z
        cases z'
    · by_cases hb:b=a
      · exact hb
      · exact absurd (if_neg hb) z
theorem walk_of{l:PySem.W.OpenLaw}{n k:Nat}{q:Program}{loose:Li Str}{XP:(Str->Ot vL)->Heap->Prop}{YP:World->Heap->Prop}{d:DefRec}{K:Params->Fg}{CX:World->CXT}{sp:World->Sp}{x:Str}(hn:l.most=some n)(hn2:n<=sizeLine)(hdf:d.params.defaults=[])(hr:Room k callerA)(hY:∀ (w:World) (h:Heap),YP w h->(K w.params).In h)(F:∀ (w:World) (mg:Str->Ot vL) (fa:Ad) (h:Heap),(K w.params).In h->h.Ns mainGlobals mg->mg d.name=some (.ref fa)->
      ∃ fd:FuncData,(∀ (s:sH7) (u:vL),BindsTo s fd ⟨[u],[]⟩ [(x,u)]) /\
        ∀ base:Heap,(K w.params).In base->base.Ns mainGlobals mg->FnOk l.prog w (K w.params) mg base (CX w) k fa fd [x] (sp w))(hsp:∀ (w:World) (H:Hp) (a:Ad) (ns:Li Int),ns.length<=n->Only H->SqL (K w.params) H a (ns.map V.int)->sp w [.ref a] H (fun v _=>v=.bl true) fun _ _ _=>False)(hCX:∀ (w:World) (H:Hp) (s:sH7) (e:vL) (s':sH7),CX w [] H s (fun _ _ _=>False) e s'->False) :
    PySem.W.WalkO q loose XP YP l.row.toRowW d [] (fun f vs=>PySem.call f vs):=by
  refine Att.attach_call hn hdf fun w s₀ s₁ mg mb fa o pm cd doc a vs ns G Y ho hd hcd hmg hobj hints hlen hg=>?_
  have KX:=hY w _ Y;obtain⟨fd,hb,hF⟩:=F w mg fa _ KX G.T.g hmg;exact law_call KX G.T.g G.T.b G.T.builtins G.T.nolimit hg hobj hints (aH hlen hn2) hr hF hb (fun H hO hS=>hsp w H a ns hlen hO hS) fun H e s'=>hCX w H s₁ e s'
noncomputable def defArgs(s:Stmt):Arguments:=match s with
  |.FunctionDef _ a _ _ _ _ _ _ _ _=>a
  |_=>{ posonlyargs:=[],args:=[],vararg:=none,kwonlyargs:=[],kw_defaults:=[],kwarg:=none,defaults:=[] }
noncomputable def defBody(s:Stmt):Li Stmt:=match s with
  |.FunctionDef _ _ b _ _ _ _ _ _ _=>b
  |_=>[]
noncomputable def defScope(s:Stmt):Scope:=match s with
  |.FunctionDef _ _ _ _ _ _ sc _ _ _=>sc
  |_=>{ kind:=.function,names:=[],isGenerator:=false,isCoroutine:=false }

noncomputable abbrev CX0:CXT:=fun _ _ _ _ _ _=>False
noncomputable abbrev E0:XK:=fun _ _ _=>False
theorem pass0{X:Cx}:Passes CX0 X E0:=fun _ _ _ _ _ _ _ h=>h.elim

structure Fun(K:Fg)(x qual:Str)(st:Stmt)(f:Addr)(fd:FuncData):Prop where
  ex:∃ (oc:Value) (od:Option Addr) (kV doc pm:Value) (an:Option Addr) (cdv ct:Value) (osl:Array (Option Value)),
    fd=PySem.W.fnOf x qual (defArgs st) (defBody st) (defScope st) .none kV doc pm an cdv ct/\K.lookup f=some ⟨oc,od,.func fd,osl⟩/\PySem.W.codeIn K cdv qual=true
  kp:PySem.W.keepIn K (.ref f)=true
section
variable {P:Program}{w:World}{K:Fg}{mg:Str->Ot vL}{base:Heap}
end

section
variable {X:Cx}
end



variable{u:vL}
section
variable {κ:Type} [DecidableEq κ]
noncomputable def valV(kvs:Li (κ×V))(k:κ):Ot V:=(kvs.find? fun kv=>decide (kv.1=k)).map (·.2)
noncomputable def putK(kvs:Li (κ×V))(k:κ)(v:V):Li (κ×V):=
 if (kvs.any fun kv=>decide (kv.1=k))=true then kvs.map (fun kv=>if kv.1=k then (kv.1,v) else kv) else kvs++[(k,v)]
theorem valV_pos{p:κ×V}{r:Li (κ×V)}{k:κ}(e:p.1=k):valV (p :: r) k=some p.2:=by simp[valV,dY,e]
theorem valV_neg{p:κ×V}{r:Li (κ×V)}{k:κ}(e:¬p.1=k):valV (p :: r) k=valV r k:=by simp[valV,dY,e]
theorem length_putK(kvs:Li (κ×V))(k:κ)(v:V):(putK kvs k v).length<=kvs.length+1:=by
 unfold putK;split
 ·rw[aJ];omega
 ·rw[aK,aR,dN];omega
theorem RelO.isSome_eq{o:Ot V}{u:Ot vL}(r:RelO o u):o.isSome=u.isSome:=by
 cases o with
 |none=>cases u with
  |none=>rfl
  |some _=>exact(show False from r).elim
 |some _=>cases u with
  |none=>exact(show False from r).elim
  |some _=>rfl
theorem KV.val{kvs:Li (κ×V)}{vs:Li (κ×vL)}(r:KV kvs vs)(k:κ):RelO (valV kvs k) (valueAt vs k):=by
 unfold KV at r
 induction r with
 |nil=>exact True.intro
 |@cons p q ps qs h t ih=>
  obtain⟨h1,h2⟩:=h;by_cases e:p.1=k
  ·have e':q.1=k:=h1.symm.trans e
   have b:valueAt (q :: qs) k=some q.2:=by simp[valueAt,dY,e']
   rw[valV_pos e,b];exact h2
  ·have e':¬q.1=k:=fun z=>e (h1.trans z)
   have b:valueAt (q :: qs) k=valueAt qs k:=by simp[valueAt,dY,e']
   rw[valV_neg e,b];exact ih
theorem KV.any{kvs:Li (κ×V)}{vs:Li (κ×vL)}(r:KV kvs vs)(k:κ):(kvs.any fun kv=>decide (kv.1=k))=vs.any fun kv=>decide (kv.1=k):=by
 unfold KV at r
 induction r with
 |nil=>rfl
 |cons h t ih=>rw[cL,cL,ih,h.1]
theorem KV.repl{kvs:Li (κ×V)}{vs:Li (κ×vL)}(r:KV kvs vs)(k:κ){y:V}(ry:RelV y u) :
  KV (kvs.map fun kv=>if kv.1=k then (kv.1,y) else kv) (vs.map fun kv=>if kv.1=k then (kv.1,u) else kv):=by
 unfold KV at r ⊢
 induction r with
 |nil=>exact .nil
 |@cons p q ps qs h t ih=>
  rw[aT,aT];refine .cons ?_ ih;obtain⟨h1,h2⟩:=h;by_cases e:p.1=k
  ·rw[if_pos e,if_pos (h1.symm.trans e)];exact⟨h1,ry⟩
  ·rw[if_neg e,if_neg (fun z=>e (h1.trans z))];exact⟨h1,h2⟩
theorem KV.put{kvs:Li (κ×V)}{vs:Li (κ×vL)}(r:KV kvs vs)(k:κ){y:V}(ry:RelV y u):KV (putK kvs k y) (stored vs k u):=by
 unfold putK stored;rw[r.any k];by_cases e:(vs.any fun kv=>decide (kv.1=k))=true
 ·rw[if_pos e,if_pos e];exact r.repl k ry
 ·rw[if_neg e,if_neg e];exact Paired.snoc r ⟨rfl,ry⟩
end
theorem kV_is{P:Program}{k:Key}(r:RelV (kV k) u):(mixKind P w).is k u=true:=by
 cases k with
 |inl i=>obtain⟨t,e⟩:=(show ∃ t,u=Value.int i t from r);subst e;exact mixKind_int P w i t
 |inr x=>obtain⟨t,e⟩:=(show ∃ t,u=Value.str x t from r);subst e;exact mixKind_str P w x t
variable{kvs:Li (Key×V)}
section
variable {P:Program}{w:World}{H:Hp}{h:Heap}{a:Ad}
theorem rd_of{u:HO}(ok:HOk P w H h)(e:Rd H a u):ObjOk P w H h a u:=e.ok ok
theorem dk_rd(ok:HOk P w H h)(e:Rd H a (.dK kvs)):kvs.length<=sizeLine/\(a==sysModules)=false/\∃ vs,KV kvs vs/\h.DictOf (mixKind P w) a vs:=
 show ObjOk P w H h a (.dK kvs) from rd_of ok e
theorem dk_of(ok:HOk P w H h)(e:H a=some (.dK kvs)):kvs.length<=sizeLine/\(a==sysModules)=false/\∃ vs,KV kvs vs/\h.DictOf (mixKind P w) a vs:=dk_rd ok (.inl e)
end
variable{h':Heap}
section
variable {X:Cx}{pQ:Li (Ad×Obj)}{σ:St}{H:Hp}{s:sH7}{a:Ad}{y v:V}{u r:vL}{o:Ot V}{A:Around}{E:vL->sH7->Prop}
theorem Inv.big(I:Inv X pQ σ H s):sysModules < s.heap.objs.size:=by
 have h:mainGlobals < s.heap.objs.size:=(I.mod.glob.keeps I.bk).lt;exact Nat.lt_trans (by decide) h
theorem d_write{t':Nat}{ob:HO}(I:Inv X pQ σ H s)(mu:Mut (H a))(hs:Heap.SameBut a s.heap h')(he:∃ q,h'.get? a=some q)(new:ObjOk X.prog X.w (upd H a ob) h' a ob) :
  Inv X pQ σ (upd H a ob) { s with heap:=h',toks:=t' }:=
 I.write (x:=a) (e:=a) mu (.inl rfl) (fun b q hb z=>(hs.2 b hb).trans z) he new
theorem dk_new{P:Program}{H':Hp}{vs:Li (Key×vL)}(z:kvs.length<=sizeLine)(hd:(a==sysModules)=false)(rel:KV kvs vs)(dd:h'.DictOf (mixKind P w) a vs) :
  ObjOk P w H' h' a (.dK kvs):=⟨z,hd,vs,rel,dd⟩
end
variable{H:Hp}
theorem dk_empty{P:Program}(h:Heap)(hb:sysModules < h.objs.size):ObjOk P w H (h.push { cls:=.type "dict",data:=.dict #[] }) h.objs.size (.dK []):=
 ⟨bH _,bQ.mpr (Ne.symm (aZ hb)),[],.nil,Heap.DictOf.new h⟩
variable{pQ:Li (Ad×Obj)}
section
variable {X:Cx}
noncomputable def rIxD:R2:=fun x y H Q=>∃ p kvs k v,x=.ref p/\y=kV k/\H p=some (.dK kvs)/\valV kvs k=some v/\Q v H
theorem ix_dct:IxR X rIxD:=by
 intro value slice pQ s σ H x y v u Q I rx ry h hs;obtain⟨p,kvs,k,z,rfl,rfl,hq,he,q⟩:=h;cases rx;obtain⟨zz,hd,vs,rel,dd⟩:=dk_of I.hok hq;obtain⟨w',hw,rw'⟩:=RelO.some_of (v:=z) (o:=valueAt vs k) (by rw[<-he];exact rel.val k)
 exact tail_any dd.typeIs PySem.F.slot_dict_getitem.lookup (wpAny_getItem_of (kV_is ry) dd.mapOf hw ⟨z,H,I.tok _,rw',q⟩) hs
theorem ni_dct{σ:St}{s:sH7}{p:Ad}{k:Key}{Q:VK}(I:Inv X pQ σ H s)(hq:H p=some (.dK kvs))(rx:RelV (kV k) u) :
  (Q (.bl (valV kvs k).isSome) H->wpAny (model X.prog X.w) X.A (compareOp .In u (.ref p)) (EP X pQ σ Q) X.xe s)/\(Q (.bl (!(valV kvs k).isSome)) H->wpAny (model X.prog X.w) X.A (compareOp .NotIn u (.ref p)) (EP X pQ σ Q) X.xe s):=by
 obtain⟨zz,hd,vs,rel,dd⟩:=dk_of I.hok hq;have e:=(rel.val k).isSome_eq;rw[e];exact⟨fun q=>wpAny_in_of (kV_is rx) hd dd.mapOf ⟨.bl _,H,I.tok _,rfl,q⟩,fun q=>wpAny_notIn_of (kV_is rx) hd dd.mapOf ⟨.bl _,H,I.tok _,rfl,q⟩⟩
noncomputable def tDNewK(K:Fg):TE:=fun _ H Q=>∀ p,H p=none->(∀ o,K.lookup p≠some o)->Q (.ref p) (upd H p (.dK []))
theorem pe_dnewK{pos:Pos}:PE X (.Dict [] [] pos) (tDNewK X.K):=fun pQ s σ H Q I h=>
 wpAny_Dict_empty ⟨.ref s.heap.objs.size,_,I.laid (a:=s.heap.objs.size) (o:=.dK []) (t':=s.toks) (fun _ _ q=>aO _ q) (aE _) (dk_empty s.heap I.big),rfl,h _ (I.hok.fresh (aE _)) fun o z=>absurd (aI (I.kIn _ o z)) (bM _)⟩
def rSetK:V->V->V->Hp->(Hp->Prop)->Prop:=fun o i v H Q=>∃ p kvs k,o=.ref p/\i=kV k/\H p=some (.dK kvs)/\kvs.length < sizeLine/\Q (upd H p (.dK (putK kvs k v)))
theorem set_dK:PSet X rSetK:=by
 intro pQ s σ H o i v ov iv u Q I ro ri rv h;obtain⟨a,kvs,k,rfl,rfl,e,l,q⟩:=h;cases ro;obtain⟨z,hd,vs,rel,dd⟩:=dk_of I.hok e;have hz:vs.length<=sizeLine:=by rw[<-rel.length];exact z
 have hl:(putK kvs k v).length<=sizeLine:=by have:=length_putK kvs k v;omega
 refine wpAny_setItem_pairs (hsz:=hz) (kV_is ri) dd fun h' dd' hs=>⟨_,?_,q⟩
 have he:∃ q,h'.get? a=some q:=let ⟨q,_,_,hq,_⟩:=dd';⟨q,hq⟩
 exact d_write I (by rw[e];exact True.intro) hs he (dk_new hl hd (rel.put k rv) dd')
theorem len_dK{σ:St}{s:sH7}{a:Ad}{Q:VK}(I:Inv X pQ σ H s)(e:H a=some (.dK kvs))(q:Q (.int kvs.length) H):wpAny (model X.prog X.w) X.A (call (.builtin "len") [.ref a]) (EP X pQ σ Q) X.xe s:=by
 obtain⟨z,hd,vs,rel,dd⟩:=dk_of I.hok e;refine call_len_dict hd dd (by rw[<-rel.length];rw[sizeLine_eq]at z;omega) ?_
 rw[<-rel.length];exact⟨.int kvs.length,H,I.tok _,⟨_,rfl⟩,q⟩
end
structure Xo(h:Heap)(e C dx:Addr)(t:Option Addr):Prop where
 ob:∃ sl vs,h.get? e=some ⟨.ref C,some dx,.fields vs,sl⟩/\vs.size=6/\vs[1]?=some (t.elim .none .ref)
 tb:∀ a,t=some a->a≠e/\∃ o ts,h.get? a=some o/\o.data=.fields ts/\3 < ts.size/\ts[3]?=some .none
def Kx(fs:Li Ad)(e:Ad)(t:Ot Ad)(h h':Heap):Prop:=
 ∀ b o,h.get? b=some o->b≠e->(∀ a,t=some a->b≠a)->(b∉fs->h'.get? b=some o)/\∃ sl,h'.get? b=some { o with slots:=sl }
theorem funs_nf{base h:Heap}:∀ {l:Li Env},h.FunFrames base l->∀ b∈frs l,∃ o,h.get? b=some o/\∀ vs,o.data≠.fields vs
 |[],_,b,hb=>by simp[frs]at hb
 |env :: l,hf,b,hb=>by
  obtain⟨_,⟨L,o,e1,_,e3,e4⟩,r⟩:=hf;rw[frs,dU,e1]at hb;rcases aG.mp hb with z|z
  ·subst z;exact⟨o,e3,e4⟩
  ·exact funs_nf r b z
variable{base h:Heap}{vs:Array vL}
theorem nofr{l:Li Env}{e:Ad}{o:Obj}(hf:h.FunFrames base l)(he:h.get? e=some o)(hd:o.data=.fields vs):e∉frs l:=fun z=>by
 obtain⟨o',e1,e2⟩:=funs_nf hf e z;rw[he]at e1;cases e1;exact e2 vs hd
theorem upd_fld{a:Ad}{o:Obj}{i:Nat}{x:vL}(e:h.get? a=some o)(d:o.data=.fields vs):(h.update a (Obj.mapFields fun y=>y.setIfInBounds i x)).get? a=some { o with data:=.fields (vs.setIfInBounds i x) }:=by
 obtain⟨c,dd,da,sl⟩:=o;have d:da=.fields vs:=d;subst d;exact Heap.get?_update_self _ e rfl
variable{b:Bool}
section
variable {M:Model}{A:Around}{E:vL->sH7->Prop}{s:sH7}{base:Heap}{env:Env}{outer:Li Env}{L e C dx:Ad}{t:Ot Ad}{Q:Unit->sH7->Prop}
theorem new_tb{l:Li vL}{Q:vL->sH7->Prop}(hl:l.length<=100)(h:Q (.ref s.heap.objs.size) { s with heap:=s.heap.push { cls:=.type "traceback",data:=.fields l.toArray } }):wpAny M A (newFields "traceback" l) Q E s:=by
 unfold newFields newObj;have z:¬l.toArray.size > sizeLine+2:=by rw[aY];unfold sizeLine;omega
 show wpAny M A (if l.toArray.size > sizeLine+2 then _ else newObjAsIs _ _ _) Q E s
 rw[if_neg z];unfold newObjAsIs;exact aA (wpAny_alloc (aD h))
theorem entry_x{head:vL}(hfr:A.frames=some (env :: outer))(hF:s.heap.FunFrames base (env :: outer))(hL:env.frame=some L){sl:Array (Ot vL)}(he:s.heap.get? e=some ⟨.ref C,some dx,.fields vs,sl⟩)(hz:vs.size=6)(h:∀ h' a,s.heap.objs.size<=a->Xo h' e C dx (some a)->Kx (frs (env :: outer)) e none s.heap h'->Q () { s with heap:=h' }) :
  wpAny M A (do
   let a <-frameOf env
   let pl <-entryPlaceOf L b
   let b <-EntryCells.newEntry head a .none (rawInt L) .none pl
   setField (.ref e) 1 b) (fun _ s'=>wpAny M A (setFlight (.ref e) none) Q E s') E s:=by
 refine aA (wpAny_frameOf_fun hfr hF hL fun h1 ⟨z1,z2,z3⟩=>aA (wpAny_entryPlaceOf fun pl hp=>aA ?_))
 have ne:e∉frs (env :: outer):=nofr hF he rfl;have he1:h1.get? e=some ⟨.ref C,some dx,.fields vs,sl⟩:=(z2 e ne).trans he;have hpl:5<=([head,Value.ref L,.none,rawInt L,.none]++if pl.isEmpty=true then List.replicate 6 Value.none else pl).length/\([head,Value.ref L,.none,rawInt L,.none]++if pl.isEmpty=true then List.replicate 6 Value.none else pl).length<=100:=by
  rcases hp with rfl|⟨a,b,c,d,c9,b10,_,rfl⟩
  ·exact⟨show 5<=11 by decide,show 11<=100 by decide⟩
  ·exact⟨show 5<=11 by decide,show 11<=100 by decide⟩
 unfold EntryCells.newEntry;generalize [head,Value.ref L,.none,rawInt L,.none]++(if pl.isEmpty=true then List.replicate 6 Value.none else pl)=l at hpl
 refine new_tb hpl.2 ?_;have sz:h1.objs.size=s.heap.objs.size:=z1;have new:s.heap.get? h1.objs.size=none:=by
  cases q:s.heap.get? h1.objs.size with
  |none=>rfl
  |some o=>
   have:=aI q;rw[sz]at this;exact absurd this (bM _)
 have nae:h1.objs.size≠e:=fun z=>by rw[z,he]at new;cases new
 have he2:=aO { cls:=.type "traceback",data:=.fields l.toArray } he1;refine wpAny_setField he2 rfl (by rw[hz];decide) ?_
 have ht:(h1.push { cls:=.type "traceback",data:=.fields l.toArray }).get? h1.objs.size=some { cls:=.type "traceback",data:=.fields l.toArray }:=bA _ rfl;refine wpAny_setFlight_none (e:=e) (tb:=h1.objs.size) (upd_fld he2 rfl) rfl (by show(vs.setIfInBounds 1 _)[1]?=_;rw[dZ];simp[hz]) ((Heap.get?_update_other _ _ (Ne.symm nae)).trans ht) rfl (by rw[aY];omega) ?_
 refine h _ h1.objs.size (cU sz.symm) ⟨⟨sl,vs.setIfInBounds 1 (.ref h1.objs.size),?_,by simp[hz],by rw[dZ];simp[hz]⟩,fun a q=>?_⟩ fun b o hb hbe hbt=>?_
 ·exact(Heap.get?_update_other _ _ nae).trans (upd_fld he2 rfl)
 ·cases q
  refine⟨nae,_,_,upd_fld ((Heap.get?_update_other _ _ (Ne.symm nae)).trans ht) rfl,rfl,?_,?_⟩
  ·simp;omega
  ·rw[dZ];simp;omega
 ·have hbn:b≠h1.objs.size:=fun z=>by rw[z,new]at hb;cases hb
  have go:∀ {o'},h1.get? b=some o'->(((h1.push { cls:=.type "traceback",data:=.fields l.toArray }).update e (Obj.mapFields fun x=>x.setIfInBounds 1 (.ref h1.objs.size))).update h1.objs.size (Obj.mapFields fun x=>x.setIfInBounds 3 .none)).get? b=some o':=fun q=>
   (Heap.get?_update_other _ _ (Ne.symm hbn)).trans ((Heap.get?_update_other _ _ (Ne.symm hbe)).trans (aO _ q))
  obtain⟨sl',q'⟩:=z3 b o hb;exact⟨fun hn=>go ((z2 b hn).trans hb),sl',go q'⟩
theorem note_x(hfr:A.frames=some (env :: outer))(hF:s.heap.FunFrames base (env :: outer))(hL:env.frame=some L)(x:Xo s.heap e C dx t)(h:∀ h' a,s.heap.objs.size<=a->Xo h' e C dx (some a)->Kx (frs (env :: outer)) e t s.heap h'->Q () { s with heap:=h' }) :
  wpAny M A (noteFrame (.ref e) env) (fun _ s'=>wpAny M A (setFlight (.ref e) none) Q E s') E s:=by
 obtain⟨sl,vs,he,hz,h1⟩:=x.ob;unfold noteFrame;rw[hL];cases t with
 |none=>
  refine aA (wpAny_field he rfl h1 ?_);rw[if_neg (by decide)]
  exact entry_x hfr hF hL he hz h
 |some a=>
  obtain⟨ae,o,ts,q1,q2,q3,q4⟩:=x.tb a rfl;refine aA (wpAny_field he rfl h1 ?_);rw[if_pos (by rfl)]
  refine aA (wpAny_field q1 q2 q4 ?_);rw[if_neg (fun z=>by have:=beq_iff_eq.mp z;unfold rawInt at this;cases this)]
  refine aA (wpAny_setField q1 q2 q3 ?_);have ot:∀ b,b≠a->(s.heap.update a (Obj.mapFields fun x=>x.setIfInBounds 3 .none)).get? b=s.heap.get? b:=fun b hb=>Heap.get?_update_other _ _ (Ne.symm hb)
  refine entry_x (s:={ s with heap:=s.heap.update a (Obj.mapFields fun x=>x.setIfInBounds 3 .none) }) (base:=base) hfr (Heap.FunFrames.of_keeps (fun b o' hb hn=>⟨o',(ot b fun z=>?_).trans hb,rfl⟩) hF) hL ((ot e (Ne.symm ae)).trans he) hz fun h' a' n' x' k'=>h h' a' ?_ x' fun b o' hb hbe hbt=>k' b o' ((ot b (hbt a rfl)).trans hb) hbe fun _ z=>nomatch z
  ·rw[z,q1]at hb
   cases hb;exact hn ts q2
  ·have n':(s.heap.update a (Obj.mapFields fun x=>x.setIfInBounds 3 .none)).objs.size<=a':=n'
   rw[Heap.size_update]at n';exact n'
theorem leave_x(hfr:A.frames=some (env :: outer))(hF:s.heap.FunFrames base (env :: outer))(hL:env.frame=some L)(x:Xo s.heap e C dx t)(h:∀ h' a,s.heap.objs.size<=a->Xo h' e C dx (some a)->Kx (frs (env :: outer)) e t s.heap h'->Q () { s with heap:=h' }) :
  wpAny M A (leaving env (.ref e)) Q E s:=by
 unfold leaving;exact aA (note_x hfr hF hL x h)
end
variable{M:Model}
section
variable {prog:Program}{w:World}{A:Around}{E:vL->sH7->Prop}{h:Heap}{g:Array GenState}{d:Drawn}{t:Nat}{os:OsState}{nm q:Str}{C N fI:Ad}{bs bm bmB:Li vL}{hdct:Bool}{sn:Li Str}{sub:Li vL}{ab:Bool}{col:Ot Bool}{dd:Ot Ad}{k0 k1 k2 k3 k5:Ot vL}{B newId initId:String}{rest:Li vL}{oI:Obj}
def Tl(bmB bm:Li vL):Prop:=∃ l:Li Ad,bm=l.map Value.ref++bmB
theorem Tl.has(T:Tl bmB bm){x:String}(hb:bmB.contains (.type x)=b):bm.contains (.type x)=b:=by
 obtain⟨l,rfl⟩:=T
 induction l with
 |nil=>exact hb
 |cons a l ih=>rw[aT,List.cons_append,bW,ih];rfl
theorem chk_new(F:ExcBaseFacts B newId initId bmB)(T:Tl bmB bm){Q:Unit->sH7->Prop}(hC:h.get? C=some (excClassObj nm q C N bs bm hdct sn sub ab col dd k0 k1 k2 k3 k5 newId))(hq:Q () ⟨h,g,d,t,os⟩):wpAny M A (checkBuiltinCall newId ⟨.ref C :: rest,[]⟩) Q E ⟨h,g,d,t,os⟩:=by
 have c1:(Value.ref C :: bm).contains (.type B)=true:=by rw[bW,T.has F.hasB,cK]
 have c2:=F.noStar;simp only[checkBuiltinCall,F.newKind,F.newSplit,F.newRow]
 repeat (first|refine wpAny_madeBy_exc hC ?_|refine wpAny_staticBase_exc hC ?_ | (refine wpAny_isSubtype_exc hC ?_;rw[c1])|refine wpAny_loadPart_at hC ?_|simp only[Bool.false_eq_true,if_false,bne_self_eq_false]|wp_step)
 exact hq
theorem exc_new{R:Result->sH7->Prop}(F:ExcBaseFacts B newId initId bmB)(T:Tl bmB bm)(hC:h.get? C=some (excClassObj nm q C N bs bm hdct sn sub ab col dd k0 k1 k2 k3 k5 newId))(hq:R (.ok (.ret (.ref (h.objs.size+1)))) ⟨(h.push { cls:=.type "tuple",data:=.seq rest.toArray }).push { cls:=.ref C,data:=.fields #[.ref h.objs.size,.none,.none,.none,.bool false,.none] },g,d,t,os⟩)(hr:rest.length<=sizeLine):codeAny (model prog w) A (.builtin newId ⟨.ref C :: rest,[]⟩) R ⟨h,g,d,t,os⟩:=by
 have c0:=F.ends;have c1:(Value.ref C :: bm).contains (.type B)=true:=by rw[bW,T.has F.hasB,cK]
 have c2:(Value.ref C :: bm).contains (.type "AttributeError")=false:=by rw[bW,T.has F.noAttr];rfl
 have c3:(Value.ref C :: bm).contains (.type "NameError")=false:=by rw[bW,T.has F.noName];rfl
 refine codeAny_builtinAt F.entry ?_;unfold Builtin.«BaseException.__new__»
 refine PySem.wpAt_bind ?_;show PySem.wpAt _ _ _ (stack >>= _) _ _ _;refine PySem.wpAt_bind (PySem.wpAt_stack fun p below=>PySem.wpAt_of_wpAny ?_)
 wp_walk
 refine PySem.wpAt_of_wpAny ?_;rw[F.owner]
 repeat (first | (with_reducible refine wpAny_isSubtype_exc hC ?_;first|rw[c1]|rw[c2]|rw[c3])|with_reducible refine wpAny_loadPart_at hC ?_|with_reducible refine wpAny_madeHere_exc F.canon hC ?_|wp_step)
 show R _ _;rw[Heap.size_push];exact hq
theorem tcall_x{Q:Fin->sH7->Prop}(F:ExcBaseFacts B newId initId bmB)(T:Tl bmB bm)(hC:h.get? C=some (excClassObj nm q C N bs bm hdct sn sub ab col dd k0 k1 k2 k3 k5 newId))(hi:PySem.W.Looks (model prog w) h (typeLookup (.ref C) "__init__") (some (.ref fI)))(hf:h.get? fI=some oI)(hc:oI.cls=.type "function")(hr:rest.length<=sizeLine)(hq:∀ h' e,h.objs.size<=e->h.MadeExcOf h' e (.ref C) rest->wpAny (model prog w) A (call (.ref fI) (.ref e :: rest)) (fun r s'=>r=.none/\Q (.done (.ret (.ref e))) s') E ⟨h',g,d,t,os⟩) :
  wpAny (model prog w) A (Builtin.«type.__call__» { pos:=.ref C :: rest }) Q E ⟨h,g,d,t,os⟩:=by
 unfold Builtin.«type.__call__»
 simp only;have n1:¬(Value.ref C==Value.type "type")=true:=fun z=>nomatch beq_iff_eq.mp z
 rw[if_neg n1];refine aA (wpAny_mroOf_exc hC ?_);rw[if_neg (by simp)]
 refine aA (wpAny_madeBy_exc hC (aA (aD (aA (wpAny_holding (wpAny_call (codeAny_call_builtin_code (Code.quiet_builtin _ F.quiet) (chk_new F T hC (exc_new F T hC ?_ hr)))))))));have hh:∀ b o,h.get? b=some o->((h.push { cls:=.type "tuple",data:=.seq rest.toArray }).push { cls:=.ref C,data:=.fields #[.ref h.objs.size,.none,.none,.none,.bool false,.none] }).get? b=some o:=fun b o z=>aO _ (aO _ z)
 have hn:∀ a,h.objs.size<=a->h.get? a=none:=fun a ha=>by
  cases z:h.get? a with
  |none=>rfl
  |some o=>exact absurd (aI z) (Nat.not_lt.mpr ha)
 have hs:(h.push { cls:=.type "tuple",data:=.seq rest.toArray }).objs.size=h.objs.size+1:=Heap.size_push _ _;have he:((h.push { cls:=.type "tuple",data:=.seq rest.toArray }).push { cls:=.ref C,data:=.fields #[.ref h.objs.size,.none,.none,.none,.bool false,.none] }).get? (h.objs.size+1)=some { cls:=.ref C,data:=.fields #[.ref h.objs.size,.none,.none,.none,.bool false,.none] }:=Heap.get?_push_at hs.symm rfl
 have hm:h.MadeExcOf ((h.push { cls:=.type "tuple",data:=.seq rest.toArray }).push { cls:=.ref C,data:=.fields #[.ref h.objs.size,.none,.none,.none,.bool false,.none] }) (h.objs.size+1) (.ref C) rest:=⟨hh,hn _ (Nat.le_succ _),h.objs.size,he,hn _ (aE _),aO _ (bA _ rfl)⟩;have hC1:=hh C _ hC;generalize hg:(h.push { cls:=.type "tuple",data:=.seq rest.toArray }).push { cls:=.ref C,data:=.fields #[.ref h.objs.size,.none,.none,.none,.bool false,.none] }=h2 at *
 refine aA ?_;unfold isInstance typeOf;refine aA (aA (wpAny_loadPart_at he (aD (wpAny_isSubtype_exc hC1 ?_))));rw[show(Value.ref C :: bm).contains (.ref C)=true by simp]
 rw[if_neg (by decide)]
 refine aA (wpAny_holding ?_);unfold callSpecial? specialOf typeOf
 refine aA (aA (aA (wpAny_loadPart_at he (aD (hi _ _ _ _ hh ?_)))));refine wpAny_holding (aA (wpAny_bindSpecial_def (hh fI _ hf) hc (aA ?_)));refine bD (hq h2 (h.objs.size+1) (Nat.le_succ _) hm) (fun r s' ⟨q1,q2⟩=>?_) fun _ _ z=>z
 subst q1;exact aD (aD q2)
theorem call_x{Q:vL->sH7->Prop}(F:ExcBaseFacts B newId initId bmB)(T:Tl bmB bm)(hC:h.get? C=some (excClassObj nm q C N bs bm hdct sn sub ab col dd k0 k1 k2 k3 k5 newId))(hi:PySem.W.Looks (model prog w) h (typeLookup (.ref C) "__init__") (some (.ref fI)))(hf:h.get? fI=some oI)(hc:oI.cls=.type "function")(hr:rest.length<=sizeLine)(hq:∀ h' e,h.objs.size<=e->h.MadeExcOf h' e (.ref C) rest->wpAny (model prog w) (A.under (Code.builtin "type.__call__" { pos:=.ref C :: rest })) (call (.ref fI) (.ref e :: rest)) (fun r s'=>r=.none/\Q (.ref e) s') E ⟨h',g,d,t,os⟩) :
  wpAny (model prog w) A (call (.ref C) rest) Q E ⟨h,g,d,t,os⟩:=by
 refine wpAny_call (codeAny_of_tree (aA (wpAny_load' hC ?_)));refine aA (wpAny_specialOf ⟨_,hC,rfl⟩ tc_lookup (aA (wpAny_of_eq (tc_bind (.ref C)) (aA (aD ?_)))));refine wpAny_ite_true (by rfl) (aD ⟨rfl,codeAny_call_builtin_at (Code.quiet_builtin _ (by decide +kernel)) entry_typeCall (wpAny_check_type_call_sub hC (tcall_x F T hC hi hf hc hr fun h' e hz hm=>hq h' e hz hm))⟩)
end
section
variable {prog:Program}{w:World}{A:Around}{E:vL->sH7->Prop}{h:Heap}{g:Array GenState}{d:Drawn}{t:Nat}{os:OsState}{nm q:Str}{C H0 N e:Ad}{bs bm bmB:Li vL}{sn:Li Str}{sub:Li vL}{ab:Bool}{col:Ot Bool}{dd:Ot Ad}{k0 k1 k2 k3 k5:Ot vL}{B newId sa owner:String}{vs:Array vL}{name:Str}{v:vL}{tk:Tok}
theorem refuse_tail{self:vL}{what:Str}(T:Tl bmB bm)(h:refuseLoop self what bmB=pure ()):refuseLoop self what bm=pure ():=by
 obtain⟨l,rfl⟩:=T
 induction l with
 |nil=>exact h
 |cons a l ih=>rw[aT,List.cons_append,refuseLoop_ref];exact ih
theorem store_x{Q:Fin->sH7->Prop}(SF:StoreFacts B bmB sa owner)(T:Tl bmB bm)(hC:h.get? C=some (excClassObj nm q C N bs bm true sn sub ab col dd k0 k1 k2 k3 k5 newId))(hl:PySem.W.Looks (model prog w) h (typeLookup (.ref C) name) none)(he:h.get? e=some { cls:=.ref C,data:=.fields vs })(hq:∀ h' tk',h'.get? e=some ⟨.ref C,some h.objs.size,.fields vs,#[]⟩->h'.Ns1 h.objs.size (fun y=>if y=name then some v else none)->(∀ b o,b≠e->h.get? b=some o->h'.get? b=some o)->Q (.done (.ret .none)) ⟨h',g,d,tk',os⟩) :
  wpAny (model prog w) A (Builtin.«object.__setattr__» { pos:=[.ref e,.str name tk,v] }) Q E ⟨h,g,d,t,os⟩:=by
 unfold Builtin.«object.__setattr__»
 simp only;rw[if_neg (by decide),refuse_eq]
 have n1:¬(Value.ref C==Value.type "module")=true:=fun z=>nomatch beq_iff_eq.mp z
 unfold typeOf;refine aA (aA (aA (wpAny_loadPart_at he (aD (aA (wpAny_mroOf_exc hC ?_))))));rw[refuseLoop_ref,refuse_tail T (SF.passes _)];refine aD ?_;unfold Builtin.ObjectAttr.attrName;refine aA (aD (aA (aA (wpAny_loadPart_at he (aD (aA (hl _ _ _ _ (fun _ _ z=>z) ?_)))))))
 unfold Builtin.ObjectAttr.storeTaker?
 refine aA (aD ?_);unfold Builtin.ObjectAttr.storeInOwnDict ownStreamTells;refine aA (aD ?_);rw[if_neg n1];unfold Builtin.ObjectAttr.ownDictForStores instanceDict;refine aA (aA (wpAny_loadPart_at he ?_));simp only;unfold classData;refine aA (aA (wpAny_load' hC (aD ?_)));rw[if_neg (show ¬(!true)=true from Bf)]
 show wpAny _ _ (if (!true||!typeHasDict (.ref C))=true then pure none else _) _ _ _
 rw[if_neg (show ¬(!true||!typeHasDict (.ref C))=true from Bf)];refine aA (wpAny_alloc ?_);have hn:∀ a,h.objs.size<=a->h.get? a=none:=fun a ha=>by
  cases z:h.get? a with
  |none=>rfl
  |some o=>exact absurd (aI z) (Nat.not_lt.mpr ha)
 have ne:e≠h.objs.size:=fun z=>by rw[z,hn _ (aE _)]at he;cases he
 have he1:=aO { cls:=.type "dict",data:=.dict #[] } he;have hd1:(h.push { cls:=.type "dict",data:=.dict #[] }).get? h.objs.size=some { cls:=.type "dict",data:=.dict #[] }:=bA _ rfl;refine aA (wpAny_update' he1 (aD ?_));have he2:((h.push { cls:=.type "dict",data:=.dict #[] }).update e fun o=>{ o with dict:=some h.objs.size }).get? e=some ⟨.ref C,some h.objs.size,.fields vs,#[]⟩:=Heap.get?_update_self _ he1 rfl
 have hd2:((h.push { cls:=.type "dict",data:=.dict #[] }).update e fun o=>{ o with dict:=some h.objs.size }).get? h.objs.size=some { cls:=.type "dict",data:=.dict #[] }:=(Heap.get?_update_other _ _ ne).trans hd1
 have kp2:∀ b o,b≠e->h.get? b=some o->((h.push { cls:=.type "dict",data:=.dict #[] }).update e fun o=>{ o with dict:=some h.objs.size }).get? b=some o:=fun b o hb z=>(Heap.get?_update_other _ _ (Ne.symm hb)).trans (aO _ z)
 unfold Builtin.ObjectAttr.storeInDict Builtin.ObjectAttr.newKeyGuard;refine aA (aD (aA (wpAny_nsSet1 (m:=fun _=>none) (Heap.Ns1.of_empty ?_) fun h' n' sb=>?_)))
 ·exact⟨_,#[],0,hd2,rfl,by simp[StrKeys],by intro;rfl⟩
 ·obtain⟨o,es,ep,o1,o2,o3⟩:=Heap.Ns1.count (ns:=[name]) n' (fun y hy=>by
   by_cases z:y=name
   ·simp[z]
   ·rw[if_neg z]at hy;exact absurd rfl hy)
  refine aA (wpAny_lookBehind o1 ?_ (aD (hq h' _ ?_ n' fun b o hb z=>?_)))
  ·rw[o2]
   show(if es.size > sizeLine+1 then some "dict:memory" else none)=none
   rw[if_neg (by unfold sizeLine;simp at o3;omega)]
  ·exact(sb.2 e ne).trans he2
  ·exact(sb.2 b fun y=>by rw[y,hn _ (aE _)]at z;cases z).trans (kp2 b o hb z)
end
section
variable {prog:Program}{w:World}{A:Around}{E:vL->sH7->Prop}{h:Heap}{g:Array GenState}{d:Drawn}{t:Nat}{os:OsState}{nm q:Str}{C H0 N e:Ad}{bs bm bmB:Li vL}{sn:Li Str}{sub:Li vL}{ab:Bool}{col:Ot Bool}{dd:Ot Ad}{k0 k1 k2 k3 k5:Ot vL}{B newId sa owner:String}{vs:Array vL}{name:Str}{v:vL}{tk:Tok}{K:Fg}
theorem tail_has{x:vL}(T:Tl bmB bm)(h:bmB.contains x=true):bm.contains x=true:=by
 obtain⟨l,rfl⟩:=T
 induction l with
 |nil=>exact h
 |cons a l ih=>rw[aT,List.cons_append,bW,ih,cK]
theorem check_x{o:Obj}{nv:vL}{Q:Unit->sH7->Prop}(SF:StoreFacts B bmB sa owner)(T:Tl bmB bm)(hC:h.get? C=some (excClassObj nm q C N bs bm true sn sub ab col dd k0 k1 k2 k3 k5 newId))(he:h.get? e=some o)(hc:o.cls=.ref C)(hq:Q () ⟨h,g,d,t,os⟩) :
  wpAny M A (checkBuiltinCall sa { pos:=[.ref e,nv,v] }) Q E ⟨h,g,d,t,os⟩:=by
 have ha:=SF.args (.ref e) nv v;unfold checkBuiltinCall;rw[SF.kind,SF.split];simp only;unfold isInstance typeOf;refine aA (aA (aA (wpAny_loadPart_at he (aD ?_))));rw[hc];refine wpAny_isSubtype_exc hC ?_;rw[show(Value.ref C :: bm).contains (.type owner)=true by rw[bW,tail_has T SF.hasOwner,cK]]
 rw[if_neg (by decide)]
 unfold argsOk at ha;cases z:Manifest.signature? sa with
 |none=>exact aD hq
 |some sig=>
  rw[z]at ha;exact wpAny_of_eq ha hq
theorem scall_x{R:Result->sH7->Prop}(SF:StoreFacts B bmB sa owner)(T:Tl bmB bm)(hC:h.get? C=some (excClassObj nm q C N bs bm true sn sub ab col dd k0 k1 k2 k3 k5 newId))(hl:PySem.W.Looks (model prog w) h (typeLookup (.ref C) name) none)(he:h.get? e=some { cls:=.ref C,data:=.fields vs })(hq:∀ h' tk',h'.get? e=some ⟨.ref C,some h.objs.size,.fields vs,#[]⟩->h'.Ns1 h.objs.size (fun y=>if y=name then some v else none)->(∀ b o,b≠e->h.get? b=some o->h'.get? b=some o)->R (.ok (.ret .none)) ⟨h',g,d,tk',os⟩) :
  codeAny (model prog w) A (Code.call (.builtin sa) { pos:=[.ref e,.str name tk,v] }) R ⟨h,g,d,t,os⟩:=
 codeAny_call_builtin SF.slot.plain SF.entry (check_x SF T hC he rfl (store_x SF T hC hl he hq))
theorem setattr_x{Q:Unit->sH7->Prop}(KX:K.In h)(SF:StoreFacts B bmB "object.__setattr__" owner)(T:Tl bmB bm)(hC:h.get? C=some (excClassObj nm q C N bs bm true sn sub ab col dd k0 k1 k2 k3 k5 newId))(hs:PySem.W.findIn K (.ref C) "__setattr__"=some (some (.builtin "object.__setattr__")))(hl:PySem.W.findIn K (.ref C) name=some none)(he:h.get? e=some { cls:=.ref C,data:=.fields vs })(hq:∀ h' tk',h'.get? e=some ⟨.ref C,some h.objs.size,.fields vs,#[]⟩->h'.Ns1 h.objs.size (fun y=>if y=name then some v else none)->(∀ b o,b≠e->h.get? b=some o->h'.get? b=some o)->Q () ⟨h',g,d,tk',os⟩) :
  wpAny (model prog w) A (setAttr (.ref e) name v) Q E ⟨h,g,d,t,os⟩:=
 PySem.W.set_plain (od:=none) KX ⟨he,rfl,rfl,trivial⟩ hs (scall_x SF T hC (PySem.W.looks_findIn KX hl) he hq)
end
def fX(C e dx:Ad):Heap->Prop:=fun h=>∃ sl vs,h.get? e=some ⟨.ref C,some dx,.fields vs,sl⟩/\vs.size=6
variable{dx:Ad}
theorem fX_ok{P:Program}{C e:Ad}(x:fX C e dx h):ObjOk P w H h e (.ext (fX C e dx)):=
 ⟨x,let ⟨_,_,q,_⟩:=x;⟨_,q⟩,fun _ _ ⟨sl,vs,q,z⟩ k=>⟨sl,vs,k _ q,z⟩⟩
theorem Xo.f{e C:Ad}{t:Ot Ad}(x:Xo h e C dx t):fX C e dx h:=let ⟨sl,vs,q,z,_⟩:=x.ob;⟨sl,vs,q,z⟩
noncomputable def CX1(P:Program)(w:World):CXT:=fun outer H s E e s'=>∃ (ea C dx:Ad) (t:Ot Ad) (H':Hp),e=.ref ea/\(s'.os=s.os/\AllBare s'.gens/\Un (frs outer) [] H H' s.heap s'.heap/\HOk P w H' s'.heap) /\
 (Xo s'.heap ea C dx t/\H' ea=some (.ext (fX C ea dx))/\s.heap.objs.size<=ea/\∀ a,t=some a->H' a=none/\s.heap.objs.size<=a)/\E (.ref C) (some dx) H'
def XS(X:Cx)(pQ:Li (Ad×Obj))(σ:St)(E:XK)(e:vL)(s':sH7):Prop:=∃ (ea C dx:Ad) (t:Ot Ad) (H':Hp),e=.ref ea/\Inv X pQ σ H' s' /\
 (Xo s'.heap ea C dx t/\H' ea=some (.ext (fX C ea dx))/\X.s₀.heap.objs.size<=ea/\∀ a,t=some a->H' a=none/\X.s₀.heap.objs.size<=a/\a≠X.env.locals)/\E (.ref C) (some dx) H'
section
variable {X:Cx}{pQ:Li (Ad×Obj)}{σ:St}{H H':Hp}{s s':sH7}{E:XK}{e:vL}
theorem hok_x{P:Program}{C e:Ad}(ok:HOk P w H h)(he:H e=some (.ext (fX C e dx)))(x:fX C e dx h')(k:∀ b o u,b≠e->H b=some u->h.get? b=some o->h'.get? b=some o):HOk P w H h':=fun b u q=>by
 by_cases z:b=e
 ·subst z
  rw[he]at q;cases q;exact fX_ok x
 ·exact(ok b u q).stay (fun c v hc q'=>by
   rcases hc with hc|hc
   ·rw[hc]at q' ⊢;exact k b v u z q q'
   ·exact k c v _ (fun y=>by rw[y,he]at hc;cases hc) hc q') (fun _ z=>z) fun _ _ z=>z
theorem xs_leave{P:Program}{N:Li Str}{qual:Str}{scope:Scope}{f:Ad}{cd:vL}{A:Around}{outer:Li Env}(h:XS (cxOf (CX1 P w) P w K mg base N qual scope f cd A outer s H E) pQ σ E e s'):(cxOf (CX1 P w) P w K mg base N qual scope f cd A outer s H E).xe e s':=by
 obtain⟨ea,C,dx,t,H',rfl,I,⟨x,n1,z1,tt⟩,q⟩:=h;refine leave_x (base:=base) (outer:=outer) (L:=s.heap.objs.size) I.ok.frames I.stack rfl x fun h' a na x' k=>?_
 have far:∀ b o,s.heap.get? b=some o->b≠ea/\(∀ a,t=some a->b≠a)/\b≠s.heap.objs.size:=fun b o hb=>by
  have:=aI hb;exact⟨fun z=>absurd (aQ this z1) (z ▸ bM _),fun a ha z=>absurd (aQ this (tt a ha).2.1) (z ▸ bM _),aZ this⟩
 have bs:Un (frs outer) [] H H' s.heap s'.heap:=I.base;have kk:∀ b o,s'.heap.get? b=some o->b≠ea->H' b≠none->h'.get? b=some o:=fun b o hb he hn=>(k b o hb he (fun a ha z=>hn (z ▸ (tt a ha).1))).1 fun z=>hn (I.stkFree b z)
 refine⟨ea,C,dx,some a,H',rfl,⟨I.os,I.bare,⟨fun b o hb hn hf _=>?_,fun b o hb hn hf _=>?_,bs.free,fun b o hb _=>?_,bs.tups,bs.frzs,bs.tbls⟩,hok_x I.hok n1 x'.f fun b o u hn hu hb=>kk b o hb hn (by rw[hu];exact fun z=>nomatch z)⟩,⟨x',n1,z1,fun b hb=>?_⟩,q⟩
 ·obtain⟨f1,f2,f3⟩:=far b o hb
  refine(k b o (bs.keep b o hb hn hf (by simp)) f1 f2).1 fun z=>?_
  rcases aG.mp (show b∈s.heap.objs.size :: frs outer from z) with z|z
  ·exact f3 z
  ·exact hf z
 ·obtain⟨f1,f2,f3⟩:=far b o hb
  obtain⟨sl,e1⟩:=bs.slot b o hb hn hf (by simp)
  obtain⟨sl',e2⟩:=(k b _ e1 f1 f2).2;exact⟨sl',e2⟩
 ·obtain⟨f1,f2,f3⟩:=far b o hb
  obtain⟨o',e1⟩:=bs.there b o hb (by simp)
  obtain⟨sl',e2⟩:=(k b _ e1 f1 f2).2;exact⟨_,e2⟩
 ·cases hb
  exact⟨I.hok.fresh na,aH I.sz na⟩
theorem pass_x(h:∀ pQ σ e s',XS X pQ σ E e s'->X.xe e s'):Passes (CX1 X.prog X.w) X E:=fun pQ σ H s e s' I hx=>by
 obtain⟨ea,C,dx,t,H',rfl,⟨os,ba,un,ok⟩,⟨x,n1,z1,tt⟩,q⟩:=hx;have lt:=I.lt;refine h pQ σ _ s' ⟨ea,C,dx,t,H',rfl,I.call' os un ok ba (fun _ z=>absurd z (by simp)),⟨x,n1,aH I.sz z1,fun a ha=>⟨(tt a ha).1,aH I.sz (tt a ha).2,fun z=>?_⟩⟩,q⟩
 ·exact absurd (aQ lt (tt a ha).2) (z ▸ bM _)
end
section
variable {M:Model}{A:Around}{E:vL->sH7->Prop}{env:Env}{nm q:Str}{C N:Ad}{bs bm:Li vL}{hdct:Bool}{sn:Li Str}{sub:Li vL}{ab:Bool}{col:Ot Bool}{dd:Ot Ad}{k0 k1 k2 k3 k5:Ot vL}{newId:String}{s:sH7}{x:Sem vL}{Q:Flow->sH7->Prop}
theorem raise_x(hb:bm.contains (.type "BaseException")=true)(hh:A.handled=none)(h:wpAny M A x (fun v s1=>∃ e oe vs,v=.ref e/\s1.heap.get? C=some (excClassObj nm q C N bs bm hdct sn sub ab col dd k0 k1 k2 k3 k5 newId)/\s1.heap.get? e=some oe/\oe.cls=.ref C/\oe.data=.fields vs/\vs[1]?=some .none/\E (.ref e) s1) E s) :
  wpAny M A (raiseStmt env (some x) none) Q E s:=by
 have hcB:(Value.ref C :: bm).contains (.type "BaseException")=true:=by rw[bW,hb,cK]
 unfold raiseStmt;refine aA (bD h (fun v s1 ⟨e,oe,vs,ev,hC,he,hc,hd,h1,hE⟩=>?_) fun _ _ z=>z)
 subst ev;obtain⟨hp,g,d,tk,os⟩:=s1;refine aA (aD (aA (wpAny_holding ?_)));obtain⟨c0,di,da,sl⟩:=oe;have hc:c0=.ref C:=hc;have hd:da=.fields vs:=hd;subst hc;subst hd;unfold excFromValue isExcClass isType loadHead;refine aA (aA (aA (wpAny_loadPart_at he (aD (wpAny_ite_false rfl (aD (wpAny_ite_false rfl ?_)))))));unfold isInstance typeOf
 refine aA (aA (aA (wpAny_loadPart_at he (aD (wpAny_isSubtype_exc hC ?_)))));rw[hcB,if_pos rfl];refine aD (aA (aA (wpAny_loadPart_at he (aD (wpAny_ite_false rfl ?_)))));unfold raisedInstance typeOf;refine aA (aA (aA (wpAny_loadPart_at he (aD (aA (aA (wpAny_loadPart_at hC (aD (wpAny_ite_true rfl ?_)))))))))
 refine aD ?_;unfold setFlight;refine aA (aA (wpAny_field he rfl h1 (wpAny_ite_false rfl (aD ?_))));exact wpAny_raiseNew_none hh hE

end
structure XCls(K:Fg)(C fI:Addr)(f:Str):Prop where
 cl:∃ nm q N bs bm sn sub ab col dd k0 k1 k2 k3 k5 newId B initId bmB owner,K.lookup C=some (excClassObj nm q C N bs bm true sn sub ab col dd k0 k1 k2 k3 k5 newId)/\Tl bmB bm/\ExcBaseFacts B newId initId bmB/\StoreFacts B bmB "object.__setattr__" owner
 sa:PySem.W.findIn K (.ref C) "__setattr__"=some (some (.builtin "object.__setattr__"))
 na:PySem.W.findIn K (.ref C) f=some none
 ini:PySem.W.findIn K (.ref C) "__init__"=some (some (.ref fI))
 fn:∃ o,K.lookup fI=some o/\o.cls=.type "function"
 kp:PySem.W.keepIn K (.ref C)=true
def f0(C e:Ad)(vs:Array vL):Heap->Prop:=fun h=>h.get? e=some { cls:=.ref C,data:=.fields vs }
theorem f0_ok{P:Program}{C e:Ad}(x:f0 C e vs h):ObjOk P w H h e (.ext (f0 C e vs)):=⟨x,⟨_,x⟩,fun _ _ q k=>k _ q⟩
def New(H:Hp)(C e:Ad):Prop:=∃ vs,vs.size=6/\vs[1]?=some Value.none/\H e=some (.ext (f0 C e vs))
section
variable {X:Cx}{pQ:Li (Ad×Obj)}{σ:St}{H:Hp}{s:sH7}{e C fI:Ad}{f:Str}{y:V}{u:vL}{A:Around}{E:vL->sH7->Prop}
def f1(C e dx:Ad):Heap->Prop:=fun h=>Xo h e C dx none
theorem f1_ok{P:Program}{C:Ad}(x:f1 C e dx h):ObjOk P w H h e (.ext (f1 C e dx)):=
 ⟨x,let ⟨_,_,q,_⟩:=x.ob;⟨_,q⟩,fun _ _ ⟨⟨sl,vs,q,z⟩,r⟩ k=>⟨⟨sl,vs,k _ q,z⟩,fun _ z=>nomatch z⟩⟩
noncomputable def xInit(H:Hp)(C e dx:Ad)(f:Str)(y:V):Hp:=upd (upd H dx (.xd [(f,y)])) e (.ext (f1 C e dx))
theorem setattr_xok{Q:Unit->sH7->Prop}(c:XCls X.K C fI f)(I:Inv X pQ σ H s)(n:New H C e)(ry:RelV y u)(h:∀ dx s',H dx=none->dx≠e->Inv X pQ σ (xInit H C e dx f y) s'->Q () s') :
  wpAny (model X.prog X.w) A (setAttr (.ref e) f u) Q E s:=by
 obtain⟨vs,z6,z1,he⟩:=n;obtain⟨nm,q,N,bs,bm,sn,sub,ab,col,dd,k0,k1,k2,k3,k5,newId,B,initId,bmB,owner,lk,T,F,SF⟩:=c.cl;have ob:f0 C e vs s.heap:=(show ObjOk X.prog X.w H s.heap e (.ext (f0 C e vs)) from I.hok e _ he).1;obtain⟨hp,g,d,tk,os⟩:=s;have hd:H hp.objs.size=none:=I.hok.fresh (aE _);have ne:hp.objs.size≠e:=fun z=>by rw[z,he]at hd;cases hd
 refine setattr_x (K:=X.K) I.kIn SF T (I.kIn _ _ lk) c.sa c.na ob fun h' tk' e1 e2 k=>h hp.objs.size _ hd ne ?_
 have kd:∀ b o,b≠e->hp.get? b=some o->h'.get? b=some o:=k;have un:Un X.fs [] H (xInit H C e hp.objs.size f y) hp h':=by
  have w1:∀ b,H b=none->b < hp.objs.size->xInit H C e hp.objs.size f y b=none:=fun b hb lt=>by
   unfold xInit;rw[upd_ne (fun z=>by rw[z,he]at hb;cases hb),upd_ne (aZ lt)];exact hb
  have w2:∀ b v,H b=some v->b≠e->xInit H C e hp.objs.size f y b=some v:=fun b v hb hn=>by
   unfold xInit;rw[upd_ne hn,upd_ne (ne_of_none hb hd)];exact hb
  have w3:∀ b v,H b=some v->(∀ φ,v≠.ext φ)->b≠e:=fun b v hb hv z=>by
   rw[z,he]at hb;cases hb;exact hv _ rfl
  have w4:∀ b o,hp.get? b=some o->H b=none->b≠e:=fun b o _ hb z=>by rw[z,he]at hb;cases hb
  refine⟨fun b o hb hn _ _=>kd b o (w4 b o hb hn) hb,fun b o hb hn _ _=>⟨o.slots,kd b o (w4 b o hb hn) hb⟩,fun b o hb hn _=>w1 b hn (aI hb),fun b o hb _=>?_,fun b xs hb=>w2 b _ hb (w3 b _ hb fun _ z=>nomatch z),fun b o u hb=>w2 b _ hb (w3 b _ hb fun _ z=>nomatch z),fun b ps hb=>⟨#[],by rw[w2 b _ hb (w3 b _ hb fun _ z=>nomatch z)];simp⟩⟩
  by_cases z:b=e
  ·rw[z];exact⟨_,e1⟩
  ·exact⟨o,kd b o z hb⟩
 refine I.un un fun b v hb=>?_
 by_cases z:b=e
 ·subst z
  unfold xInit at hb;rw[upd_same]at hb;cases hb;exact f1_ok ⟨⟨#[],vs,e1,z6,z1⟩,fun _ z=>nomatch z⟩
 ·by_cases z2:b=hp.objs.size
  ·subst z2
   unfold xInit at hb;rw[upd_ne z,upd_same]at hb;cases hb;refine⟨_,e2,fun g=>?_⟩
   by_cases q:g=f
   ·rw[if_pos q,q]
    show RelO (List.lookup f [(f,y)]) (some u);rw[bL,beq_self_eq_true];exact ry
   ·rw[if_neg q]
    show RelO (List.lookup g [(f,y)]) none;rw[bL,bQ.mpr q];exact True.intro
  ·have hb':H b=some v:=by unfold xInit at hb;rw[upd_ne z,upd_ne z2]at hb;exact hb
   refine(I.hok b v hb').stay (fun c o hc q=>kd c o ?_ q) (fun c q=>?_) fun c xs q=>?_
   ·rcases hc with hc|hc
    ·rw[hc];exact z
    ·exact fun y=>by rw[y,he]at hc;cases hc
   ·unfold xInit
    rw[upd_ne (fun y=>by rw[y,he]at q;cases q),upd_ne (ne_of_none q hd)];exact q
   ·unfold xInit
    rw[upd_ne (fun y=>by rw[y,he]at q;cases q),upd_ne (ne_of_none q hd)];exact q
variable {o value:Expr}{pos pos' p:Pos}{ta tv:TE}{x:Str}{CX:CXT}{k:Nat}{fd:FuncData}{ps:Li Str}{E':XK}{t:TA}{arg:Expr}
noncomputable def sX(C:Ad)(f:Str)(ta tv:TE):TS:=fun D σ H=>tv σ H fun y H1=>ta σ H1 fun x H2=>∃ e,x=.ref e/\New H2 C e/\∀ dx,H2 dx=none->dx≠e->D.nx σ (xInit H2 C e dx f y)
theorem ps_x(c:XCls X.K C fI f)(ha:PE X o ta)(hv:PE X value tv)(hs:swapsWith value (some (.Attribute o f pos')) pos.line X.env=pure false):PS X (.Assign [.Attribute o f pos'] value pos) (sX C f ta tv):=by
 intro pQ s σ H D I h;refine plainObj_wpAny_Assign_Attribute (thn (hv pQ s σ H _ I h) fun u s1 ⟨y,H1,I1,ry,q⟩=>thn (ha pQ s1 σ H1 _ I1 q) fun ov s2 ⟨x,H2,I2,rx,e,ex,n,q2⟩=>?_) hs
 subst ex;obtain rfl:ov=Value.ref e:=rx;exact setattr_xok c I2 n ry fun dx s3 h1 h2 I3=>⟨σ,_,I3,q2 dx h1 h2⟩
noncomputable def spI(C:Ad)(f:Str):Sp:=fun vs H Q _=>∃ e y,vs=[.ref e,y]/\New H C e/\∀ dx,H dx=none->dx≠e->Q .non (xInit H C e dx f y)
theorem init_x{P:Program}{name qual a0 a1:Str}{params:Arguments}{scope:Scope}{dV kV doc pm cdv ct oc:vL}{an od:Ot Ad}{osl:Array (Ot vL)}{p1 p2 p3 p4:Pos}(c:XCls K C fI f)(lk:K.lookup fI=some ⟨oc,od,.func (PySem.W.fnOf name qual params [.Assign [.Attribute (.Name a0 p1) f p2] (.Name a1 p3) p4] scope dV kV doc pm an cdv ct),osl⟩)(hcd:PySem.W.codeIn K cdv qual=true)(S:FnScope [a0,a1] [a0,a1] scope)(v0:Vis scope a0)(v1:Vis scope a1)(d0:(a0==("__debug__":Str))=false)(d1:(a1==("__debug__":Str))=false)(g0:(a0==("__classdict__":Str))=false)(g1:(a1==("__classdict__":Str))=false) :
  FnOk P w K mg base CX (k+1) fI (PySem.W.fnOf name qual params [.Assign [.Attribute (.Name a0 p1) f p2] (.Name a1 p3) p4] scope dV kV doc pm an cdv ct) [a0,a1] (spI C f):=by
 refine fn_of lk hcd S (fun vs H Q E ⟨e,y,h,_⟩=>by rw[h];rfl) fun A outer s H vs Q E hr ⟨e,y,h,n,q⟩=>?_
 subst h;refine⟨_,pss_cons (ps_x c (pe_var (i:=0) rfl v0 d0 g0) (pe_var (i:=1) rfl v1 d1 g1) (by rfl)) pss_nil,?_⟩
 exact⟨y,rfl,.ref e,rfl,e,rfl,n,fun dx h1 h2=>q dx h1 h2⟩
theorem xInit_upd{oo:HO}:xInit (upd H e oo) C e dx f y=xInit H C e dx f y:=by
 funext b
 unfold xInit upd;by_cases z:b=e
 ·simp[z]
 ·simp[z]
end
section
variable {X:Cx}{pQ:Li (Ad×Obj)}{σ:St}{H:Hp}{s:sH7}{e C fI:Ad}{f:Str}{y:V}{u:vL}{A:Around}{E:vL->sH7->Prop}{pos p rpos:Pos}{x:Str}{CX:CXT}{k:Nat}{fd:FuncData}{ps:Li Str}{E' E1:XK}{t:TA}{arg:Expr}
theorem run_xmake{Q:VK}(c:XCls X.K C fI f)(F:FnOk X.prog X.w X.K X.mg X.base CX k fI fd ps (spI C f))(hr:Room (k+1) X.A)(hb:Binds X.K fd ps [])(hx:Passes CX X E')(I:Inv X pQ σ H s)(ry:RelV y u)(h:∀ e dx,X.s₀.heap.objs.size<=e->H e=none->H dx=none->dx≠e->Q (.ref e) (xInit H C e dx f y)):wpAny (model X.prog X.w) X.A (call (.ref C) [u]) (EP X pQ σ Q) X.xe s:=by
 obtain⟨nm,q,N,bs,bm,sn,sub,ab,col,dd,k0,k1,k2,k3,k5,newId,B,initId,bmB,owner,lk,T,FB,SF⟩:=c.cl;obtain⟨oI,lI,cI⟩:=c.fn;obtain⟨hp,g,d,tk,os⟩:=s;refine call_x FB T (I.kIn _ _ lk) (PySem.W.looks_findIn I.kIn c.ini) (I.kIn _ _ lI) cI (show 1<=sizeLine by decide) fun h' e hz hm=>?_
 obtain⟨ta,te,_,_⟩:=hm.there;have I2:Inv X pQ σ (upd H e (.ext (f0 C e #[.ref ta,.none,.none,.none,.bool false,.none]))) ⟨h',g,d,tk,os⟩:=I.laid (t':=tk) hm.keeps hz (f0_ok te);have hn:H e=none:=I.hok.fresh hz;have hq:spI C f [.ref e,y] (upd H e (.ext (f0 C e #[.ref ta,.none,.none,.none,.bool false,.none]))) (fun v H2=>v=.non/\Q (.ref e) H2) E':=
  ⟨e,y,rfl,⟨_,rfl,rfl,upd_same⟩,fun dx h1 h2=>⟨rfl,by rw[xInit_upd];exact h e dx (aH I.sz hz) hn (by rw[upd_ne h2]at h1;exact h1) h2⟩⟩
 have r2:Vals [V.ref e,y] [Value.ref e,u]:=.cons rfl (.cons ry .nil);have hl:([Value.ref e,u]++[]).length=ps.length:=by
  have:=F.len _ _ _ _ hq;exact this
 refine wpAny_call (codeAny_mono (F.run _ X.stack _ _ ⟨[Value.ref e,u],[]⟩ [Value.ref e,u] _ _ E' (hr.make C [u] []) (I2.env0.make C [u] []) (hb _ [Value.ref e,u] I2.kIn hl) r2 hq) fun r s' hq'=>?_)
 cases r with
 |error e=>exact hx pQ σ _ _ e s' I2 hq'
 |ok fl=>
  cases fl with
  |ret u=>
   obtain⟨v,H',I3,rv,ev,q3⟩:=I2.after hq';subst ev;exact⟨rv,⟨V.ref e,H',I3,rfl,q3⟩⟩
  |next=>exact False.elim hq'
  |brk=>exact False.elim hq'
  |cont=>exact False.elim hq'
noncomputable def xSeen(H:Hp)(C e dx:Ad)(f:Str)(y:V):Hp:=upd (upd H dx (.xd [(f,y)])) e (.ext (fX C e dx))
noncomputable def tRaise(C:Ad)(f:Str)(E:XK)(t:TA):TS:=fun _ σ H=>t σ H fun vs H1=>∃ y,vs=[y]/\∀ e dx,H1 e=none->H1 dx=none->dx≠e->E (.ref C) (some dx) (xSeen H1 C e dx f y)
theorem ps_raise(c:XCls X.K C fI f)(F:FnOk X.prog X.w X.K X.mg X.base CX k fI fd ps (spI C f))(hr:Room (k+1) X.A)(hcl:X.calm=true)(hb:Binds X.K fd ps [])(hx:Passes CX X E')(hg:Gl X x)(hm:X.mg x=some (.ref C))(ha:PA X [arg] t)(hxe:∀ pQ σ e s',XS X pQ σ E1 e s'->X.xe e s')(hdb:(x==("__debug__":Str))=false:=by decide)(he:starEach [arg] X.env=(false,eval arg X.env) :: starEach [] X.env:=by rfl):PS X (.Raise (some (.Call (.Name x p) [arg] [] pos)) none rpos) (tRaise C f E1 t):=by
 intro pQ s σ H D I h;have hh:=I.ok.hd hcl;obtain⟨nm,q,N,bs,bm,sn,sub,ab,col,dd,k0,k1,k2,k3,k5,newId,B,initId,bmB,owner,lk,T,FB,SF⟩:=c.cl;rw[arm_exec_Raise];refine aA (wpAny_standAt ?_);refine raise_x (nm:=nm) (q:=q) (C:=C) (N:=N) (bs:=bs) (bm:=bm) (hdct:=true) (sn:=sn) (sub:=sub) (ab:=ab) (col:=col) (dd:=dd) (k0:=k0) (k1:=k1) (k2:=k2) (k3:=k3) (k5:=k5) (newId:=newId) (tail_has T FB.hasBase) hh (aA ?_)
 have ev:wpAny (model X.prog X.w) X.A (eval (.Call (.Name x p) [arg] [] pos) X.env) (EP X pQ σ fun v H'=>∃ e dx y H1,v=.ref e/\X.s₀.heap.objs.size<=e/\H1 e=none/\H1 dx=none/\dx≠e/\H'=xInit H1 C e dx f y/\E1 (.ref C) (some dx) (xSeen H1 C e dx f y)) X.xe s:=by
  refine wpAny_Call_Name_kw (ld_glob I hg hm ?_ hdb);refine PySem.W.callWith_K (h₀:=X.base) I.ok.mod.kin c.kp (thn (ha pos pQ s σ H _ I h) fun us s1 ⟨vs,H1,I1,r,y,ey,q⟩=>⟨I1.kIn,?_⟩) he rfl
  subst ey;obtain⟨u,rfl,ru⟩:=Vals.one r;exact run_xmake c F hr hb hx I1 ru fun e dx h0 h1 h2 h3=>⟨e,dx,y,H1,rfl,h0,h1,h2,h3,rfl,q e dx h1 h2 h3⟩
 refine thn ev fun v s1 ⟨w,H',I1,rw',e,dx,y,H1,ev,h0,h1,h2,h3,eH,q⟩=>aA (wpAny_standAt (aD ?_))
 subst ev;obtain rfl:v=Value.ref e:=rw';have he':H' e=some (.ext (f1 C e dx)):=by rw[eH];exact upd_same
 have xo:Xo s1.heap e C dx none:=(show ObjOk X.prog X.w H' s1.heap e (.ext (f1 C e dx)) from I1.hok e _ he').1;obtain⟨sl,vs,q1,q2,q3⟩:=xo.ob;refine⟨e,_,vs,rfl,I1.kIn _ _ lk,q1,rfl,rfl,q3,hxe pQ σ _ s1 ⟨e,C,dx,none,xSeen H1 C e dx f y,rfl,?_,⟨xo,upd_same,h0,fun _ z=>nomatch z⟩,q⟩⟩
 have ex:xSeen H1 C e dx f y=upd H' e (.ext (fX C e dx)):=by
  rw[eH];unfold xSeen xInit;rw[upd_upd]
 rw[ex];obtain⟨hp,g,d,tk,os⟩:=s1;exact I1.write (x:=e) (e:=e) (h':=hp) (t':=tk) (by rw[he'];exact True.intro) (.inl rfl) (fun b o _ z=>z) ⟨_,q1⟩ (fX_ok xo.f)
end
section
variable {X:Cx}{pQ:Li (Ad×Obj)}{σ:St}{H H':Hp}{s s':sH7}{ea C dx:Ad}{t:Ot Ad}{h h2 h3:Heap}{fs:Li Ad}{n x:Str}{i:Nat}{M:Model}{A:Around}{E:vL->sH7->Prop}
theorem un_kx(u:Un fs [] H H' h h2)(k:Kx fs ea t h2 h3)(z1:h.objs.size<=ea)(z2:∀ a,t=some a->h.objs.size<=a):Un fs [] H H' h h3:=by
 have far:∀ b o,h.get? b=some o->b≠ea/\∀ a,t=some a->b≠a:=fun b o hb=>by
  have:=aI hb;exact⟨fun z=>absurd (aQ this z1) (z ▸ bM _),fun a ha z=>absurd (aQ this (z2 a ha)) (z ▸ bM _)⟩
 refine⟨fun b o hb hn hf _=>?_,fun b o hb hn hf _=>?_,u.free,fun b o hb _=>?_,u.tups,u.frzs,u.tbls⟩
 ·obtain⟨f1,f2⟩:=far b o hb
  exact(k b o (u.keep b o hb hn hf (by simp)) f1 f2).1 hf
 ·obtain⟨f1,f2⟩:=far b o hb
  obtain⟨sl,e1⟩:=u.slot b o hb hn hf (by simp)
  obtain⟨sl',e2⟩:=(k b _ e1 f1 f2).2;exact⟨sl',e2⟩
 ·obtain⟨f1,f2⟩:=far b o hb
  obtain⟨o',e1⟩:=u.there b o hb (by simp)
  obtain⟨sl',e2⟩:=(k b _ e1 f1 f2).2;exact⟨_,e2⟩
theorem hok_kx{P:Program}(ok:HOk P w H' h2)(he:H' ea=some (.ext (fX C ea dx)))(x:fX C ea dx h3)(k:Kx fs ea t h2 h3)(n2:∀ a,t=some a->H' a=none)(n3:∀ b∈fs,H' b=none):HOk P w H' h3:=
 hok_x ok he x fun b o u hb hu hg=>(k b o hg hb fun a ha z=>by rw[z,n2 a ha]at hu;cases hu).1 fun z=>by rw[n3 b z]at hu;cases hu
theorem flight_x{a:Ad}{Q:Unit->sH7->Prop}(x:Xo s.heap ea C dx (some a))(q:∀ h',Xo h' ea C dx (some a)->Kx [] ea (some a) s.heap h'->Q () { s with heap:=h' }):wpAny M A (setFlight (.ref ea) none) Q E s:=by
 obtain⟨sl,vs,e1,e2,e3⟩:=x.ob;obtain⟨ne,o,ts,e4,e5,e6,e7⟩:=x.tb a rfl;refine wpAny_setFlight_none e1 rfl e3 e4 e5 e6 (q _ ⟨⟨sl,vs,(Heap.get?_update_other _ _ ne).trans e1,e2,e3⟩,fun b hb=>?_⟩ fun b o' hb he ht=>?_)
 ·cases hb
  exact⟨ne,_,_,upd_fld e4 e5,rfl,by simp;exact e6,by rw[dZ];simp[e6]⟩
 ·have:=(Heap.get?_update_other s.heap (Obj.mapFields fun x=>x.setIfInBounds 3 .none) (Ne.symm (ht a rfl))).trans hb
  exact⟨fun _=>this,o'.slots,this⟩
noncomputable def Xm(X:Cx)(e:vL):Cx:={ X with A:=X.A.mark (some e),calm:=false }
theorem Inv.marked{e:vL}(I:Inv X pQ σ H s):Inv (Xm X e) pQ σ H s:=
 ⟨⟨I.ok.mod,I.ok.kind,I.ok.glob,I.ok.blt,I.ok.above,I.ok.inj,I.ok.has,I.ok.cab,fun z=>(nomatch z),I.ok.frames,I.ok.stk,I.ok.exf,I.ok.bs,I.ok.bsz,I.ok.noex,I.ok.exfs,I.ok.funs,I.ok.frf⟩,I.os,I.bare,I.base,I.loc,I.cell,I.free,I.freeC,I.pin,I.hok,I.len⟩
theorem Inv.unmarked{e:vL}(o:X.Ok)(I:Inv (Xm X e) pQ σ H s):Inv X pQ σ H s:=
 ⟨o,I.os,I.bare,I.base,I.loc,I.cell,I.free,I.freeC,I.pin,I.hok,I.len⟩
theorem del_ok{Q:Unit->sH7->Prop}(I:Inv X pQ σ H s)(hN:X.N.Nodup)(hi:X.N[i]?=some x)(hk:X.env.scope.names.lookup x=some .local){v:V}(hσ:σ[i]?=some (some v))(q:∀ s',Inv X pQ (σ.set i none) H s'->Q () s'):wpAny M A (unbindName X.env x) Q E s:=by
 obtain⟨m,hn,hl⟩:=id I.loc;have hcls:(X.env.scope.kind==.class||(X.env.scope.kind==.module&&X.env.locals != X.env.globals))=false:=by rw[I.ok.kind];rfl
 have hiσ:i < σ.length:=by rw[I.len];exact(bN.mp hi).1
 obtain⟨u,ru,lo⟩:=hl i x v hi hσ (.inl hk);have mx:m x=some u:=by
  rcases lo with⟨_,q⟩|⟨q,_⟩
  ·exact q
  ·have e:X.env.kindOf x=some .local:=hk
   rcases q with q|q<;>(rw[e]at q;cases q)
 obtain⟨oL,_,_,hoL,_⟩:=id hn;refine wpAny_unbindName_local hk hn mx hcls fun h' w hn' hs=>q _ ?_
 have tracked:HOk X.prog X.w H h':=fun b ob e=>by
  refine(I.hok b ob e).stay (fun c w' hc q=>(hs.2 c ?_).trans q) (fun _ q=>q) fun _ _ q=>q
  rintro rfl
  have hf:=I.free;rcases hc with hc|hc
  ·rw[<-hc,hf]at e;cases e
  ·rw[hf]at hc;cases hc
 refine⟨I.ok,I.os,I.bare,⟨fun b o e n hb hx=>?_,fun b o e n hb hx=>?_,I.base.free,fun b o e hx=>?_,I.base.tups,I.base.frzs,I.base.tbls⟩,⟨_,hn',fun j y v' e1 e2 e3=>?_⟩,fun y c e=>?_,I.free,I.freeC,fun p hp=>?_,tracked,by simpa using I.len⟩
 ·exact(hs.2 b (aZ (aQ (aI e) I.ok.above))).trans (I.base.keep b o e n hb hx)
 ·obtain⟨sl,e1⟩:=I.base.slot b o e n hb hx
  exact⟨sl,(hs.2 b (aZ (aQ (aI e) I.ok.above))).trans e1⟩
 ·obtain⟨o',e1⟩:=I.base.there b o e hx
  exact⟨o',(hs.2 b (aZ (aQ (aI e) I.ok.above))).trans e1⟩
 ·by_cases hj:j=i
  ·subst hj
   rw[cG hiσ]at e2;cases e2
  ·rw[cH (Ne.symm hj)]at e2
   obtain⟨u',r',lk⟩:=hl j y v' e1 e2 e3;refine⟨u',r',?_⟩;rcases lk with⟨k1,k2⟩|⟨k1,c,k2,k3⟩
   ·refine .inl ⟨k1,?_⟩
    show(if y=x then w else m y)=some u'
    have ny:y≠x:=fun e=>hj (nodup_ix hN e1 (e ▸ hi))
    rw[if_neg ny];exact k2
   ·exact .inr ⟨k1,c,k2,by
     obtain⟨o,p1,p2⟩:=k3;exact⟨o,(hs.2 c (I.cne y c k2)).trans p1,p2⟩⟩
 ·obtain⟨w',o,p1,p2⟩:=I.cell y c e
  exact⟨w',o,(hs.2 c (I.cne y c e)).trans p1,p2⟩
 ·obtain⟨p1,p2,p3,p4⟩:=I.pin p hp
  exact⟨(hs.2 p.1 p3).trans p1,p2,p3,p4⟩
end
section
variable {X:Cx}{es:Li Expr}{t:TA}
theorem PA.nox(h:PA X.nox es t):PA X es t:=fun p pQ s σ H Q I hw=>
 bD (h p pQ s σ H Q (I.wish _) hw) (fun _ _ ⟨v,H',I',r,q⟩=>⟨v,H',I'.unwish,r,q⟩) fun _ _ z=>False.elim z
end
section
variable {X:Cx}{pQ:Li (Ad×Obj)}{σ:St}{H:Hp}{s:sH7}{fb C0 Ch:Ad}{g hx n:Str}{a:Expr}{as:Li Expr}{t:TA}{k ni:Nat}{fd:FuncData}{ps:Li Str}{sp:Sp}{ds:Li vL}{dvs:Li V}{gp cp ep hp hq pos:Pos}{b0:Stmt}{suite:Li Stmt}{ts:TS}
noncomputable def tTry(ni:Nat)(C0:Ad)(sp:Sp)(dvs:Li V)(t:TA)(ts:TS):TS:=fun D σ H=>t σ H fun vs H1=>∃ E1:XK,sp (vs++dvs) H1 (fun _ _=>False) E1/\∀ e C dx H',H' e=some (.ext (fX C e dx))->E1 (.ref C) (some dx) H'->C=C0/\ts { nx:=fun σ2 H2=>D.nx (σ2.set ni none) H2,rt:=fun _ _=>False } (σ.set ni (some (.ref e))) H'
theorem ps_try(hst:X.stack=X.env :: X.outer/\X.env.frame=some X.env.locals)(hN:X.N.Nodup)(F:FnOk X.prog X.w X.K X.mg X.base (CX1 X.prog X.w) k fb fd ps sp)(hr:Room k X.A)(hg:Gl X g)(hm:X.mg g=some (.ref fb))(hk:PySem.W.keepIn X.K (.ref fb)=true)(hb:Binds X.K fd ps ds)(hd:Vals dvs ds)(ha:PA X.nox (a :: as) t)(hgx:Gl X hx)(hmx:X.mg hx=some (.ref Ch))(hmt:PySem.W.exmOne X.K (.ref C0) (.ref Ch)=some true)(hni:X.N[ni]?=some n)(hnl:X.env.scope.names.lookup n=some .local)(hs:∀ e,PSs (Xm X e).nox (b0 :: suite) ts)(d1:(g==("__debug__":Str))=false:=by decide)(d2:(hx==("__debug__":Str))=false:=by decide)(he:starEach (a :: as) X.env=(false,eval a X.env) :: starEach as X.env:=by rfl)(hpl:(backTo cp (starEach as X.env)).any (·.1)=false:=by rfl) :
  PS X (.Try [.Expr (.Call (.Name g gp) (a :: as) [] cp) ep] [.ExceptHandler (some (.Name hx hp)) (some n) (b0 :: suite) hq] [] [] pos) (tTry ni C0 sp dvs t ts):=by
 intro pQ s σ H D I h;refine wpAny_Try_except ?_;generalize hEb:(fun(e:vL) (s₁:sH7)=>wpAny (model X.prog X.w) X.A (noteFrame e X.env) (fun _ s₂=>wpAny (model X.prog X.w) X.A (setFlight e none) (fun _ s₃=>wpAny (model X.prog X.w) X.A (handleBy e X.env [.ExceptHandler (some (.Name hx hp)) (some n) (b0 :: suite) hq]) (SP X pQ D) X.xe s₃) X.xe s₂) X.xe s₁)=Eb
 have ev:wpAny (model X.prog X.w) X.A (eval (.Call (.Name g gp) (a :: as) [] cp) X.env) (fun _ _=>False) Eb s:=by
  refine wpAny_Call_Name_kw (ld_glob (X:=X.wish Eb) (I.wish Eb) hg hm ?_ d1);refine PySem.W.callWith_K (h₀:=X.base) I.ok.mod.kin hk (thn ((PA.nox (X:=X.wish Eb) ha) cp pQ s σ H _ (I.wish Eb) h) fun us s1 ⟨vs,H1,I1,r,E1,hsp,hh⟩=>⟨I1.kIn,?_⟩) he hpl
  have I1:=I1.unwish;have r2:Vals (vs++dvs) (us++ds):=r.append hd;have hl:(us++ds).length=ps.length:=by rw[<-r2.length];exact F.len _ _ _ _ hsp
  refine wpAny_call (codeAny_mono (F.run X.A X.stack s1 H1 ⟨us,[]⟩ (us++ds) (vs++dvs) _ E1 hr I1.env0 (hb s1 us I1.kIn hl) r2 hsp) fun r s' hq'=>?_)
  cases r with
  |ok fl=>
   cases fl with
   |ret u=>obtain⟨_,_,_,_,_,_,_,z⟩:=hq';exact z.elim
   |next=>exact False.elim hq'
   |brk=>exact False.elim hq'
   |cont=>exact False.elim hq'
  |error e=>
   obtain⟨ea,C,dx,tb,H',rfl,⟨os,ba,un,ok⟩,⟨x,n1,z1,tt⟩,q⟩:=hq';obtain⟨rfl,hts⟩:=hh ea C dx H' n1 q;have I2:Inv X pQ σ H' s':=I1.call' os un ok ba (fun _ z=>absurd z (by simp))
   rw[<-hEb];refine note_x (base:=X.base) (outer:=X.outer) (L:=X.env.locals) (I1.ok.frames.trans (by rw[hst.1])) (hst.1 ▸ I2.stack) hst.2 x fun h3 b3 z3 x3 k3=>?_
   rw[<-hst.1]at k3;have un3:=un_kx un k3 z1 fun a ha=>(tt a ha).2
   have ok3:HOk X.prog X.w H' h3:=hok_kx ok n1 x3.f k3 (fun a ha=>(tt a ha).1) I2.stkFree
   have z3':s1.heap.objs.size<=b3:=by
    obtain⟨_,_,q1,_⟩:=x.ob;exact aH (aH z1 (Nat.le_of_lt (aI q1))) z3
   have nb3:H' b3=none:=I2.hok.fresh z3;have I3:Inv X pQ σ H' { s' with heap:=h3 }:=I1.call' os un3 ok3 ba (fun _ z=>absurd z (by simp))
   refine wpAny_handleBy_cons ?_ (fun z=>nomatch z)
   refine codeAny_handlers_test (ld_glob (X:=Xm X (.ref ea)) I3.marked hgx hmx ?_ d2);have lt:PySem.W.Looks (model X.prog X.w) h3 (typeOf (.ref ea)) (.ref C):=fun A Q E s hk hq=>by
    obtain⟨sl,vs,q1,_⟩:=x3.ob;obtain⟨hp',g',d',t',o'⟩:=s;unfold typeOf;exact aA (wpAny_loadPart_at (hk _ _ q1) (aD hq))
   refine PySem.W.exm_one (show X.K.In h3 from I3.kIn) lt hmt _ _ _ _ (fun _ _ z=>z) ?_
   refine codeAny_handlers_suite_as (flight_x x3 fun h4 x4 k4=>?_)
   have k4':Kx (frs X.stack) ea (some b3) h3 h4:=fun b o hb he ht=>⟨fun _=>(k4 b o hb he ht).1 (by simp),(k4 b o hb he ht).2⟩
   have un4:=un_kx un3 k4' z1 fun a ha=>by cases ha;exact z3'
   have ok4:HOk X.prog X.w H' h4:=hok_kx ok3 n1 x4.f k4' (fun a ha=>by cases ha;exact nb3) I2.stkFree
   have I4:Inv X pQ σ H' { s' with heap:=h4 }:=I1.call' os un4 ok4 ba (fun _ z=>absurd z (by simp))
   refine store_ok I4 hN hni (.inl hnl) (v:=.ref ea) rfl (fun s5 I5=>?_) (.inr hnl)
   refine bD (hs (.ref ea) pQ s5 _ H' _ (I5.marked.wish _) hts) (fun fl s6 q6=>?_) fun _ _ z=>z.elim
   have q6:=q6.unwish;cases fl with
   |next=>
    obtain⟨σ2,H2,I6,q7⟩:=q6;have I6:Inv X pQ σ2 H2 s6:=I6.unmarked I.ok;refine aA (wpAny_bindName (store_ok I6 hN hni (.inl hnl) (v:=.non) rfl (fun s7 I7=>?_) (.inr hnl)))
    have hσ:(σ2.set ni (some V.non))[ni]?=some (some V.non):=cG (by rw[I6.len];exact(bN.mp hni).1)
    unfold unbindBehindTheSuite;refine wpAny_onRaise (del_ok I7 hN hni hnl hσ fun s8 I8=>⟨_,H2,I8,?_⟩)
    rw[List.set_set];exact q7
   |ret u=>obtain⟨_,_,_,_,_,z⟩:=q6;exact z.elim
   |brk=>obtain⟨_,_,_,z⟩:=q6;exact z.elim
   |cont=>obtain⟨_,_,_,z⟩:=q6;exact z.elim
 refine wpAny_execs_cons ?_;refine bD (wpAny_Expr_any (Q:=fun _ _=>False) (bD ev (fun _ _ z=>z.elim) fun _ _ z=>z) (I.wish Eb).quiet (by rfl)) (fun _ _ z=>z.elim) fun e s1 z=>z
end
section
variable {prog:Program}{w:World}{A:Around}{E:vL->sH7->Prop}{s:sH7}{h:Heap}{g:Array GenState}{d:Drawn}{t:Nat}{os:OsState}{nm q name:Str}{C N e:Ad}{bs bm bmB:Li vL}{hdct:Bool}{sn:Li Str}{sub:Li vL}{ab:Bool}{col:Ot Bool}{dd:Ot Ad}{k0 k1 k2 k3 k5:Ot vL}{B newId:String}{K:Fg}{ox:Obj}{od:Ot Obj}{v:vL}{tk:Tok}{fill expr:Bool}
theorem chk_ga{nameV:vL}{o:Obj}{Q:Unit->sH7->Prop}(FB:ExcAttrBase B bmB)(hC:h.get? C=some (excClassObj nm q C N bs bm hdct sn sub ab col dd k0 k1 k2 k3 k5 newId))(T:Tl bmB bm)(hx:h.get? e=some o)(hc:o.cls=.ref C)(hq:Q () ⟨h,g,d,t,os⟩):wpAny M A (checkBuiltinCall "BaseException.__getattribute__" ⟨[.ref e,nameV],[]⟩) Q E ⟨h,g,d,t,os⟩:=by
 have c1:builtinKind "BaseException.__getattribute__"=some .slot:=by decide +kernel
 have c2:splitId "BaseException.__getattribute__"=some ("BaseException", "__getattribute__"):=by decide +kernel
 have c3:(Value.ref C :: bm).contains (.type "BaseException")=true:=by rw[bW,T.has FB.hasBase];rfl
 have c4:=F.args_bexc_ga (.ref e) nameV;simp only[checkBuiltinCall,c1,c2];refine aA ?_;unfold isInstance
 repeat (first | (with_reducible refine wpAny_isSubtype_exc hC ?_;rw[c3]) | (with_reducible refine wpAny_loadPart_at hx ?_;rw[hc])|wp_step)
 exact hq
theorem gby_x{Q:vL->sH7->Prop}(KX:K.In s.heap)(J:PySem.W.InstAt s.heap e ox C od)(FB:ExcAttrBase B bmB)(hg:PySem.W.findIn K (.ref C) "__getattribute__"=some (some (.builtin "BaseException.__getattribute__")))(hn:PySem.W.findIn K (.ref C) "__getattr__"=some none)(hc:codeAny (model prog w) A (Code.call (.builtin "BaseException.__getattribute__") { pos:=[.ref e,.str name tk] }) (fun r s'=>match r with
   |.ok (.ret v)=>PySem.W.handedIn v=true/\Q v s'
   |_=>False) s):wpAny (model prog w) A (getAttrBy (.ref e) (.str name tk) fill expr) Q E s:=by
 obtain⟨hp,g,d,tt,os⟩:=s;unfold getAttrBy typeOf;refine wpAny_holding (aA (aA (wpAny_loadPart_at J.at_ (aD ?_))));rw[J.cls];refine aA (PySem.W.looks_findIn KX hg _ _ _ _ (fun _ _ z=>z) ?_)
 refine wpAny_ite_false (by rfl) ?_
 unfold getAttrByItsOwn hookBefore;refine aA (wpAny_ite_true (by rfl) (PySem.W.looks_findIn KX hn _ _ _ _ (fun _ _ z=>z) ?_))
 refine aA (wpAny_attempt (wpAny_holding ?_));unfold callGetattribute;have hx:(expr&&onTheHeap (.builtin "BaseException.__getattribute__"))=false:=by cases expr<;>rfl
 rw[hx,if_neg Bf];unfold boundAndCalled;refine aA (wpAny_of_eq (FB.ga.bind (.ref e)) (wpAny_call (codeAny_mono hc fun r s' q=>?_)))
 cases r with
 |error e=>exact q.elim
 |ok fl=>
  cases fl with
  |ret v=>exact PySem.W.handed_on q.1 q.2
  |next=>exact q.elim
  |brk=>exact q.elim
  |cont=>exact q.elim
theorem gcall_x{R:Result->sH7->Prop}{r:Builtin.ObjectAttr.Found}(KX:K.In h)(J:PySem.W.InstAt h e ox C od)(FB:ExcAttrBase B bmB)(hC:h.get? C=some (excClassObj nm q C N bs bm hdct sn sub ab col dd k0 k1 k2 k3 k5 newId))(T:Tl bmB bm)(hf:PySem.W.findObj K C od name=some r)(hr:match r with
   |.value v=>R (.ok (.ret v)) ⟨h,g,d,t,os⟩
   |.bind gg a=>wpAny (model prog w) A.in1 (call gg [a,.ref e,.ref C]) (fun v s'=>R (.ok (.ret v)) s') (fun e s'=>R (.error e) s') ⟨h,g,d,t,os⟩
   |.missing=>False):codeAny (model prog w) A (Code.call (.builtin "BaseException.__getattribute__") { pos:=[.ref e,.str name tk] }) R ⟨h,g,d,t,os⟩:=by
 refine codeAny_call_builtin FB.ga.plain F.entry_bexc_ga (chk_ga FB hC T J.at_ J.cls ?_);unfold Builtin.«object.__getattribute__» slotArgs
 refine aA (wpAny_ite_false (by rfl) (wpAny_ite_false (by rfl) (aD ?_)))
 unfold Builtin.ObjectAttr.attrName typeOf;refine aA (aD (aA (aA (wpAny_loadPart_at J.at_ (aD ?_)))));rw[J.cls];refine aA (PySem.W.looks_find KX J hf _ _ _ _ (fun _ _ z=>z) ?_)
 cases r with
 |value v=>exact aD hr
 |bind gg a=>
  unfold Builtin.ObjectAttr.bindTo;exact aA (wpAny_holding (bD hr (fun v s' z=>aD z) fun _ _ z=>z))
 |missing=>exact hr.elim
theorem gattr_x{Q:vL->sH7->Prop}(KX:K.In h)(J:PySem.W.InstAt h e ox C od)(FB:ExcAttrBase B bmB)(hC:h.get? C=some (excClassObj nm q C N bs bm hdct sn sub ab col dd k0 k1 k2 k3 k5 newId))(T:Tl bmB bm)(hg:PySem.W.findIn K (.ref C) "__getattribute__"=some (some (.builtin "BaseException.__getattribute__")))(hn:PySem.W.findIn K (.ref C) "__getattr__"=some none)(hf:PySem.W.findObj K C od name=some (.value v))(hv:PySem.W.handedIn v=true)(hq:Q v ⟨h,g,d,t+1,os⟩) :
  wpAny (model prog w) A (getAttr (.ref e) name expr) Q E ⟨h,g,d,t,os⟩:=by
 unfold getAttr mkText;exact aA (aA (wpAny_fresh' (aD (gby_x KX J FB hg hn (gcall_x KX J FB hC T hf ⟨hv,hq⟩)))))
theorem kit_x{od:Obj}(FB:ExcAttrBase B bmB)(lk:K.lookup C=some (excClassObj nm q C N bs bm hdct sn sub ab col dd k0 k1 k2 k3 k5 newId))(T:Tl bmB bm)(hg:PySem.W.findIn K (.ref C) "__getattribute__"=some (some (.builtin "BaseException.__getattribute__")))(hn:PySem.W.findIn K (.ref C) "__getattr__"=some none)(hc:PySem.W.findIn K (.ref C) "__class__"=some (some (.builtin "object.__class__")))(hs:PySem.W.specialIn K (.builtin "object.__class__") "__get__"=some (some (.builtin "getset_descriptor.__get__")))(ht:PySem.W.takesIn K (.builtin "object.__class__")=some true)(hm:PySem.W.mroIn K C (.type "object")=some true)(hd:(PySem.W.clsIn K C).isSome=true) :
  PySem.W.KitX K (.ref e) (.ref C) (fun h=>PySem.W.InstAt h e ox C (some od)) where
 ty:=fun M h KX J A Q E s hk hq=>by
  obtain⟨hp,g,d,t,os⟩:=s;unfold typeOf;refine aA (wpAny_loadPart_at (hk _ _ J.at_) (aD ?_));rw[J.cls];exact hq
 it:=fun M h KX J A Q E s hk hq=>by
  obtain⟨hp,g,d,t,os⟩:=s;unfold isType loadHead;exact aA (wpAny_loadPart_at (hk _ _ (KX _ _ lk)) (aD hq))
 ne:=fun h tp dd its n sl KX z=>by
  refine bQ.mpr fun y=>?_
  cases y;rw[KX _ _ lk]at z;exact absurd (congrArg Obj.cls (Option.some.inj z)) (by simp[excClassObj])
 ca:=fun {prog w A E Q s} KX J hq=>by
  obtain⟨hp,g,d,t,os⟩:=s;unfold getAttr? mkText getAttrBy?
  refine aA (aA (wpAny_fresh' (aD (aA (wpAny_attempt ?_)))));refine gby_x KX J FB hg hn (gcall_x KX J FB (KX _ _ lk) T (PySem.W.findObj_data hd hc hs ht) (wpAny_call (PySem.W.class_get KX J hm ⟨rfl,aD hq⟩)))
end
structure XGet(K:Fg)(C:Addr):Prop where
 cl:∃ nm q N bs bm sn sub ab col dd k0 k1 k2 k3 k5 newId B bmB,K.lookup C=some (excClassObj nm q C N bs bm true sn sub ab col dd k0 k1 k2 k3 k5 newId)/\Tl bmB bm/\ExcAttrBase B bmB
 ga:PySem.W.findIn K (.ref C) "__getattribute__"=some (some (.builtin "BaseException.__getattribute__"))
 gn:PySem.W.findIn K (.ref C) "__getattr__"=some none
 gc:PySem.W.findIn K (.ref C) "__class__"=some (some (.builtin "object.__class__"))
 gs:PySem.W.specialIn K (.builtin "object.__class__") "__get__"=some (some (.builtin "getset_descriptor.__get__"))
 gt:PySem.W.takesIn K (.builtin "object.__class__")=some true
 gm:PySem.W.mroIn K C (.type "object")=some true
 gd:PySem.W.hasDictIn K C=true
section
variable {X:Cx}{pQ:Li (Ad×Obj)}{σ:St}{H:Hp}{s:sH7}{C:Ad}{x t f:Str}{p tp pos:Pos}{i:Nat}{b:Bool}{u:vL}{v:V}
def Ex(H:Hp)(C e:Ad)(fs:Li (Str×V)):Prop:=∃ dx,H e=some (.ext (fX C e dx))/\H dx=some (.xd fs)
theorem Ex.look{e:Ad}{fs:Li (Str×V)}{P:Program}(n:Ex H C e fs)(ok:HOk P w H h):∃ (ox od:Obj) (mA:Str->Ot vL),PySem.W.InstAt h e ox C (some od)/\(∀ f,PySem.W.lookIn f od=some (mA f))/\∀ f,RelO (fs.lookup f) (mA f):=by
 obtain⟨dx,h1,h2⟩:=n;obtain⟨sl,vs,q,_⟩:=(show ObjOk P w H h e (.ext (fX C e dx)) from ok e _ h1).1;obtain⟨mA,ns,r⟩:=(show ObjOk P w H h dx (.xd fs) from ok dx _ h2);obtain⟨od,ho,hl⟩:=lookIn_ns ns;exact⟨_,od,mA,⟨q,rfl,rfl,ho⟩,hl,r⟩
theorem dict_cls(h:PySem.W.hasDictIn K C=true):(PySem.W.clsIn K C).isSome=true:=by
 unfold PySem.W.hasDictIn at h;cases q:PySem.W.clsIn K C with
 |none=>rw[q]at h;cases h
 |some c=>rfl
end
end L2


namespace Dp
open PySem
variable{α:Type}
theorem Zb{x:α}{C:Prop}(h:(none:Ot α)=some x):C:=nomatch h
noncomputable abbrev S(x:String):Str:=Str.ofString x

inductive D where
 |non|bl (b:Bool)|int (i:Int)|str (x:Str)|tup (xs:List D)|lst (id:Nat)|dct (ks:List Str) (vs:List D)|obj (i:Nat)|kt (ks:List Str)|dic (id:Nat)

noncomputable abbrev Env:=Li (Ot D)
noncomputable abbrev Yb:=Bool×Li D
noncomputable abbrev Za:=Li Yb
noncomputable abbrev Res:=Ot (D×Za)
noncomputable abbrev Fn:=Li D->Za->Res

noncomputable def o2{α β γ:Type}(f:α->β->γ):Ot α->Ot β->Ot γ
 |some x,some y=>some (f x y)
 |_,_=>none
noncomputable def og{α:Type}(p:Prop)[Decidable p](o:Ot α):Ot α:=if p then o else none
inductive Sc where
 |non|bl (b:Bool)|int (i:Int)|str (x:Str)
noncomputable def scD:D->Ot Sc
 |.non=>some .non
 |.bl b=>some (.bl b)
 |.int i=>some (.int i)
 |.str x=>some (.str x)
 |_=>none
noncomputable def Zft:Sc->Sc->Ot Bool
 |.non,.non=>some true
 |.non,.bl _=>some false
 |.non,.int _=>some false
 |.non,.str _=>some false
 |.bl _,.non=>some false
 |.bl a,.bl b=>some (a==b)
 |.bl _,.int _=>none
 |.bl _,.str _=>some false
 |.int _,.non=>some false
 |.int _,.bl _=>none
 |.int a,.int b=>some (decide (a=b))
 |.int _,.str _=>some false
 |.str _,.non=>some false
 |.str _,.bl _=>some false
 |.str _,.int _=>some false
 |.str a,.str b=>some (decide (a=b))
noncomputable def eqD(x y:D):Ot Bool:=(o2 Zft (scD x) (scD y)).join
inductive Ty where
 |int|bool|str|tuple
 deriving DecidableEq

set_option genInjectivity false in
inductive CE where
 |var (i:Nat)|cst (d:D)
 |bin (op:Operator) (a b:CE)|neg (a:CE)
 |cmp (op:CmpOp) (a b:CE)
 |not (a:CE)|and (a b:CE)|or (a b:CE)|ife (c a b:CE)
 |tupE (a:CE)|lstE (a:CE)|aN|aC (a r:CE)
 |ix (a b:CE)|slice (a lo hi:CE)|nop|part (a:CE)
 |call (f:Nat) (args:CE) (ds:List D)
 |len (a:CE)|tOf (a:CE)|listOf (a:CE)|intOf (a:CE)|min (a b:CE)|max (a b:CE)|isi (T:Ty) (a:CE)
 |comp (rng:Bool) (fr:List Nat) (it elt YC:CE)|comp2 (fr:List Nat) (it elt YC:CE)|compT (fr:List Nat) (it elt YC:CE)|lstR (a b:CE)|new (i:Nat)|meth (tab:List (Nat×Nat)) (o a:CE)|isc (l:List Nat) (a:CE)|tix (o a:CE)
 |rs (k:Bool) (a:CE)
 |inv (a:CE)|tupR (a:CE)|look (ks:List Str) (ds:List D) (a:CE)|dget (a k d:CE)|all (a:CE)|any (a:CE)|inR (ng:Bool) (a b:CE)
 |dict (ks:List Str) (a:CE)|dnew|strOf (a:CE)|joinE (a b:CE)|starts (a b:CE)|rng2 (a b:CE)|srt (a:CE)

set_option genInjectivity false in
inductive CS where
 |skip|seq (a b:CS)|ret (e:CE)|set (i:Nat) (e:CE)|app (i:Nat) (e:CE)|ext (i:Nat) (e:CE)|put (i:Nat) (k e:CE)
 |ite (c:CE) (a b:CS)|for1 (i:Nat) (rng:Bool) (it:CE) (b:CS)|for3 (i:Nat) (it:CE) (b:CS)|forP (i j:Nat) (it:CE) (b:CS)|forE (i j:Nat) (it:CE) (b:CS)|set2 (i j:Nat) (e:CE)|for4 (i j l:Nat) (it:CE) (b:CS)|for2 (i j:Nat) (it:CE) (b:CS)|whl (c:CE) (b:CS)|brk|cont|stop|set3 (i j l:Nat) (e:CE)|act (e:CE)|dput (i:Nat) (a b e:CE)|app2 (o e:CE)

noncomputable def Yo(i:Int):Bool:=decide (-(2 ^ 64) < i)&&decide (i < 2 ^ 64)
noncomputable def Zc:Nat:=1000000

noncomputable def Zb1(op:Operator)(i j:Int):Ot Int:=
 match op with
 |.Add=>some (i+j)
 |.Sub=>some (i - j)
 |.Mult=>if Yo i||Yo j then some (i * j) else none
 |.FloorDiv=>if 0 < j/\j < 1073741824 then some (i / j) else if j < 0/\-1073741824 < j then some (i.fdiv j) else none
 |.Mod=>if 0 < j then some (i % j) else if j < 0 then some (i.fmod j) else none
 |.Pow=>if 0<=j/\j<=1000/\Yo i=true then some (i ^ j.toNat) else none
 |_=>none
noncomputable def ZaO:Operator->Bool
 |.Add=>true
 |_=>false
noncomputable def Zdz:Operator->Bool
 |.Mult=>true
 |_=>false
noncomputable def Jf(a b:Nat)(st:Za):Res:=match st[a]?,st[b]? with
 |some (_,xs),some (_,ys)=>if xs.length+ys.length<=Zc then some (.lst st.length,st++[(true,xs++ys)]) else none
 |_,_=>none
noncomputable def ZcM(a:Nat)(j:Int)(st:Za):Res:=match st[a]? with
 |some (true,[x])=>if j<=1000/\-1000<=j then some (.lst st.length,st++[(true,List.replicate j.toNat x)]) else none
 |_=>none
noncomputable def VL(op:Operator)(x y:D)(st:Za):Res:=
 match x,y with
 |.int i,.int j=>match Zb1 op i j with
  |some k=>some (.int k,st)
  |none=>none
 |.lst a,.lst b=>if ZaO op=true then Jf a b st else none
 |.lst a,.int j=>if Zdz op=true then ZcM a j st else none
 |.str x,.str y=>if ZaO op=true/\x.length+y.length<=Zc then some (.str (x++y),st) else none
 |_,_=>none

noncomputable def Jy(x k:Str):Bool:=!(PySem.Builtin.Str.occurrences x k 0 x.length 1).isEmpty
noncomputable def chS(x:Str):Li Str:=x.cps.toList.map fun c=>⟨#[c]⟩
noncomputable def WH(c:Nat):Bool:=decide (48<=c)&&decide (c<=57)
noncomputable def dgV(l:Li Nat):Nat:=l.foldl (fun a c=>a * 10+(c - 48)) 0
noncomputable def V6(l:Li Nat):Bool:=!l.isEmpty&&l.all WH&&decide (l.length<=600)
noncomputable def WG(x:Str):Ot Int:=match x.cps.toList with
 |45 :: r=>if V6 r=true then some (-(dgV r:Int)) else none
 |l=>if V6 l=true then some (dgV l:Int) else none
noncomputable def stW(x y:Str):Bool:=x.cps.toList.take y.cps.toList.length==y.cps.toList
noncomputable def Xe:Li Str->Li Nat
 |[]=>[]
 |x :: r=>x.cps.toList++Xe r
noncomputable def Zu(s:Str):Li Str->Li Nat
 |[]=>[]
 |x :: r=>(s.cps.toList++x.cps.toList)++Zu s r
noncomputable def ZL(s:Str):Li Str->Li Nat
 |[]=>[]
 |x :: r=>x.cps.toList++Zu s r
noncomputable def XY:Li D->Ot (Li Str)
 |[]=>some []
 |.str x :: r=>(XY r).map (x :: ·)
 |_=>none

noncomputable def Zei(xs ys:Li D):Ot Bool:=if (xs.isEmpty||ys.isEmpty)=true then some (xs.isEmpty&&ys.isEmpty) else none
noncomputable def Xf(f:D->D->Bool):Li D->Li D->Bool
 |[],[]=>true
 |x :: xs,y :: ys=>f x y&&Xf f xs ys
 |_,_=>false
noncomputable def dEq(st:Za):Nat->D->D->Bool
 |_,.str x,.str y=>decide (x=y)
 |_,.bl x,.bl y=>decide (x=y)
 |_,.int x,.int y=>decide (x=y)
 |n+1,.tup a,.tup b=>Xf (dEq st n) a b
 |n+1,.lst a,.lst b=>(match st[a]? with
  |some c=>(match st[b]? with
   |some d=>Xf (dEq st n) c.2 d.2
   |none=>false)
  |none=>false)
 |_,_,_=>false
noncomputable def Zfu(st:Za)(xs:Li D):D->Ot Bool
 |.tup ys=>if dEq st 8 (.tup xs) (.tup ys)=true then some true else none
 |_=>none
noncomputable def Zcb(st:Za)(a:Nat):D->Ot Bool
 |.lst b=>(match (o2 (fun(c d:Yb)=>Zei c.2 d.2) st[a]? st[b]?).join with
  |some k=>some k
  |none=>if dEq st 8 (.lst a) (.lst b)=true then some true else none)
 |_=>none
noncomputable def eqS(st:Za)(x y:D):Ot Bool:=match x with
 |.lst a=>Zcb st a y
 |.tup xs=>Zfu st xs y
 |x=>eqD x y

noncomputable def Z6:Str->Li D->Ot Bool
 |_,[]=>some false
 |k,.str i :: r=>(Z6 k r).map fun b=>decide (i=k)||b
 |_,_=>none

noncomputable def isK(k:Str):D->Bool
 |.tup [.str x,_]=>decide (x=k)
 |_=>false
noncomputable def Zf8:D->Ot D
 |.tup [_,v]=>some v
 |_=>none
noncomputable def Yd(xs:Li D)(k:Str):Ot D:=(xs.find? (isK k)).bind Zf8
noncomputable def UM:Li D->Bool
 |.int _ :: _=>true
 |_=>false
noncomputable def dAt(k:Str)(a:Nat)(st:Za):Ot (Ot D):=match st[a]? with
 |some (_,xs)=>if UM xs=true then none else some (Yd xs k)
 |none=>none
noncomputable def Y2:Li Str->Li D->Str->Ot D
 |k :: ks,v :: vs,x=>if k=x then some v else Y2 ks vs x
 |_,_,_=>none
noncomputable def Zbg(f:Int->Int->Bool):D->D->Ot Bool
 |.int i,.int j=>some (f i j)
 |_,_=>none
noncomputable def ltD(x y:D):Ot Bool:=Zbg (fun i j=>decide (i < j)) x y
noncomputable def ltS(_:Za)(x y:D):Ot Bool:=ltD x y
noncomputable def inS(st:Za)(x y:D):Ot Bool:=match x,y with
 |.str k,.lst a=>match st[a]? with
  |some (_,xs)=>Z6 k xs
  |none=>none
 |.str k,.tup xs=>Z6 k xs
 |.str k,.dic a=>(dAt k a st).map Option.isSome
 |.str k,.kt ks=>some (ks.contains k)
 |.str k,.str x=>some (Jy x k)
 |_,_=>none
noncomputable def niS(st:Za)(x y:D):Ot Bool:=match y with
 |.dct _ _=>none
 |y=>(inS st x y).map not
noncomputable def isN:D->Ot Bool
 |.non=>some true
 |.int _=>some false
 |.str _=>some false
 |.bl _=>some false
 |.tup _=>some false
 |.lst _=>some false
 |.dct _ _=>none
 |.obj _=>none
 |.kt _=>none
 |.dic _=>none
noncomputable def isB(b:Bool):D->Ot Bool
 |.bl a=>some (a==b)
 |_=>none
noncomputable def isD(x:D):D->Ot Bool
 |.non=>isN x
 |.bl b=>isB b x
 |_=>none
noncomputable def XB(op:CmpOp)(x y:D)(st:Za):Ot Bool:=
 match op with
 |.Lt=>ltS st x y
 |.LtE=>Zbg (fun i j=>decide (i<=j)) x y
 |.Gt=>Zbg (fun i j=>decide (j < i)) x y
 |.GtE=>none
 |.Eq=>eqS st x y
 |.NotEq=>(eqS st x y).map not
 |.In=>inS st x y
 |.NotIn=>niS st x y
 |.Is=>isD x y
 |.IsNot=>(isD x y).map not

noncomputable def ixN(n:Nat)(i:Int):Ot Nat:=if 0<=i then (if i < n then some i.toNat else none) else if -(n:Int)<=i then some (i+n).toNat else none
noncomputable def atD(xs:Li D)(i:Int):Ot D:=(ixN xs.length i).bind fun j=>xs[j]?
noncomputable def ixD(x y:D)(st:Za):Ot D:=
 match x,y with
 |.tup xs,.int i=>atD xs i
 |.lst a,.int i=>match st[a]? with
  |some (_,xs)=>atD xs i
  |none=>none
 |.dic a,.str k=>(dAt k a st).join
 |.str x,.int i=>if x.length<=Zc then atD ((chS x).map .str) i else none
 |_,_=>none

noncomputable def sIx(n d:Nat):Ot Int->Nat
 |none=>d
 |some i=>if i < 0 then (i+n).toNat else Nat.min i.toNat n
noncomputable def Z9(x:Str)(lo hi:Ot Int):Str:=⟨((x.cps.toList.drop (sIx x.length 0 lo)).take (sIx x.length x.length hi - sIx x.length 0 lo)).toArray⟩
noncomputable def Wc(xs:Li D)(lo hi:Ot Int):Li D:=(xs.drop (sIx xs.length 0 lo)).take (sIx xs.length xs.length hi - sIx xs.length 0 lo)
noncomputable def Yj(x:D)(lo hi:Ot Int)(st:Za):Res:=
 match x with
 |.lst a=>match st[a]? with
  |some (_,xs)=>some (.lst st.length,st++[(true,Wc xs lo hi)])
  |none=>none
 |.str x=>if x.length<=Zc then some (.str (Z9 x lo hi),st) else none
 |_=>none

noncomputable def Uc(x:D)(st:Za):Ot Int:=
 match x with
 |.tup xs=>some xs.length
 |.lst a=>match st[a]? with
  |some (_,xs)=>some xs.length
  |none=>none
 |.str x=>if x.length<=Zc then some x.length else none
 |.dic a=>match st[a]? with
  |some (_,xs)=>if UM xs=true then none else some xs.length
  |none=>none
 |_=>none

noncomputable def Zew(T:Ty):D->Ot Bool
 |.int _=>some (decide (T=.int))
 |.bl _=>some (decide (T=.int)||decide (T=.bool))
 |.str _=>some (decide (T=.str))
 |.tup _=>some (decide (T=.tuple))
 |.non=>some false
 |_=>none

noncomputable def UO(rng:Bool)(x:D):Ot (Li D):=
 match rng,x with
 |true,.int n=>if n < 2 ^ 62/\-(2 ^ 62)<=n then some ((List.range n.toNat).map fun(k:Nat)=>D.int (k:Int)) else none
 |false,.tup xs=>some xs
 |_,_=>none

noncomputable def Z7(ok:Za->Prop)(f:D->Za->Res)(c:D->Za->Res):Li D->Za->Ot (Li D×Za)
 |[],st=>open Classical in if ok st then some ([],st) else none
 |x :: xs,st=>open Classical in if ok st then (match c x st with
  |some (.bl true,st1)=>match f x st1 with
   |some (y,st2)=>match Z7 ok f c xs st2 with
    |some (ys,st3)=>some (y :: ys,st3)
    |none=>none
   |none=>none
  |some (.bl false,st1)=>Z7 ok f c xs st1
  |_=>none) else none
noncomputable def Ux(rng:Bool)(x:D)(st:Za):Ot (Li D×(Za->Prop)):=match UO rng x with
 |some xs=>some (xs,fun _=>True)
 |none=>match rng,x with
  |false,.lst a=>match st[a]? with
   |some c=>some (c.2,fun s=>s[a]?=some c)
   |none=>none
  |false,.str x=>if x.cps.all (fun c=>decide (c < 128))=true then some ((chS x).map .str,fun _=>True) else none
  |_,_=>none


noncomputable def Qe(xs ys:Li D):Li D:=(xs.zip ys).map fun p=>.tup [p.1,p.2]
noncomputable def W6(x:D)(st:Za):Ot (Li D×(Za->Prop)):=match x with
 |.tup [.lst a,.tup ys]=>match st[a]? with
  |some c=>some (Qe c.2 ys,fun s=>s[a]?=some c)
  |none=>none
 |_=>none


noncomputable abbrev Ev:=Env->Za->Res
noncomputable def Zm(fa:Ev)(g:D->Za->Res):Ev:=fun ρ st=>match fa ρ st with
 |some (x,st1)=>g x st1
 |none=>none
noncomputable def Zn(fa fb:Ev)(g:D->D->Za->Res):Ev:=fun ρ st=>match fa ρ st with
 |some (x,st1)=>match fb ρ st1 with
  |some (y,st2)=>g x y st2
  |none=>none
 |none=>none
noncomputable def VA(fa fb fc:Ev)(g:D->D->D->Za->Res):Ev:=fun ρ st=>match fa ρ st with
 |some (x,st1)=>match fb ρ st1 with
  |some (y,st2)=>match fc ρ st2 with
   |some (z,st3)=>g x y z st3
   |none=>none
  |none=>none
 |none=>none
noncomputable def YC(fc ft ff:Ev):Ev:=fun ρ st=>match fc ρ st with
 |some (.bl true,st1)=>ft ρ st1
 |some (.bl false,st1)=>ff ρ st1
 |_=>none
noncomputable def ZA(i:Nat):Ev:=fun ρ st=>match ρ[i]? with
 |some (some d)=>some (d,st)
 |_=>none
noncomputable def evC(d:D):Ev:=fun _ st=>some (d,st)
noncomputable def ZeB:D->Za->Res
 |.int i,st=>some (.int (-i),st)
 |_,_=>none
noncomputable def Za8:D->Za->Res
 |.bl k,st=>some (.bl (!k),st)
 |_,_=>none
noncomputable def ZW(op:CmpOp)(x y:D)(st:Za):Res:=match XB op x y st with
 |some k=>some (.bl k,st)
 |none=>none
noncomputable def Jv:D->Za->Res
 |.tup xs,st=>some (.lst st.length,st++[(true,xs)])
 |_,_=>none
noncomputable def Ym:D->D->Za->Res
 |x,.tup xs,st=>if xs.length < 1000 then some (.tup (x :: xs),st) else none
 |_,_,_=>none
noncomputable def ixR(x y:D)(st:Za):Res:=match ixD x y st with
 |some d=>some (d,st)
 |none=>none
noncomputable def YT:D->D->D->Za->Res
 |x,.non,.non,st=>Yj x none none st
 |x,.int i,.non,st=>Yj x (some i) none st
 |x,.non,.int j,st=>Yj x none (some j) st
 |x,.int i,.int j,st=>Yj x (some i) (some j) st
 |_,_,_,_=>none
noncomputable def Ui:D->Za->Res
 |.int i,st=>some (.int i,st)
 |_,_=>none
noncomputable def YY:Res->Res
 |some (.dct [_] _,_)=>none
 |r=>r
noncomputable def VP(g:Fn)(ds:Li D):D->Za->Res
 |.tup xs,st=>g (xs++ds) st
 |_,_=>none
noncomputable def Xd(g:Fn)(ds:Li D)(x:D)(st:Za):Res:=YY (VP g ds x st)
noncomputable def XW(F:Nat->Fn)(tab:Li (Nat×Nat))(fo fa:Ev):Ev:=fun ρ st=>match fo ρ st with
 |some (.dic a,st1)=>(match st1[a]? with
  |some (_,.int c :: _)=>(match tab.lookup c.toNat with
   |some j=>(match fa ρ st1 with
    |some (.tup xs,st2)=>F j (.dic a :: xs) st2
    |_=>none)
   |none=>none)
  |_=>none)
 |_=>none
noncomputable def ZfN(F:Nat->Fn)(tab:Li (Nat×Nat))(fo fa:Ev):Ev:=fun ρ st=>YY (XW F tab fo fa ρ st)
noncomputable def YZ(c:Nat):Li Nat->Li (Li Nat)
 |[]=>[[]]
 |x :: r=>if x=c then [] :: YZ c r else match YZ c r with
  |p :: q=>(x :: p) :: q
  |[]=>[[x]]
noncomputable def Xu(x y:Str):Li Str:=(YZ (y.cps.toList.headD 0) x.cps.toList).map fun l=>⟨l.toArray⟩
noncomputable def Ze7:D->D->Za->Res
 |.str x,.tup [.str y],st=>if y.length=1/\x.length<=Zc then some (.lst st.length,st++[(true,(Xu x y).map .str)]) else none
 |_,_,_=>none
noncomputable def ZaQ(l:Li Nat):D->Za->Res
 |.obj i,st=>some (.bl (l.contains (i % 1000)),st)
 |_,_=>none
noncomputable def ZaU:D->Za->Res
 |.obj i,st=>some (.int ((i / 1000:Nat):Int),st)
 |_,_=>none
noncomputable def Zgx(F:Nat->Fn)(l:Li Nat)(fa:Ev):Ev:=match l with
 |[i,j]=>fun _ st=>match F j [.dic st.length] (st++[(true,[.int i])]) with
  |some (.non,st')=>some (.dic st.length,st')
  |_=>none
 |[_]=>Zm fa ZaU
 |_ :: _ :: _ :: l=>Zm fa (ZaQ l)
 |[]=>fun _ _=>none
noncomputable def Zao(ks:Li Str)(d:D)(st:Za):Res:=match ks,d with
 |[f],.dic a=>(match st[a]? with
  |some (_,.int _ :: es)=>(match Yd es f with
   |some v=>some (v,st)
   |none=>none)
  |_=>none)
 |_,_=>none
noncomputable def Yw(x:D)(st:Za):Res:=match Uc x st with
 |some n=>some (.int n,st)
 |none=>none
noncomputable def VE:D->Za->Res
 |.tup xs,st=>some (.tup xs,st)
 |.lst l,st=>match st[l]? with
  |some (_,xs)=>some (.tup xs,st)
  |none=>none
 |_,_=>none
noncomputable def Zet:D->Za->Res
 |.int i,st=>some (.int i,st)
 |.bl true,st=>some (.int 1,st)
 |.bl false,st=>some (.int 0,st)
 |.str x,st=>(match WG x with
  |some i=>some (.int i,st)
  |none=>none)
 |_,_=>none
noncomputable def ZbB:D->Za->Res
 |.int i,st=>if Yo i=true then some (.str (Str.ofString (toString i)),st) else none
 |_,_=>none
noncomputable def Ua(ds:Li D)(st:Za):Res:=match XY ds with
 |some xs=>if (Xe xs).length<=Zc then some (.str ⟨(Xe xs).toArray⟩,st) else none
 |none=>none
noncomputable def V9(s:Str)(ds:Li D)(st:Za):Res:=match XY ds with
 |some xs=>if (Zu s xs).length<=Zc then some (.str ⟨(ZL s xs).toArray⟩,st) else none
 |none=>none
noncomputable def Ws:D->D->Za->Res
 |.str s,.lst a,st=>match st[a]? with
  |some (_,ds)=>if s.length=0 then Ua ds st else V9 s ds st
  |none=>none
 |_,_,_=>none
noncomputable def VD:D->D->Za->Res
 |.str x,.tup [.str y],st=>some (.bl (stW x y),st)
 |_,_,_=>none
noncomputable def Zez:D->D->Za->Res
 |.int i,.int j,st=>some (.int (if j < i then j else i),st)
 |_,_,_=>none
noncomputable def Zey:D->D->Za->Res
 |.int i,.int j,st=>some (.int (if j > i then j else i),st)
 |_,_,_=>none
noncomputable def ZaP(T:Ty)(x:D)(st:Za):Res:=match Zew T x with
 |some k=>some (.bl k,st)
 |none=>none
noncomputable def ZaX(ks:Li Str)(ds:Li D):D->Za->Res
 |.str k,st=>match Y2 ks ds k with
  |some d=>some (d,st)
  |none=>none
 |_,_=>none
noncomputable def getD:D->D->D->Za->Res
 |.dct ks vs,.str k,d,st=>some ((Y2 ks vs k).getD d,st)
 |_,_,_,_=>none
noncomputable def YI:Li D->Ot (Li Bool)
 |[]=>some []
 |.bl b :: r=>(YI r).map (b :: ·)
 |_=>none
noncomputable def WA(f:Li Bool->Bool)(x:D)(st:Za):Res:=match x with
 |.lst a=>match st[a]? with
  |some (_,xs)=>match YI xs with
   |some bs=>some (.bl (f bs),st)
   |none=>none
  |none=>none
 |_=>none

noncomputable def one(d:D):Li (Ot D):=[some d]
noncomputable def two:D->Li (Ot D)
 |.tup [a,b]=>[some a,some b]
 |_=>[]
noncomputable def Ys(b:D->Li (Ot D))(ρ:Env)(fr:Li Nat)(d:D):Env:=b d++fr.map fun i=>(ρ[i]?).join
noncomputable def WN(b:D->Li (Ot D))(w:D->Za->Ot (Li D×(Za->Prop)))(fr:Li Nat)(fi fe fc:Ev):Ev:=fun ρ st=>match fi ρ st with
 |some (x,st1)=>match w x st1 with
  |some (xs,ok)=>if xs.length<=1000 then
    match Z7 ok (fun d s=>fe (Ys b ρ fr d) s) (fun d s=>fc (Ys b ρ fr d) s) xs st1 with
    |some (ys,st2)=>some (.lst st2.length,st2++[(true,ys)])
    |none=>none
   else none
  |none=>none
 |none=>none

noncomputable def Zdu:Ev:=fun _ st=>some (.dic st.length,st++[(true,[])])
noncomputable def ev(F:Nat->Fn):CE->Ev
 |.var i=>ZA i
 |.cst d=>evC d
 |.bin op a b=>Zn (ev F a) (ev F b) (VL op)
 |.neg a=>Zm (ev F a) ZeB
 |.cmp op a b=>Zn (ev F a) (ev F b) (ZW op)
 |.not a=>Zm (ev F a) Za8
 |.and a b=>YC (ev F a) (ev F b) (evC (.bl false))
 |.or a b=>YC (ev F a) (evC (.bl true)) (ev F b)
 |.ife c a b=>YC (ev F c) (ev F a) (ev F b)
 |.tupE a=>ev F a
 |.lstE a=>Zm (ev F a) Jv
 |.aN=>evC (.tup [])
 |.aC a r=>Zn (ev F a) (ev F r) Ym
 |.ix a b=>Zn (ev F a) (ev F b) ixR
 |.slice a lo hi=>VA (ev F a) (ev F lo) (ev F hi) YT
 |.nop=>evC .non
 |.part a=>Zm (ev F a) Ui
 |.call f a ds=>Zm (ev F a) (Xd (F f) ds)
 |.len a=>Zm (ev F a) Yw
 |.tOf a=>Zm (ev F a) VE
 |.listOf _=>fun _ _=>none
 |.intOf a=>Zm (ev F a) Zet
 |.min a b=>Zn (ev F a) (ev F b) Zez
 |.max a b=>Zn (ev F a) (ev F b) Zey
 |.isi T a=>Zm (ev F a) (ZaP T)
 |.rs _ _=>fun _ _=>none
 |.inv _=>fun _ _=>none
 |.tupR _=>fun _ _=>none
 |.look ks ds a=>Zm (ev F a) (ZaX ks ds)
 |.dget _ _ _=>fun _ _=>none
 |.inR _ _ _=>fun _ _=>none
 |.all a=>Zm (ev F a) (WA fun l=>l.all id)
 |.any _=>fun _ _=>none
 |.comp rng fr it elt cnd=>WN one (Ux rng) fr (ev F it) (ev F elt) (ev F cnd)
 |.comp2 fr it elt cnd=>WN two W6 fr (ev F it) (ev F elt) (ev F cnd)
 |.compT _ _ _ _=>fun _ _=>none
 |.lstR _ _=>fun _ _=>none
 |.new _=>fun _ _=>none
 |.meth tab o a=>ZfN F tab (ev F o) (ev F a)
 |.isc l a=>Zgx F l (ev F a)
 |.tix o a=>Zn (ev F o) (ev F a) Ze7
 |.dict ks a=>Zm (ev F a) (Zao ks)
 |.dnew=>Zdu
 |.strOf a=>Zm (ev F a) ZbB
 |.joinE a b=>Zn (ev F a) (ev F b) Ws
 |.starts a b=>Zn (ev F a) (ev F b) VD
 |.rng2 _ _=>fun _ _=>none
 |.srt _=>fun _ _=>none

inductive Fl where
 |nx (ρ:Env)|rt (d:D)|bk (ρ:Env)|ct (ρ:Env)

noncomputable def Zj(ρ:Env)(i:Nat)(d:D):Env:=ρ.set i (some d)

noncomputable def Yx(body:D->Env->Za->Ot (Fl×Za)):Li D->Env->Za->Ot (Fl×Za)
 |[],ρ,st=>some (.nx ρ,st)
 |d :: ds,ρ,st=>match body d ρ st with
  |some (.nx ρ',st')=>Yx body ds ρ' st'
  |some (.ct ρ',st')=>Yx body ds ρ' st'
  |some (.bk ρ',st')=>some (.nx ρ',st')
  |some (.rt v,st')=>some (.rt v,st')
  |none=>none
noncomputable def Zv(body:D->Env->Za->Ot (Fl×Za))(a:Nat):Nat->Nat->Env->Za->Ot (Fl×Za)
 |0,i,ρ,st=>match st[a]? with
  |some (_,xs)=>if xs.length<=i then some (.nx ρ,st) else none
  |none=>none
 |n+1,i,ρ,st=>match st[a]? with
  |some (_,xs)=>match xs[i]? with
   |none=>some (.nx ρ,st)
   |some d=>match body d ρ st with
    |some (.nx ρ',st')=>Zv body a n (i+1) ρ' st'
    |some (.ct ρ',st')=>Zv body a n (i+1) ρ' st'
    |some (.bk ρ',st')=>some (.nx ρ',st')
    |some (.rt v,st')=>some (.rt v,st')
    |none=>none
  |none=>none

noncomputable abbrev Ex:=Env->Za->Ot (Fl×Za)
noncomputable def Yu(f g:Ex):Ex:=fun ρ st=>match f ρ st with
 |some (.nx ρ',st')=>g ρ' st'
 |r=>r
noncomputable def U4(f:Ev):Ex:=fun ρ st=>match f ρ st with
 |some (d,st')=>some (.rt d,st')
 |none=>none
noncomputable def YS(i:Nat)(f:Ev):Ex:=fun ρ st=>match f ρ st with
 |some (d,st')=>some (.nx (Zj ρ i d),st')
 |none=>none
noncomputable def Uq(i j:Nat)(f:Ev):Ex:=fun ρ st=>match f ρ st with
 |some (.tup [x,y],st')=>some (.nx (Zj (Zj ρ i x) j y),st')
 |_=>none
noncomputable def Ur(i j l:Nat)(f:Ev):Ex:=fun ρ st=>match f ρ st with
 |some (.tup [x,y,z],st')=>some (.nx (Zj (Zj (Zj ρ i x) j y) l z),st')
 |_=>none
noncomputable def evX(F:Nat->Fn):CE->Ev
 |.call f a ds=>Zm (ev F a) (VP (F f) ds)
 |.meth tab o a=>XW F tab (ev F o) (ev F a)
 |_=>fun _ _=>none
noncomputable def VI(f:Ev):Ex:=fun ρ st=>match f ρ st with
 |some (.dct [k] vs,st')=>some (.rt (.dct [k] vs),st')
 |some (_,st')=>some (.nx ρ,st')
 |none=>none
noncomputable def Q6(a:Nat)(d:D)(st:Za):Ot Za:=match st[a]? with
 |some (true,xs)=>if xs.length < Zc then some (st.set a (true,xs++[d])) else none
 |_=>none
noncomputable def JT(i:Nat)(f:Ev):Ex:=fun ρ st=>match ρ[i]? with
 |some (some (.lst a))=>match f ρ st with
  |some (d,st')=>match Q6 a d st' with
   |some st2=>some (.nx ρ,st2)
   |none=>none
  |none=>none
 |_=>none
noncomputable def VJ(o f:Ev):Ex:=fun ρ st=>match o ρ st with
 |some (.lst a,st1)=>match f ρ st1 with
  |some (d,st2)=>match Q6 a d st2 with
   |some st3=>some (.nx ρ,st3)
   |none=>none
  |none=>none
 |_=>none
noncomputable def WB(i:Nat)(f:Ev):Ex:=fun ρ st=>match f ρ st with
 |some (.int k,st')=>some (.rt (.dct [S "!"] [.int i,.int k]),st')
 |_=>none
noncomputable def Zbl(i:Nat)(k:CE)(f:Ev):Ex:=fun ρ st=>match k with
 |.cst (.str x)=>(match f ρ st with
  |some (d,st1)=>(match ρ[i]? with
   |some (some (.dic a))=>(match st1[a]? with
    |some (true,.int c :: es)=>if es.length < 900/\es.any (isK x)=false then some (.nx ρ,st1.set a (true,.int c :: (es++[.tup [.str x,d]]))) else none
    |_=>none)
   |_=>none)
  |none=>none)
 |_=>none
noncomputable def VV(o k f:Ev):Ex:=fun ρ st=>match f ρ st with
 |some (d,st1)=>(match o ρ st1 with
  |some (.dic a,st2)=>(match k ρ st2 with
   |some (.str x,st3)=>(match st3[a]? with
    |some (true,es)=>if UM es=false/\es.length < Zc/\es.any (isK x)=false then some (.nx ρ,st3.set a (true,es++[.tup [.str x,d]])) else none
    |_=>none)
   |_=>none)
  |_=>none)
 |none=>none
noncomputable def XI(c:Ev)(f g:Ex):Ex:=fun ρ st=>match c ρ st with
 |some (.bl true,st1)=>f ρ st1
 |some (.bl false,st1)=>g ρ st1
 |_=>none
noncomputable def Wn(i:Nat)(rng:Bool)(it:Ev)(b:Ex):Ex:=fun ρ st=>match it ρ st with
 |some (x,st1)=>(match rng with
  |true=>(match UO true x with
   |some xs=>Yx (fun d ρ s=>b (Zj ρ i d) s) xs ρ st1
   |none=>none)
  |false=>(match x with
   |.lst a=>(match st1[a]? with
    |some (_,xs)=>Zv (fun d ρ s=>b (Zj ρ i d) s) a xs.length 0 ρ st1
    |none=>none)
   |_=>none))
 |none=>none
noncomputable def ZZ(ok:Za->Prop)(body:D->D->Env->Za->Ot (Fl×Za)):Li (D×D)->Env->Za->Ot (Fl×Za)
 |[],ρ,st=>open Classical in if ok st then some (.nx ρ,st) else none
 |p :: ps,ρ,st=>open Classical in if ok st then (match body p.1 p.2 ρ st with
  |some (.nx ρ',st')=>ZZ ok body ps ρ' st'
  |some (.ct ρ',st')=>ZZ ok body ps ρ' st'
  |some (.bk ρ',st')=>some (.nx ρ',st')
  |some (.rt v,st')=>some (.rt v,st')
  |none=>none) else none
noncomputable def V0(i j:Nat)(it:Ev)(b:Ex):Ex:=fun ρ st=>match it ρ st with
 |some (.tup [.lst la,.tup ys],st1)=>match st1[la]? with
  |some ca=>ZZ (fun s=>s[la]?=some ca) (fun x y ρ s=>b (Zj (Zj ρ i x) j y) s) (ca.2.zip ys) ρ st1
  |none=>none
 |_=>none
noncomputable def XR:Nat->Li D->Li (D×D)
 |_,[]=>[]
 |k,x :: xs=>(.int (k:Int),x) :: XR (k+1) xs
noncomputable def Zf9(x:D)(st:Za):Ot (Li D×(Za->Prop)):=match x with
 |.lst a=>match st[a]? with
  |some c=>some (c.2,fun s=>s[a]?=some c)
  |none=>none
 |_=>none
noncomputable def VZ(i j:Nat)(it:Ev)(b:Ex):Ex:=fun ρ st=>match it ρ st with
 |some (x,st1)=>match Zf9 x st1 with
  |some (xs,ok)=>ZZ ok (fun x y ρ s=>b (Zj (Zj ρ i x) j y) s) (XR 1 xs) ρ st1
  |none=>none
 |none=>none
noncomputable def QN(i j:Nat)(b:Ex)(d:D)(ρ:Env)(s:Za):Ot (Fl×Za):=match d with
 |.tup [x,y]=>b (Zj (Zj ρ i x) j y) s
 |_=>none
noncomputable def VY(i j:Nat)(it:Ev)(b:Ex):Ex:=fun ρ st=>match it ρ st with
 |some (.lst a,st1)=>match st1[a]? with
  |some (_,xs)=>Zv (QN i j b) a xs.length 0 ρ st1
  |none=>none
 |_=>none

noncomputable def exNums:Li Nat:=[224,225,226,227]
noncomputable def Zhf(F:Nat->Fn)(c:CE)(b:Ex):Ex:=match c with
 |.compT l (.var n) e _=>fun ρ st=>(match evX F e ρ st with
  |some (.dct [_] [.int c,.int k],st1)=>if (0<=k/\c.toNat < 1000)/\l.contains c.toNat=true/\exNums.contains c.toNat=true then (match b (Zj ρ n (.obj (c.toNat+1000 * k.toNat))) st1 with
   |some (.nx ρ',st2)=>some (.nx (ρ'.set n none),st2)
   |_=>none) else none
  |_=>none)
 |_=>fun _ _=>none

noncomputable def ex(F:Nat->Fn):CS->Ex
 |.skip=>fun ρ st=>some (.nx ρ,st)
 |.seq a b=>Yu (ex F a) (ex F b)
 |.ret e=>U4 (ev F e)
 |.set i e=>YS i (ev F e)
 |.app i e=>JT i (ev F e)
 |.ext i e=>WB i (ev F e)
 |.put i k e=>Zbl i k (ev F e)
 |.ite c a b=>XI (ev F c) (ex F a) (ex F b)
 |.for1 i rng it b=>Wn i rng (ev F it) (ex F b)
 |.forP i j it b=>V0 i j (ev F it) (ex F b)
 |.forE i j it b=>VZ i j (ev F it) (ex F b)
 |.for3 _ _ _=>fun _ _=>none
 |.set2 i j e=>Uq i j (ev F e)
 |.for4 _ _ _ _ _=>fun _ _=>none
 |.for2 i j it b=>VY i j (ev F it) (ex F b)
 |.whl c b=>Zhf F c (ex F b)
 |.brk=>fun ρ st=>some (.bk ρ,st)
 |.cont=>fun ρ st=>some (.ct ρ,st)
 |.stop=>fun _ _=>none
 |.set3 i j l e=>Ur i j l (ev F e)
 |.act e=>VI (evX F e)
 |.dput _ a b e=>VV (ev F a) (ev F b) (ev F e)
 |.app2 o e=>VJ (ev F o) (ev F e)

structure FD where
 ps:Nat
 ns:Nat
 body:CS
noncomputable def fnD(F:Nat->Fn)(f:FD):Fn:=fun ds st=>
 if ds.length=f.ps then
  match ex F f.body (ds.map some++List.replicate (f.ns - ds.length) none) st with
  |some (.rt d,st')=>some (d,st')
  |some (.nx _,st')=>some (.non,st')
  |_=>none
 else none
noncomputable def run(T:Nat->Ot FD):Nat->Nat->Fn
 |0,_=>fun _ _=>none
 |n+1,i=>match T i with
  |some f=>fnD (run T n) f
  |none=>fun _ _=>none

inductive GV where
 |fn (i:Nat) (ps:Nat) (ds:List D)|cst (d:D)|blt|dct (ks:List Str) (ds:List D)|cls (i:Nat) (ms:List (Str×Nat×Nat)) (subs:List Nat)|exc (i:Nat) (subs:List Nat)|fnq (i:Nat)
noncomputable abbrev Gs:=Li (Str×GV)

noncomputable def CE.ofConst:Const->Ot CE
 |.none=>some (.cst .non)
 |.bool b=>some (.cst (.bl b))
 |.int i=>some (.cst (.int i))
 |.str x=>some (.cst (.str x))
 |_=>none
noncomputable def YO(sc:Scope)(x:Str):Bool:=!(x==("__debug__":Str))&&!(x==("__classdict__":Str))&&match sc.names.lookup x with
 |some .local=>true
 |some .cell=>true
 |some .free=>true
 |_=>false
noncomputable def Zq(sc:Scope)(x:Str):Bool:=!(x==("__debug__":Str))&&match sc.names.lookup x with
 |some .globalImplicit=>true
 |_=>false
noncomputable def Zf5(x:Str):Ot Ty:=
 if x = "int" then some .int else if x = "bool" then some .bool else if x = "str" then some .str else if x = "tuple" then some .tuple else none
noncomputable def ZE(sc:Scope):Li Str:=(sc.names.filter fun p=>decide (p.2=.free)).map (·.1)

noncomputable def Zd6(f:Str)(x:CE):Ot CE:=
 if f = "len" then some (.len x) else if f = "tuple" then some (.tOf x) else if f = "int" then some (.intOf x) else if f = "all" then some (.all x) else if f = "str" then some (.strOf x) else none
noncomputable def Zd7(f:Str)(x y:CE):Ot CE:=if f = "min" then some (.min x y) else if f = "max" then some (.max x y) else none
noncomputable def WT(G:Gs)(x:Str):Bool:=match G.lookup x with
 |some .blt=>true
 |_=>false
noncomputable def Zfa(G:Gs)(sc:Scope)(t:Str):Ot Ty:=if Zq sc t&&WT G t then Zf5 t else none
noncomputable def Q1(G:Gs)(sc:Scope):Expr->Ot Ty
 |.Name t _=>Zfa G sc t
 |_=>none


noncomputable def ZdF(m:Str)(k:Nat)(G:Gs)(x:Str):Ot (Nat×Nat):=match G.lookup x with
 |some (.cls i ms _)=>(match ms.lookup m with
  |some (j,ps)=>if ps=k+1 then some (i,j) else none
  |none=>none)
 |_=>none
noncomputable def Yp(m:Str)(k:Nat)(G:Gs):Li (Nat×Nat):=(G.map Prod.fst).filterMap (ZdF m k G)
noncomputable def Zds:Expr->Ot (Str×Li Expr)
 |.Call (.Name f _) as [] _=>some (f,as)
 |_=>none
noncomputable def fnA(G:Gs)(sc:Scope)(nm:Str)(e:Expr):Ot (Li Expr):=(Zds e).bind fun p=>og (p.1=nm/\Zq sc p.1=true/\WT G p.1=true) (some p.2)
noncomputable def ZfP:Li Expr->Ot Expr
 |[a]=>some a
 |_=>none
noncomputable def Yg(G:Gs)(sc:Scope)(e:Expr):Ot Expr:=(fnA G sc "range" e).bind ZfP
noncomputable def Qb(_:Gs)(_:Scope)(_:Str)(_:Expr):Ot Expr:=none
noncomputable def Ze9:Li Expr->Ot (Expr×Expr)
 |[a,b]=>some (a,b)
 |_=>none
noncomputable def UT(_:Gs)(_:Scope)(_:Str)(_:Expr):Ot (Expr×Expr):=none
noncomputable def o3{α β γ δ:Type}(f:α->β->γ->δ):Ot α->Ot β->Ot γ->Ot δ
 |some x,b,c=>o2 (f x) b c
 |none,_,_=>none
variable{γ:Type}
theorem Xa{P:γ->Prop}{f:α->γ}{a:Ot α}{c:γ}(h:a.map f=some c)(k:∀ x,a=some x->P (f x)):P c:=by
 cases a with
 |none=>exact Zb h
 |some x=>cases h;exact k x rfl
variable{β:Type}
theorem ZM{P:γ->Prop}{f:α->β->γ}{a:Ot α}{b:Ot β}{c:γ}(h:o2 f a b=some c)(k:∀ x y,a=some x->b=some y->P (f x y)):P c:=by
 cases a with
 |none=>exact Zb h
 |some x=>cases b with
  |none=>exact Zb h
  |some y=>cases h;exact k x y rfl rfl
theorem XZ{δ:Type}{P:δ->Prop}{f:α->β->γ->δ}{a:Ot α}{b:Ot β}{d:Ot γ}{c:δ}(h:o3 f a b d=some c)(k:∀ x y z,a=some x->b=some y->d=some z->P (f x y z)):P c:=by
 cases a with
 |none=>exact Zb h
 |some x=>exact ZM (P:=P) h fun y z e e'=>k x y z rfl e e'
theorem ZX{P:Prop}{p:Prop}[Decidable p]{o:Ot α}{c:α}(h:og p o=some c)(k:p->o=some c->P):P:=by
 unfold og at h;by_cases hp:p
 ·rw[if_pos hp]at h;exact k hp h
 ·rw[if_neg hp]at h;cases h
theorem j_e{P:Prop}{o:Ot (Ot α)}{c:α}(h:o.join=some c)(k:o=some (some c)->P):P:=by
 cases o with
 |none=>exact Zb h
 |some x=>cases h;exact k rfl

noncomputable def JX(G:Gs)(sc:Scope)(f:Str)(a:Expr)(r:Expr->Ot CE):Ot CE:=match Qb G sc f a with
 |some e=>(r e).map .tupR
 |none=>match UT G sc f a with
  |some (u,v)=>o2 .lstR (r u) (r v)
  |none=>((r a).map (Zd6 f)).join
noncomputable def Zfw(G:Gs)(t:Str):Ot (Li Nat):=match G.lookup t with
 |some (.exc _ l)=>some l
 |some .blt=>if t = "ValueError" then some exNums else none
 |_=>none
noncomputable def UG(G:Gs)(sc:Scope):Expr->Ot (Li Nat)
 |.Name t _=>if Zq sc t then Zfw G t else none
 |_=>none
noncomputable def ZN(G:Gs):Bool:=(G.lookup ("law":Str)).isSome
noncomputable def ZY(G:Gs):Gs:=(G.map Prod.fst).filterMap fun x=>match G.lookup x with
 |some .blt=>some (x,.blt)
 |some (.exc i l)=>some (x,.exc i l)
 |_=>none
noncomputable def JY(G:Gs)(sc:Scope)(f:Str)(a b:Expr)(r:Expr->Ot CE):Ot CE:=if f = "isinstance" then (match UG G sc b with
 |some l=>(r a).map (.isc (0 :: 0 :: 0 :: l))
 |none=>o2 (fun x T=>.isi T x) (r a) (Q1 G sc b)) else og (ZN G=true) (o2 (Zd7 f) (r a) (r b)).join
noncomputable def J1(G:Gs)(sc:Scope)(f:Str)(as:Li Expr)(cs:Ot CE)(r:Expr->Ot CE):Ot CE:=
 if Zq sc f then (match G.lookup f with
   |some (.fn i ps ds)=>og (as.length<=ps/\ps<=as.length+ds.length) (cs.map fun c=>.call i c (ds.drop (as.length+ds.length - ps)))
   |some .blt=>match as with
    |[a]=>og (ZN G=true) (JX G sc f a r)
    |[a,b]=>JY G sc f a b r
    |_=>none
   |some (.cls i ms _)=>match as with
    |[]=>(ms.lookup ("__init__":Str)).bind fun p=>og (p.2=1) (some (.isc [i,p.1] .aN))
    |_=>none
   |_=>none) else none
noncomputable def Zdo(G:Gs)(ob:Expr)(m:Str)(ap:Pos)(as:Li Expr)(cp:Pos)(cs:Ot CE)(r:Expr->Ot CE):Ot CE:=match ob with
 |.Constant _ _ _=>(match as with
  |[a]=>og (m = "join"/\(ap.endLine==cp.line)=true) (o2 .joinE (r ob) (r a))
  |_=>none)
 |.Name _ _=>og ((ap.endLine==cp.line)=true/\as.length < 20) (if m = "split" then og (as.length=1) (o2 .tix (r ob) cs) else if m = "startswith" then og (as.length=1) (o2 .starts (r ob) cs) else o2 (.meth (Yp m as.length G)) (r ob) cs)
 |_=>none
noncomputable def Zfo(G:Gs)(sc:Scope)(f:Expr)(as:Li Expr)(cp:Pos)(cs:Ot CE)(r:Expr->Ot CE):Ot CE:=match f with
 |.Name f _=>J1 G sc f as cs r
 |.Attribute ob m ap=>Zdo G ob m ap as cp cs r
 |_=>none
noncomputable def ZfG:Expr->Bool
 |.Slice ..=>true
 |_=>false
noncomputable def fldNames:Li Str:=["takes", "names", "rows", "aims"]
noncomputable def Zem(o:Expr)(f:Str)(c:Ot CE):Ot CE:=match o with
 |.Name _ _=>if f = "line" then c.map (.isc [0]) else og (fldNames.contains f=true) (c.map (.dict [f]))
 |_=>none
noncomputable def Zgn(keys:Li (Ot Expr))(vals:Li Expr):Ot CE:=match keys with
 |[]=>og (vals.length=0) (some .dnew)
 |_=>none
noncomputable def XM(_:Gs)(_:Scope)(_:Expr):Ot (Li Expr):=none
noncomputable def Xw(G:Gs)(sc:Scope)(e:Expr):Ot (Li Expr):=(fnA G sc "zip" e).bind fun as=>og (as.length=2) (some as)
noncomputable def nmE:Expr->Ot Str
 |.Name x _=>some x
 |_=>none
variable{e:Expr}
theorem Y8{x:Str}(h:nmE e=some x):∃ p,e=.Name x p:=by
 unfold nmE at h;split at h
 ·cases h;exact⟨_,rfl⟩
 ·exact Zb h
noncomputable def ZbY:Stmt->Ot (Li Expr×Expr)
 |.Assign t e _=>some (t,e)
 |_=>none
variable{s:Stmt}
theorem Qm{t:Li Expr}(h:ZbY s=some (t,e)):∃ q,s=.Assign t e q:=by
 unfold ZbY at h;split at h
 ·cases h;exact⟨_,rfl⟩
 ·exact Zb h
noncomputable def Zek:Stmt->Ot Expr
 |.Expr e _=>some e
 |_=>none
theorem Zce(h:Zek s=some e):∃ q,s=.Expr e q:=by
 unfold Zek at h;split at h
 ·cases h;exact⟨_,rfl⟩
 ·exact Zb h
noncomputable def Zb5:Expr->Ot (Expr×Li Expr×Li Keyword)
 |.Call f as ks _=>some (f,as,ks)
 |_=>none
variable{as:Li Expr}
theorem Qn{f:Expr}{ks:Li Keyword}(h:Zb5 e=some (f,as,ks)):∃ q,e=.Call f as ks q:=by
 unfold Zb5 at h;split at h
 ·cases h;exact⟨_,rfl⟩
 ·exact Zb h
noncomputable def Vx{α:Type}:Li α->Ot α
 |[a]=>some a
 |_=>none
theorem YE{l:Li α}{a:α}(h:Vx l=some a):l=[a]:=by
 unfold Vx at h;split at h
 ·cases h;rfl
 ·exact Zb h
noncomputable def Zeu:Expr->Ot Const
 |.Constant c _ _=>some c
 |_=>none
theorem Zcx{c:Const}(h:Zeu e=some c):∃ k p,e=.Constant c k p:=by
 unfold Zeu at h;split at h
 ·cases h;exact⟨_,_,rfl⟩
 ·exact Zb h
noncomputable def Zb6(e:Expr):Ot (Str×Li Expr):=(Zb5 e).bind fun q=>if q.2.2.isEmpty=true then (nmE q.1).map fun f=>(f,q.2.1) else none
theorem Vf{f:Str}(h:Zb6 e=some (f,as)):∃ p q,e=.Call (.Name f p) as [] q:=by
 obtain⟨⟨g,bs,ks⟩,h1,h⟩:=aW.mp h;dsimp only at h;split at h
 ·rename_i hk
  obtain⟨x,h2,h3⟩:=eA.mp h;cases h3;obtain⟨p,rfl⟩:=Y8 h2;obtain⟨q,rfl⟩:=Qn h1;cases ks with
  |nil=>exact⟨p,q,rfl⟩
  |cons _ _=>cases hk
 ·exact Zb h
noncomputable def ZdA:Const->Bool
 |.int i=>decide (i=1)
 |_=>false
noncomputable def Xl(G:Gs)(sc:Scope)(e:Expr):Ot Expr:=(Zb5 e).bind fun q=>(nmE q.1).bind fun f=>(Vx q.2.1).bind fun x=>(Vx q.2.2).bind fun k=>(Zeu k.value).bind fun c=>og ((ZdA c=true/\k.arg=some ("start":Str))/\f = "enumerate"/\Zq sc f=true/\WT G f=true) (some x)
noncomputable def nmL:Li Expr->Ot (Li Str)
 |[a,b]=>o2 (fun x y=>[x,y]) (nmE a) (nmE b)
 |_=>none
noncomputable def tgN:Expr->Ot (Li Str)
 |.Name x _=>some [x]
 |.Tuple es _ _=>nmL es
 |_=>none
noncomputable def mkC(r:Ot (Ot Bool))(fr:Li Nat)(ci ce cc:CE):CE:=match r with
 |some (some b)=>.comp b fr ci ce cc
 |some none=>.comp2 fr ci ce cc
 |none=>.compT fr ci ce cc
noncomputable def YR(N:Li Str):Li Str->Ot (Li Nat)
 |[]=>some []
 |x :: r=>match N.idxOf? x,YR N r with
  |some i,some is=>some (i :: is)
  |_,_=>none

noncomputable def Za0(G:Gs)(sc:Scope)(N:Li Str)(x:Str):Ot CE:=
 if YO sc x then (N.idxOf? x).map .var else if Zq sc x then (match G.lookup x with
  |some (.cst d)=>some (.cst d)
  |_=>none) else none
noncomputable def XV(G:Gs)(sc:Scope):Expr->Ot (Li Str×Li D)
 |.Name x _=>if Zq sc x then (match G.lookup x with
  |some (.dct ks ds)=>some (ks,ds)
  |_=>none) else none
 |_=>none
noncomputable def X5:Expr->Ot (Ot Expr×Ot Expr)
 |.Slice lo hi none _=>some (lo,hi)
 |_=>none
noncomputable def ZdK(_:Expr):Ot Expr:=none
noncomputable def UN:CE->Bool
 |.ix (.var _) (.cst (.int _))=>true
 |.var _=>true
 |.len (.var _)=>true
 |_=>false
noncomputable def Zgw:CE->Bool
 |.neg (.cst (.int 1))=>true
 |_=>false
noncomputable def Wr(sc:Scope)(x:Str):Bool:=match sc.names.lookup x with
 |some .cell=>true
 |some .free=>true
 |_=>false
noncomputable def YJ(sc sc2:Scope)(xs:Li Str):Bool:=
 decide (sc2.kind=.function)&&(sc2.names.all fun p=>decide (p.2≠.cell))&&(xs.all fun x=>decide (sc2.names.lookup x=some .local))&&(sc2.names.all fun p=>!decide (p.2=.local)||decide (sc2.names.lookup p.1=some .local)) &&
 decide (xs++ZE sc2).Nodup&&(ZE sc2).all (fun y=>Wr sc y&&decide (sc2.names.lookup y=some .free))
noncomputable def Zer:CmpOp->Ot Bool
 |.In=>some false
 |.NotIn=>some true
 |_=>none
noncomputable def unC(op:UnaryOp)(a:Ot CE):Ot CE:=match op with
 |.Not=>a.map .not
 |.USub=>a.map .neg
 |_=>none
noncomputable def Zfq(G:Gs)(sc:Scope)(f:Expr->Ot CE)(a:Ot CE):Li CmpOp->Li Expr->Ot CE
 |[op],[b]=>(match XV G sc b with
  |some (ks,_)=>o2 (fun _ x=>.cmp op x (.cst (.kt ks))) (Zer op) a
  |none=>o2 (.cmp op) a (f b))
 |[op,op2],[b,b2]=>(o3 (fun x y z=>og (UN y=true) (some (.and (.cmp op x y) (.cmp op2 y z)))) a (f b) (f b2)).join
 |_,_=>none
noncomputable def Zdq(f:Expr->Ot CE)(op:BoolOp)(pos:Pos):Li Expr->Ot CE
 |[]=>none
 |[a]=>f a
 |a :: b :: r=>match op with
  |.And=>o2 .and (f a) (f (.BoolOp .And (b :: r) pos))
  |.Or=>o2 .or (f a) (f (.BoolOp .Or (b :: r) pos))
noncomputable def Ze5(G:Gs)(sc:Scope)(f:Expr->Ot CE)(fo:Ot Expr->Ot CE)(a b:Expr):Ot CE:=match X5 b with
 |some (lo,hi)=>o3 .slice (f a) (fo lo) (fo hi)
 |none=>match ZdK b with
  |some s=>(o2 (fun x y=>og (Zgw y=true) (some (.rs false x))) (f a) (f s)).join
  |none=>match XV G sc a with
   |some (ks,ds)=>(f b).map (.look ks ds)
   |none=>o2 .ix (f a) (f b)
noncomputable def itC(G:Gs)(sc:Scope)(it:Expr)(f:Expr->Ot CE):Li Str->Ot (Ot (Ot Bool)×CE)
 |[_]=>(match Yg G sc it with
  |some a=>(f a).map fun c=>(some (some true),c)
  |none=>(f it).map fun c=>(some (some false),c))
 |_=>(match (fnA G sc "zip" it).bind Ze9 with
  |some p=>o2 (fun x y=>(some none,.aC x (.aC y .aN))) (f p.1) (f p.2)
  |none=>(f it).map fun c=>(none,c))
noncomputable def ifC(f:Expr->Ot CE):Li Expr->Ot CE
 |[]=>some (CE.cst (.bl true))
 |[c]=>f c
 |_=>none
noncomputable def Qq(G:Gs)(sc sc2:Scope)(N:Li Str)(f:Expr->Ot CE)(g:Li Str->Expr->Ot CE)(elt:Expr):Li Comprehension->Ot CE
 |[⟨tg,it,ifs,0⟩]=>(match tgN tg with
  |none=>none
  |some xs=>og (YJ sc sc2 xs=true) (o3 (fun fr p (q:CE×CE)=>mkC p.1 fr p.2 q.1 q.2) (YR N (ZE sc2)) (itC G sc it f xs) (o2 Prod.mk (g (xs++ZE sc2) elt) (ifC (g (xs++ZE sc2)) ifs))))
 |_=>none
mutual
noncomputable def cE(G:Gs):Nat->Scope->Li Str->Expr->Ot CE
 |0,_,_,_=>none
 |n+1,sc,N,e=>match e with
  |.Constant c _ _=>CE.ofConst c
  |.Name x _=>Za0 G sc N x
  |.BinOp a op b _=>o2 (.bin op) (cE G n sc N a) (cE G n sc N b)
  |.UnaryOp op a _=>unC op (cE G n sc N a)
  |.Compare a ops bs _=>Zfq G sc (cE G n sc N) (cE G n sc N a) ops bs
  |.BoolOp op vs pos=>Zdq (cE G n sc N) op pos vs
  |.IfExp c a b _=>o3 .ife (cE G n sc N c) (cE G n sc N a) (cE G n sc N b)
  |.Tuple es _ _=>(cEs G n sc N es).map .tupE
  |.List es _=>(cEs G n sc N es).map .lstE
  |.Dict keys vals _=>Zgn keys vals
  |.Attribute o f _=>Zem o f (cE G n sc N o)
  |.Subscript a b _=>Ze5 G sc (cE G n sc N) (cO G n sc N) a b
  |.Call f as [] cp=>Zfo G sc f as cp (cEs G n sc N as) (cE G n sc N)
  |.ListComp elt gens sc2 _=>og (ZN G=true) (Qq G sc sc2 N (cE G n sc N) (cE G n sc2) elt gens)
  |_=>none
noncomputable def cEs(G:Gs):Nat->Scope->Li Str->Li Expr->Ot CE
 |0,_,_,_=>none
 |_+1,_,_,[]=>some .aN
 |n+1,sc,N,e :: es=>o2 .aC (cE G n sc N e) (cEs G n sc N es)
noncomputable def cO(G:Gs):Nat->Scope->Li Str->Ot Expr->Ot CE
 |0,_,_,_=>none
 |_+1,_,_,none=>some .nop
 |n+1,sc,N,some e=>(cE G n sc N e).map .part
end

noncomputable def Yf:Expr->Bool
 |.ListComp ..=>true
 |.SetComp ..=>true
 |.DictComp ..=>true
 |_=>false
noncomputable def V7:Expr->Bool
 |.Tuple ..=>true
 |_=>false
noncomputable def Zfj(G:Gs)(N:Li Str)(tg e:Expr)(c:Ot CE):Ot CS:=match tg with
 |.Name x _=>o2 .set (N.idxOf? x) c
 |.Tuple [.Name x _,.Name y _] _ _=>og ((Yf e||V7 e)=false/\ZN G=true) (o3 (fun i j c=>og (i≠j) (some (.set2 i j c))) (N.idxOf? x) (N.idxOf? y) c).join
 |.Tuple [.Name x _,.Name y _,.Name z _] _ _=>og ((Yf e||V7 e)=false/\ZN G=true) (o3 (fun i j (p:Nat×CE)=>.set3 i j p.1 p.2) (N.idxOf? x) (N.idxOf? y) (o2 Prod.mk (N.idxOf? z) c))
 |_=>none



noncomputable def Zen(G:Gs)(sc:Scope)(N:Li Str)(f:Expr->Ot CE)(fs:Li Expr->Ot CE)(tg it:Expr)(b:Ot CS):Ot CS:=match tg with
 |.Name x _=>(match XM G sc it with
  |some as=>o3 .for3 (N.idxOf? x) (fs as) b
  |none=>match Yg G sc it with
   |some a=>o3 (fun i c b=>.for1 i true c b) (N.idxOf? x) (f a) b
   |none=>o3 (fun i c b=>.for1 i false c b) (N.idxOf? x) (f it) b)
 |.Tuple [.Name x _,.Name y _] _ _=>(o2 (fun i j=>og (i≠j) (some (i,j))) (N.idxOf? x) (N.idxOf? y)).join.bind fun p=>(match Xw G sc it with
  |some as=>o2 (.forP p.1 p.2) (fs as) b
  |none=>match Xl G sc it with
   |some e=>o2 (.forE p.1 p.2) (f e) b
   |none=>o2 (.for2 p.1 p.2) (f it) b)
 |.Tuple [.Name x _,.Name y _,.Name z _] _ _=>o3 (fun(p:Nat×Nat) (q:Nat×CE) b=>.for4 p.1 p.2 q.1 q.2 b) (o2 Prod.mk (N.idxOf? x) (N.idxOf? y)) (o2 Prod.mk (N.idxOf? z) (f it)) b
 |_=>none
noncomputable def Zd4(sc:Scope)(N:Li Str)(x m:Str)(ap cp:Pos)(c:Ot CE):Ot CS:=og (YO sc x=true/\(ap.endLine==cp.line)=true) (if m = "append" then o2 .app (N.idxOf? x) c else none)
noncomputable def WM(G:Gs)(sc:Scope)(fs:Li Expr->Ot CE)(g:Str)(as:Li Expr):Ot CE:=match G.lookup g with
 |some (.fn i ps ds)=>og (Zq sc g=true/\as.length<=ps/\ps<=as.length+ds.length) ((fs as).map fun c=>.call i c (ds.drop (as.length+ds.length - ps)))
 |_=>none
noncomputable def Zfh(G:Gs)(sc:Scope)(N:Li Str)(f:Expr->Ot CE)(fs:Li Expr->Ot CE):Expr->Ot CS
 |.Call (.Name g _) as [] _=>(WM G sc fs g as).map .act
 |.Call (.Attribute (.Name x p) m ap) as kw cp=>if m = "append" then (match as,kw with
  |[e],[]=>Zd4 sc N x m ap cp (f e)
  |_,_=>none) else og (kw.isEmpty=true/\(ap.endLine==cp.line)=true/\as.length < 20) (o2 (fun o c=>.act (.meth (Yp m as.length G) o c)) (f (.Name x p)) (fs as))
 |.Call (.Attribute (.Attribute o k p) m ap) [e] [] cp=>og (m = "append"/\(ap.endLine==cp.line)=true) (o2 .app2 (f (.Attribute o k p)) (f e))
 |_=>none
noncomputable def U0(G:Gs)(sc:Scope)(f:Expr->Ot CE)(e c:Ot Expr):Ot CS:=match e.bind Zb6 with
 |some (x,[a])=>(match G.lookup x with
  |some (.exc i _)=>if Zq sc x=true/\exNums.contains i=true/\ZN G=true/\c.isNone=true then (f a).map (CS.ext i) else some .stop
  |_=>some .stop)
 |_=>some .stop
noncomputable def Zf4:ExceptHandler->Ot (Str×Str×Str×Str×Str)
 |.ExceptHandler t y b _=>(t.bind nmE).bind fun x=>y.bind fun y=>(Vx b).bind fun s=>(ZbY s).bind fun p=>(Vx p.1).bind fun z=>(nmE z).bind fun z=>(Zb6 p.2).bind fun q=>(Vx q.2).bind fun a=>(nmE a).map fun a=>(x,y,z,q.1,a)
theorem Zdj{h:ExceptHandler}{x y z f a:Str}(e:Zf4 h=some (x,y,z,f,a)):∃ p1 p2 p3 p4 p5 p6 p7,h=.ExceptHandler (some (.Name x p1)) (some y) [.Assign [.Name z p2] (.Call (.Name f p3) [.Name a p4] [] p5) p6] p7:=by
 cases h with
 |ExceptHandler t0 y0 b p7=>
  obtain⟨x0,e1,e⟩:=aW.mp e;obtain⟨t,et,e1⟩:=aW.mp e1;obtain⟨y1,ey,e⟩:=aW.mp e;obtain⟨s,e2,e⟩:=aW.mp e;obtain⟨⟨ts,v⟩,e3,e⟩:=aW.mp e;obtain⟨z0,e4,e⟩:=aW.mp e;obtain⟨z1,e5,e⟩:=aW.mp e;obtain⟨⟨f0,as⟩,e6,e⟩:=aW.mp e
  obtain⟨a0,e7,e⟩:=aW.mp e;obtain⟨a1,e8,e⟩:=eA.mp e
  injection e with e9 e
  injection e with e10 e
  injection e with e11 e
  injection e with e12 e13
  obtain⟨p1,q1⟩:=Y8 e1;obtain⟨p6,q3⟩:=Qm e3;obtain⟨p2,q5⟩:=Y8 e5;obtain⟨p3,p5,q6⟩:=Vf e6;obtain⟨p4,q8⟩:=Y8 e8;exact⟨p1,p2,p3,p4,p5,p6,p7,by rw[et,q1,ey,YE e2,q3,show ts=_ from YE e4,q5,show v=_ from q6,show as=_ from YE e7,q8,e9,e10,e11,show f0=_ from e12,e13]⟩
noncomputable def Zf3(G:Gs)(sc:Scope)(N:Li Str)(c:Ot CE)(h:ExceptHandler):Ot CS:=(Zf4 h).bind fun q=>match G.lookup q.1 with
 |some (.exc _ l)=>(match G.lookup q.2.2.2.1 with
  |some (.fnq j)=>og ((Zq sc q.1=true/\Zq sc q.2.2.2.1=true)/\(sc.names.lookup q.2.1=some .local/\q.2.2.2.2=q.2.1/\YO sc q.2.1=true)) (o3 (fun n m c=>.whl (.compT l (.var n) c .nop) (.set m (.call j (.aC (.var n) .aN) []))) (N.idxOf? q.2.1) (N.idxOf? q.2.2.1) c)
  |_=>none)
 |_=>none
noncomputable def Zf2(G:Gs)(sc:Scope)(N:Li Str)(f:Expr->Ot CE)(fs:Li Expr->Ot CE)(b:Li Stmt)(h:ExceptHandler)(hs:Li ExceptHandler):Ot CS:=(Vx b).bind fun s=>match ZbY s with
 |some p=>(Vx p.1).bind fun x=>(nmE x).bind fun x=>o2 .set (N.idxOf? x) (f p.2)
 |none=>(Zek s).bind fun e=>(Zb6 e).bind fun q=>if hs.isEmpty=true/\q.2.isEmpty=false then Zf3 G sc N (WM G sc fs q.1 q.2) h else none
mutual
noncomputable def cS(G:Gs):Nat->Scope->Li Str->Stmt->Ot CS
 |0,_,_,_=>none
 |n+1,sc,N,s=>match s with
  |.Assign [.Subscript o k _] e _=>og (Yf e=false/\ZfG k=false) (o3 (.dput 0) (cE G n sc N o) (cE G n sc N k) (cE G n sc N e))
  |.Assign [.Attribute (.Name x _) k _] e _=>og (Yf e=false/\YO sc x=true/\fldNames.contains k=true) (o2 (fun i c=>.put i (.cst (.str k)) c) (N.idxOf? x) (cE G n sc N e))
  |.Try b (h :: hs) [] [] _=>Zf2 G sc N (cE G n sc N) (cEs G n sc N) b h hs
  |.Assign [tg] e _=>Zfj G N tg e (cE G n sc N e)
  |.Expr e _=>Zfh G sc N (cE G n sc N) (cEs G n sc N) e
  |.Return (some e) _=>(cE G n sc N e).map .ret
  |.If c a b _=>o3 .ite (cE G n sc N c) (cSs G n sc N a) (cSs G n sc N b)
  |.For tg it b [] _=>og (ZN G=true) (Zen G sc N (cE G n sc N) (cEs G n sc N) tg it (cSs G n sc N b))
  |.Pass _=>some .skip
  |.Break _=>some .brk
  |.Continue _=>some .cont
  |.Raise a b _=>U0 G sc (cE G n sc N) a b
  |_=>none
noncomputable def cSs(G:Gs):Nat->Scope->Li Str->Li Stmt->Ot CS
 |0,_,_,_=>none
 |_+1,_,_,[]=>some .skip
 |n+1,sc,N,s :: r=>o2 .seq (cS G n sc N s) (cSs G n sc N r)
end
theorem W2{c:Nat}:∀ {p:Li Nat},c∉p->YZ c p=[p]
 |[],_=>rfl
 |x :: p,h=>by
  have hx:¬x=c:=fun z=>h (by rw[z];exact lQ7)
  have ih:=W2 (fun z=>h (Lm _ z):c∉p)
  unfold YZ;rw[if_neg hx,ih]
theorem Uv{c:Nat}{q:Li Nat}:∀ {p:Li Nat},c∉p->YZ c (p++c :: q)=p :: YZ c q
 |[],_=>by
  show YZ c (c :: q)=_
  conv=>lhs;unfold YZ
  rw[if_pos rfl]
 |x :: p,h=>by
  have hx:¬x=c:=fun z=>h (by rw[z];exact lQ7)
  have ih:=Uv (q:=q) (fun z=>h (Lm _ z):c∉p)
  show YZ c (x :: (p++c :: q))=_
  conv=>lhs;unfold YZ
  rw[if_neg hx,ih]
theorem WC{c:Nat}:∀ {xs:Li Str},xs≠[]->(∀ p∈xs,c∉p.cps.toList)->YZ c (ZL ⟨#[c]⟩ xs)=xs.map fun p=>p.cps.toList
 |[],h,_=>absurd rfl h
 |[x],_,h=>by
  show YZ c (x.cps.toList++[])=_;rw[aP,W2 (h x lQ7)];rfl
 |x :: y :: r,_,h=>by
  have ih:=WC (c:=c) (xs:=y :: r) (dD _ _) (fun p hp=>h p (Lm _ hp))
  show YZ c (x.cps.toList++c :: ZL ⟨#[c]⟩ (y :: r))=_;rw[Uv (h x lQ7),ih];rfl
end Dp


namespace Dp
open PySem PySem.Spec PyProof.Rows L2
class ClsTab where
 ca:Nat->Addr
variable [ClsTab]

variable{X:Cx}{e:Expr}
theorem Zl{t t':TE}(h:PE X e t)(i:∀ σ H Q,t' σ H Q->t σ H Q):PE X e t':=fun pQ s σ H Q I q=>h pQ s σ H Q I (i σ H Q q)
theorem Xb{t t':TT}(h:PT X e t)(i:∀ σ H Q,t' σ H Q->t σ H Q):PT X e t':=fun pQ s σ H Q I q=>h pQ s σ H Q I (i σ H Q q)
theorem Wz{e:Li Expr}{t t':TA}(h:PA X e t)(i:∀ σ H Q,t' σ H Q->t σ H Q):PA X e t':=fun pos pQ s σ H Q I q=>h pos pQ s σ H Q I (i σ H Q q)
theorem Zbk{e:Ot Expr}{t t':TO}(h:PO X e t)(i:∀ σ H Q,t' σ H Q->t σ H Q):PO X e t':=fun pQ s σ H Q I q=>h pQ s σ H Q I (i σ H Q q)
theorem Zw{e:Stmt}{t t':TS}(h:PS X e t)(i:∀ D σ H,t' D σ H->t D σ H):PS X e t':=fun pQ s σ H D I q=>h pQ s σ H D I (i D σ H q)
theorem QQ{e:Li Stmt}{t t':TS}(h:PSs X e t)(i:∀ D σ H,t' D σ H->t D σ H):PSs X e t':=fun pQ s σ H D I q=>h pQ s σ H D I (i D σ H q)

def KT(K:Fg)(a:Ad)(xs:Li V):Prop:=
 ∃ (o:Obj) (its:Array vL) (n:Nat),K.lookup a=some o/\o.cls=.type "tuple"/\o.data=.seq its n/\its.size<=sizeLine/\Vals xs its.toList
def TupAt(K:Fg)(H:Hp)(a:Ad)(xs:Li V):Prop:=H a=some (.tup xs)\/KT K a xs
variable{K:Fg}{H:Hp}{xs:Li V}
theorem TupAt.sq{a:Ad}(h:TupAt K H a xs):SqT K H a xs:=by
 rcases h with h|h
 ·exact .inl (.inl h)
 ·exact .inr h
noncomputable def isM:HO->Bool
 |.dK _=>true
 |.ins _ _ _=>true
 |_=>false
def Z2(H:Hp)(a:Ad):Prop:=∃ o,H a=some o/\isM o=true
def LA(ad:Li Ad)(H:Hp)(i:Nat)(a:Ad):Prop:=ad[i]?=some a/\¬Z2 H a
variable{o:HO}
theorem Vu{a:Ad}(h:H a=some o)(n:isM o=false):¬Z2 H a:=fun⟨o',z,m⟩=>by rw[h]at z;cases z;rw[n]at m;cases m
structure XG(K:Fg)(C:Addr):Prop where
 g:XGet K C
 na:PySem.W.findIn K (.ref C) "line"=some none
 kv:PySem.W.kitOne K (.ref C) (.type "ValueError")=some true
noncomputable def isF:HO->Bool
 |.tup _=>true
 |.ext _=>true
 |.xd _=>true
 |_=>false
mutual
inductive Den(K:Fg)(ad:List Addr)(H:Hp):V->D->Prop where
 |non:Den K ad H .non .non
 |bl (b:Bool):Den K ad H (.bl b) (.bl b)
 |int (i:Int):Den K ad H (.int i) (.int i)
 |str (x:Str):Den K ad H (.str x) (.str x)
 |tup {a:Addr}{xs:List V}{ds:List D} (h:TupAt K H a xs) (r:Dens K ad H xs ds):Den K ad H (.ref a) (.tup ds)
 |lst {a:Addr}{i:Nat} (h:LA ad H i a):Den K ad H (.ref a) (.lst i)
 |dic {a:Addr}{i:Nat} (h:ad[i]?=some a) (n:Z2 H a):Den K ad H (.ref a) (.dic i)
 |obj {a dx:Addr}{i:Nat} (g:XG K (ClsTab.ca (i % 1000))/\i % 1000∈exNums) (h:H a=some (.ext (fX (ClsTab.ca (i % 1000)) a dx))) (h2:H dx=some (.xd [("line",.int ((i / 1000:Nat):Int))])):Den K ad H (.ref a) (.obj i)
 |kt {a:Addr}{ks:List Str}{o:Obj}{its:Array Value}{n:Nat} (l:K.lookup a=some o) (c:o.cls=.type "tuple") (g:o.dict=none) (e:o.data=.seq its n) (z:its.size<=sizeLine) (r:Vals (ks.map V.str) its.toList):Den K ad H (.ref a) (.kt ks)
inductive Dens(K:Fg)(ad:List Addr)(H:Hp):List V->List D->Prop where
 |nil:Dens K ad H [] []
 |cons {v:V}{d:D}{vs:List V}{ds:List D} (h:Den K ad H v d) (r:Dens K ad H vs ds):Dens K ad H (v :: vs) (d :: ds)
end

structure Ext(ad:List Addr)(H:Hp)(ad':List Addr)(H':Hp):Prop where
 pre:∀ (i:Nat) (a:Addr),ad[i]?=some a->ad'[i]?=some a
 tup:∀ b u,isF u=true->H b=some u->H' b=some u
 keep:∀ b o,H b=some o->b∉ad->H' b=some o
 new:∀ b,b∈ad'->b∈ad\/H b=none
 kd:∀ (i:Nat) (a:Addr),ad[i]?=some a->(Z2 H a↔Z2 H' a)
theorem Ext.refl(ad:Li Ad)(H:Hp):Ext ad H ad H:=⟨fun _ _ h=>h,fun _ _ _ h=>h,fun _ _ h _=>h,fun _ h=>.inl h,fun _ _ _=>Iff.rfl⟩
theorem Ext.trans{a1 a2 a3:Li Ad}{H1 H2 H3:Hp}(x:Ext a1 H1 a2 H2)(y:Ext a2 H2 a3 H3):Ext a1 H1 a3 H3:=by
 refine⟨fun i a h=>y.pre i a (x.pre i a h),fun b u m h=>y.tup b u m (x.tup b u m h),fun b o h n=>?_,fun b h=>?_,fun i a h=>(x.kd i a h).trans (y.kd i a (x.pre i a h))⟩
 ·refine y.keep b o (x.keep b o h n) fun z=>?_
  rcases x.new b z with z|z
  ·exact n z
  ·rw[h]at z;cases z
 ·rcases y.new b h with z|z
  ·exact x.new b z
  ·cases e:H1 b with
   |none=>exact .inr rfl
   |some o=>
    by_cases q:b∈a1
    ·exact .inl q
    ·rw[x.keep b o e q]at z;cases z

variable{ad ad':Li Ad}{H':Hp}
theorem TupAt.mono{a:Ad}(x:Ext ad H ad' H')(h:TupAt K H a xs):TupAt K H' a xs:=h.imp (x.tup _ _ rfl) id
theorem TupAt.upd{K:Fg}{H:Hp}{a p:Ad}{xs:Li V}{o o':HO}(hp:H p=some o)(ho:∀ xs,o≠.tup xs)(h:TupAt K H a xs):TupAt K (upd H p o') a xs:=by
 rcases h with h|h
 ·refine .inl ?_
  have n:a≠p:=fun z=>by subst z;rw[h]at hp;cases hp;exact ho _ rfl
  rw[upd_ne n];exact h
 ·exact .inr h
variable{d:D}{vs ys:Li V}{ds es:Li D}{x:Str}{i j:Nat}{kvs kvs':Li (Str×V)}{st:Za}{p:Ad}{α:Type}{o':HO}{σ:L2.St}{ρ:Env}
section
variable {K:Fg}{ad ad':Li Ad}{H H':Hp}
structure Keeps(K:Fg)(ad ad':List Addr)(H H':Hp):Prop where
 t:∀ {a xs},TupAt K H a xs->TupAt K H' a xs
 l:∀ {i:Nat}{a:Addr},ad[i]?=some a->ad'[i]?=some a/\(Z2 H a↔Z2 H' a)
 o:∀ {a u},isF u=true->H a=some u->H' a=some u
theorem Den.map(x:Keeps K ad ad' H H'){v:V}(h:Den K ad H v d):Den K ad' H' v d:=
 Den.rec (motive_1:=fun v d _=>Den K ad' H' v d) (motive_2:=fun vs ds _=>Dens K ad' H' vs ds) .non .bl .int .str (fun h _ r=>.tup (x.t h) r) (fun h=>.lst ⟨(x.l h.1).1,fun z=>h.2 ((x.l h.1).2.mpr z)⟩) (fun h n=>.dic (x.l h).1 ((x.l h).2.mp n)) (fun g h h2=>.obj g (x.o rfl h) (x.o rfl h2)) .kt .nil (fun _ _ a b=>.cons a b) h
theorem Dens.map(x:Keeps K ad ad' H H')(h:Dens K ad H vs ds):Dens K ad' H' vs ds:=
 Dens.rec (motive_1:=fun _ _ _=>True) (motive_2:=fun vs ds _=>Dens K ad' H' vs ds) trivial (fun _=>trivial) (fun _=>trivial) (fun _=>trivial) (fun _ _ _=>trivial) (fun _=>trivial) (fun _ _=>trivial) (fun _ _ _=>trivial) (fun _ _ _ _ _ _=>trivial) .nil (fun a _ _ b=>.cons (a.map x) b) h
theorem Ext.keeps(x:Ext ad H ad' H'):Keeps K ad ad' H H':=⟨fun h=>h.mono x,fun h=>⟨x.pre _ _ h,x.kd _ _ h⟩,fun m h=>x.tup _ _ m h⟩
theorem Den.mono(x:Ext ad H ad' H'){v:V}(h:Den K ad H v d):Den K ad' H' v d:=h.map x.keeps
theorem Dens.mono(x:Ext ad H ad' H')(h:Dens K ad H vs ds):Dens K ad' H' vs ds:=h.map x.keeps
theorem Zex(x:∀ (i:Nat) (a:Ad),ad[i]?=some a->ad'[i]?=some a)(y:∀ b,b∈ad'->b∈ad\/∃ xs,H b=some (.lst xs)):Keeps K ad ad' H H:=⟨id,fun h=>⟨x _ _ h,Iff.rfl⟩,fun _ h=>h⟩
theorem Dens.length:∀ {vs:Li V}{ds:Li D},Dens K ad H vs ds->vs.length=ds.length
 |_,_,.nil=>rfl
 |_,_,.cons _ r=>congrArg (·+1) (Dens.length r)
theorem Dens.get:∀ {vs:Li V}{ds:Li D}{i:Nat}{d:D},Dens K ad H vs ds->ds[i]?=some d->∃ v,vs[i]?=some v/\Den K ad H v d
 |_,_,_,_,.nil,e=>by simp at e
 |_,_,0,_,.cons h _,e=>by simp at e;subst e;exact⟨_,rfl,h⟩
 |_,_,i+1,d,.cons _ r,e=>by
  obtain⟨v,h1,h2⟩:=Dens.get (i:=i) (d:=d) r (by simpa using e)
  exact⟨v,by simpa using h1,h2⟩
theorem Dens.append:∀ {vs ws:Li V}{ds es:Li D},Dens K ad H vs ds->Dens K ad H ws es->Dens K ad H (vs++ws) (ds++es)
 |_,_,_,_,.nil,s=>s
 |_,_,_,_,.cons h r,s=>.cons h (Dens.append r s)
theorem Dens.take:∀ {vs:Li V}{ds:Li D} (n:Nat),Dens K ad H vs ds->Dens K ad H (vs.take n) (ds.take n)
 |_,_,0,_=>.nil
 |_,_,_+1,.nil=>.nil
 |_,_,n+1,.cons h r=>.cons h (Dens.take n r)
theorem Dens.drop:∀ {vs:Li V}{ds:Li D} (n:Nat),Dens K ad H vs ds->Dens K ad H (vs.drop n) (ds.drop n)
 |_,_,0,r=>r
 |_,_,_+1,.nil=>.nil
 |_,_,n+1,.cons _ r=>Dens.drop n r
theorem Dens.rep{v:V}(h:Den K ad H v d):∀ n:Nat,Dens K ad H (List.replicate n v) (List.replicate n d)
 |0=>.nil
 |n+1=>.cons h (Dens.rep h n)
theorem Den.ofInt{v:V}{i:Int}(h:Den K ad H v (.int i)):v=.int i:=by cases h;rfl
theorem Den.ofStr{v:V}(h:Den K ad H v (.str x)):v=.str x:=by cases h;rfl
theorem Den.ofBl{v:V}{b:Bool}(h:Den K ad H v (.bl b)):v=.bl b:=by cases h;rfl
theorem Den.ofNon{v:V}(h:Den K ad H v .non):v=.non:=by cases h;rfl
theorem Den.ofTup{v:V}(h:Den K ad H v (.tup ds)):∃ a xs,v=.ref a/\TupAt K H a xs/\Dens K ad H xs ds:=by
 cases h with
 |tup h r=>exact⟨_,_,rfl,h,r⟩
theorem Den.ofLst{v:V}(h:Den K ad H v (.lst i)):∃ a,v=.ref a/\LA ad H i a:=by
 cases h with
 |lst h=>exact⟨_,rfl,h⟩
theorem Den.ofDic{v:V}(h:Den K ad H v (.dic i)):∃ a,v=.ref a/\ad[i]?=some a/\Z2 H a:=by
 cases h with
 |dic h n=>exact⟨_,rfl,h,n⟩
theorem Den.newL{a:Ad}(h:ad[i]?=some a):Den K ad (upd H a (.lst xs)) (.ref a) (.lst i):=.lst ⟨h,Vu upd_same rfl⟩
theorem LA.mono{a:Ad}(x:Ext ad H ad' H')(h:LA ad H i a):LA ad' H' i a:=⟨x.pre _ _ h.1,fun z=>h.2 ((x.kd _ _ h.1).mpr z)⟩

theorem Den.ofKt{v:V}{ks:Li Str}(h:Den K ad H v (.kt ks)):∃ a o its n,v=.ref a/\K.lookup a=some o/\(o.cls=.type "tuple"/\o.dict=none)/\o.data=.seq its n/\its.size<=sizeLine/\Vals (ks.map V.str) its.toList:=by
 cases h with
 |kt l c g e z r=>exact⟨_,_,_,_,rfl,l,⟨c,g⟩,e,z,r⟩
theorem W4:∀ ks:Li Str,Dens K ad H (ks.map V.str) (ks.map D.str)
 |[]=>.nil
 |k :: ks=>.cons (.str k) (W4 ks)

def KL(K:Fg)(a:Ad)(xs:Li V):Prop:=
 ∃ (o:Obj) (its:Array vL) (n:Nat),(K.lookup a=some o/\o.cls=.type "list")/\(o.dict=none/\o.data=.seq its n)/\its.size<=sizeLine/\Vals xs its.toList
inductive Ents(K:Fg)(ad:List Addr)(H:Hp):List (Str×V)->List D->Prop where
 |nil:Ents K ad H [] []
 |cons {k:Str}{v:V}{d:D}{kvs:List (Str×V)}{ds:List D} (h:Den K ad H v d) (r:Ents K ad H kvs ds):Ents K ad H ((k,v) :: kvs) (.tup [.str k,d] :: ds)
theorem Ents.map(x:Keeps K ad ad' H H')(h:Ents K ad H kvs ds):Ents K ad' H' kvs ds:=by
 induction h with
 |nil=>exact .nil
 |cons h _ ih=>exact .cons (h.map x) ih
theorem Ents.mono(x:Ext ad H ad' H')(h:Ents K ad H kvs ds):Ents K ad' H' kvs ds:=h.map x.keeps
theorem Ents.dict(h:Ents K ad H kvs ds):UM ds=false:=by cases h<;>rfl
noncomputable abbrev Yn(kvs:Li (Str×V)):Li (Key×V):=kvs.map fun p=>(Sum.inr p.1,p.2)
structure ObC(K:Fg)(C:Addr):Prop where
 cl:Cls K C
 na:∀ f,fldNames.contains f=true->NoAttr K C f
inductive CellOk(K:Fg)(ad:List Addr)(H:Hp)(a:Addr)(c:Yb):Prop where
 |l {xs:List V} (n:¬Z2 H a) (r:Dens K ad H xs c.2) (h:(c.1=true/\H a=some (.lst xs))\/(c.1=false/\((∃ o,H a=some (.frz o (.lst xs)))\/KL K a xs)))
 |d {kvs:List (Str×V)} (r:Ents K ad H kvs c.2) (e:c.1=true) (h:H a=some (.dK (Yn kvs)))
 |o {i:Nat}{dx:Addr}{kvs:List (Str×V)}{es:List D} (q:c.2=.int (i:Int) :: es) (r:Ents K ad H kvs es) (e:c.1=true) (h:H a=some (.ins (ClsTab.ca i) dx kvs)) (oc:ObC K (ClsTab.ca i)/\∀ k,fldNames.contains k=false->kvs.lookup k=none)
structure StOk(K:Fg)(ad:List Addr)(H:Hp)(st:Za):Prop where
 len:ad.length=st.length
 nd:∀ (i j:Nat) (a:Addr) (c d:List D),ad[i]?=some a->ad[j]?=some a->st[i]?=some (true,c)->st[j]?=some (true,d)->i=j
 cell:∀ (i:Nat) (c:Yb),st[i]?=some c->∃ a,ad[i]?=some a/\CellOk K ad H a c

theorem CellOk.sq{a:Ad}{c:Yb}(h:CellOk K ad H a c)(n:¬Z2 H a):∃ xs,Dens K ad H xs c.2/\SqL K H a xs:=by
 cases h with
 |l _ r h=>
  obtain⟨_,e⟩|⟨_,⟨o,e⟩|⟨o,its,n,⟨h1,h2⟩,⟨h3,h4⟩,h5,h6⟩⟩:=h
  ·exact⟨_,r,.inl (.inl e)⟩
  ·exact⟨_,r,.inl (.inr ⟨o,e⟩)⟩
  ·exact⟨_,r,.inr ⟨o,its,n,h1,h2,h3,h4,h5,h6⟩⟩
 |d r e h=>exact absurd ⟨_,h,rfl⟩ n
 |o _ r e h _=>exact absurd ⟨_,h,rfl⟩ n
theorem StOk.list{a:Ad}{b:Bool}(S:StOk K ad H st)(h:LA ad H i a)(e:st[i]?=some (b,ds)):∃ xs,Dens K ad H xs ds/\SqL K H a xs:=by
 obtain⟨a',e',c⟩:=S.cell i _ e;rw[h.1]at e';cases e'
 exact c.sq h.2
theorem StOk.listM{a:Ad}(S:StOk K ad H st)(h:LA ad H i a)(e:st[i]?=some (true,ds)):∃ xs,Dens K ad H xs ds/\H a=some (.lst xs):=by
 obtain⟨a',e',c⟩:=S.cell i _ e;rw[h.1]at e';cases e'
 cases c with
 |l _ r q=>
  obtain⟨_,q⟩|⟨q,_⟩:=q
  ·exact⟨_,r,q⟩
  ·cases q
 |d r _ q=>exact absurd ⟨_,q,rfl⟩ h.2
 |o _ r _ q _=>exact absurd ⟨_,q,rfl⟩ h.2
theorem StOk.dict{a:Ad}{b:Bool}(S:StOk K ad H st)(h:ad[i]?=some a)(n:Z2 H a)(e:st[i]?=some (b,ds))(ob:UM ds=false):∃ kvs,Ents K ad H kvs ds/\H a=some (.dK (Yn kvs))/\b=true:=by
 obtain⟨a',e',c⟩:=S.cell i _ e;rw[h]at e';cases e'
 cases c with
 |l z=>exact absurd n z
 |d r e q=>exact⟨_,r,q,e⟩
 |o q _ _ _ _=>rw[show ds=_ from q]at ob;cases ob
theorem StOk.obj{a:Ad}{b:Bool}{c:Int}(S:StOk K ad H st)(h:ad[i]?=some a)(n:Z2 H a)(e:st[i]?=some (b,.int c :: es)):∃ (j:Nat) (dx:Ad) (kvs:Li (Str×V)),c=(j:Int)/\Ents K ad H kvs es/\H a=some (.ins (ClsTab.ca j) dx kvs)/\b=true/\ObC K (ClsTab.ca j)/\∀ k,fldNames.contains k=false->kvs.lookup k=none:=by
 obtain⟨a',e',c⟩:=S.cell i _ e;rw[h]at e';cases e'
 cases c with
 |l z=>exact absurd n z
 |d r e q=>have:=r.dict;cases this
 |o q r e h oc=>cases q;exact⟨_,_,_,rfl,r,h,e,oc⟩
theorem Qc{a:Ad}(hp:¬Z2 H p)(ho:isM o=false):Z2 H a↔Z2 (upd H p o) a:=by
 by_cases z:a=p
 ·subst z
  exact⟨fun q=>absurd q hp,fun q=>absurd q (Vu upd_same ho)⟩
 ·unfold Z2
  rw[upd_ne z]
theorem QJ(hp:H p=none):¬Z2 H p:=fun⟨_,z,_⟩=>by rw[hp]at z;cases z
theorem Ext.laid(hp:H p=none)(ho:isM o=false:=by rfl):Ext ad H ad (upd H p o):=
 ⟨fun _ _ h=>h,fun b u _ h=>by rw[upd_ne (ne_of_none h hp)];exact h,fun b o h _=>by rw[upd_ne (ne_of_none h hp)];exact h,fun _ h=>.inl h,fun _ _ _=>Qc (QJ hp) ho⟩
theorem CellOk.laid{a:Ad}{c:Yb}(ha:ad[i]?=some a)(hp:H p=none)(x:Ext ad H ad' (upd H p o))(h:CellOk K ad H a c):CellOk K ad' (upd H p o) a c:=by
 cases h with
 |l n r h=>
  refine .l (fun z=>n ((x.kd i a ha).mpr z)) (r.mono x) ?_
  rcases h with⟨b,e⟩|⟨b,⟨o,e⟩|e⟩
  ·exact .inl ⟨b,by rw[upd_ne (ne_of_none e hp)];exact e⟩
  ·exact .inr ⟨b,.inl ⟨o,by rw[upd_ne (ne_of_none e hp)];exact e⟩⟩
  ·exact .inr ⟨b,.inr e⟩
 |d r e h=>exact .d (r.mono x) e (by rw[upd_ne (ne_of_none h hp)];exact h)
 |o q r e h oc=>exact .o q (r.mono x) e (by rw[upd_ne (ne_of_none h hp)];exact h) oc
theorem StOk.laid(S:StOk K ad H st)(hp:H p=none)(ho:isM o=false:=by rfl):StOk K ad (upd H p o) st:=
 ⟨S.len,S.nd,fun i c e=>let ⟨a,h,q⟩:=S.cell i c e;⟨a,h,q.laid h hp (Ext.laid hp ho)⟩⟩
theorem Xp{l:Li α}{x y:α}(h:(l++[x])[i]?=some y):l[i]?=some y\/(i=l.length/\y=x):=by
 by_cases hi:i < l.length
 ·rw[bU hi]at h
  exact .inl h
 ·rw[bV (by omega)]at h
  have:i - l.length=0:=by
   cases e:i - l.length with
   |zero=>rfl
   |succ k=>rw[e]at h;simp at h
  rw[this]at h;simp at h;exact .inr ⟨by omega,h.symm⟩
theorem YU{l:Li α}{x y:α}(h:l[i]?=some y):(l++[x])[i]?=some y:=by
 rw[bU (bN.mp h).1];exact h
theorem ZB{l:Li α}{x:α}:(l++[x])[l.length]?=some x:=by simp
theorem Ext.pushG(hp:H p=none)(hk:∀ (i:Nat) (a:Ad),ad[i]?=some a->(Z2 H a↔Z2 (upd H p o) a)):Ext ad H (ad++[p]) (upd H p o):=
 ⟨fun _ _ h=>YU h,fun b u _ h=>by rw[upd_ne (ne_of_none h hp)];exact h,fun b o h _=>by rw[upd_ne (ne_of_none h hp)];exact h,fun b h=>(aS.mp h).elim .inl fun z=>.inr (by rw[bG.mp z];exact hp),hk⟩
theorem Ext.push(hp:H p=none):Ext ad H (ad++[p]) (upd H p (.lst xs)):=Ext.pushG hp fun _ _ _=>Qc (QJ hp) rfl
theorem StOk.more(S:StOk K ad H st)(hn:∀ (i:Nat) (c:Li D),ad[i]?=some p->st[i]?=some (true,c)->False)(hc:∀ (i:Nat) (c:Yb) (a:Ad),ad[i]?=some a->CellOk K ad H a c->CellOk K (ad++[p]) H' a c)(hp:CellOk K (ad++[p]) H' p (true,ds)):StOk K (ad++[p]) H' (st++[(true,ds)]):=by
 have old:∀ (i:Nat) (c:Li D) (a:Ad),(ad++[p])[i]?=some a->st[i]?=some (true,c)->ad[i]?=some a:=fun i c a h e=>by
  obtain⟨a1,q1,_⟩:=S.cell i _ e;have z1:=YU (x:=p) q1;rw[h]at z1;cases z1;exact q1
 refine⟨by rw[aK,aK,S.len];rfl,fun i j a c d h1 h2 h3 h4=>?_,fun i c e=>?_⟩
 ·rcases Xp h3 with h3|⟨e3,_⟩
  ·rcases Xp h4 with h4|⟨e4,_⟩
   ·exact S.nd i j a c d (old i c a h1 h3) (old j d a h2 h4) h3 h4
   ·have q1:=old i c a h1 h3
    rw[e4,<-S.len,ZB]at h2;cases h2;exact(hn i c q1 h3).elim
  ·rcases Xp h4 with h4|⟨e4,_⟩
   ·have q2:=old j d a h2 h4
    rw[e3,<-S.len,ZB]at h1;cases h1;exact(hn j d q2 h4).elim
   ·omega
 ·rcases Xp e with e|⟨e1,e2⟩
  ·obtain⟨a,h,q⟩:=S.cell i c e
   exact⟨a,YU h,hc i c a h q⟩
  ·subst e2
   exact⟨p,by rw[e1,<-S.len];exact ZB,hp⟩
theorem StOk.noNew(S:StOk K ad H st)(hp:H p=none)(i:Nat)(c:Li D)(h:ad[i]?=some p)(e:st[i]?=some (true,c)):False:=by
 obtain⟨a',e',q⟩:=S.cell i _ e;rw[h]at e';cases e'
 cases q with
 |l _ _ q=>
  obtain⟨_,q⟩|⟨q,_⟩:=q
  ·rw[hp]at q;cases q
  ·cases q
 |d _ _ q=>rw[hp]at q;cases q
 |o _ _ _ q _=>rw[hp]at q;cases q
theorem StOk.push(S:StOk K ad H st)(hp:H p=none)(r:Dens K ad H xs ds):StOk K (ad++[p]) (upd H p (.lst xs)) (st++[(true,ds)]):=
 S.more (S.noNew hp) (fun _ _ _ h q=>q.laid h hp (Ext.push hp)) (.l (Vu upd_same rfl) (r.mono (Ext.push hp)) (.inl ⟨rfl,upd_same⟩))
theorem StOk.wrG(S:StOk K ad H st)(kp:Keeps K ad ad H (upd H p o))(hn:p∉ad):StOk K ad (upd H p o) st:=
 ⟨S.len,S.nd,fun i c e=>by
  obtain⟨a,h,q⟩:=S.cell i c e;have ne:a≠p:=fun z=>hn (by rw[<-z];exact aV h)
  refine⟨a,h,?_⟩;cases q with
  |l n r q=>
   refine .l (fun z=>n ((kp.l h).2.mpr z)) (r.map kp) ?_
   rcases q with⟨b,q⟩|⟨b,⟨o,q⟩|q⟩
   ·exact .inl ⟨b,by rw[upd_ne ne];exact q⟩
   ·exact .inr ⟨b,.inl ⟨o,by rw[upd_ne ne];exact q⟩⟩
   ·exact .inr ⟨b,.inr q⟩
  |d r t q=>exact .d (r.map kp) t (by rw[upd_ne ne];exact q)
  |o z r t q oc=>exact .o z (r.map kp) t (by rw[upd_ne ne];exact q) oc⟩
theorem StOk.has{a:Ad}(S:StOk K ad H st)(hi:ad[i]?=some a):(∃ o,H a=some o)\/∃ o,K.lookup a=some o:=by
 obtain⟨a',e',q⟩:=S.cell i _ (Lg (show i < st.length by rw[<-S.len];exact(bN.mp hi).1))
 rw[hi]at e';cases e'
 cases q with
 |l _ _ q=>
  obtain⟨_,q⟩|⟨_,⟨o,q⟩|⟨o,its,m,⟨h1,h2⟩,_⟩⟩:=q
  ·exact .inl ⟨_,q⟩
  ·exact .inl ⟨_,q⟩
  ·exact .inr ⟨_,h1⟩
 |d _ _ q=>exact .inl ⟨_,q⟩
 |o _ _ _ q _=>exact .inl ⟨_,q⟩
theorem StOk.extD{o:HO}(S:StOk K ad H st)(hp:H p=none)(hk:∀ o,K.lookup p≠some o):Ext ad H (ad++[p]) (upd H p o):=
 Ext.pushG hp fun i a h=>by
  have n:a≠p:=fun z=>(S.has h).elim (fun⟨o,q⟩=>by rw[z,hp]at q;cases q) fun⟨o,q⟩=>hk o (z ▸ q)
  unfold Z2;rw[upd_ne n]
theorem StOk.pushD(S:StOk K ad H st)(hp:H p=none)(hk:∀ o,K.lookup p≠some o):StOk K (ad++[p]) (upd H p (.dK [])) (st++[(true,[])]):=
 S.more (S.noNew hp) (fun _ _ _ h q=>q.laid h hp (S.extD hp hk)) (.d .nil rfl upd_same)
theorem StOk.pushO{dx:Ad}(S:StOk K ad H st)(hp:H p=none)(hk:∀ o,K.lookup p≠some o)(oc:ObC K (ClsTab.ca i)):StOk K (ad++[p]) (upd H p (.ins (ClsTab.ca i) dx [])) (st++[(true,[.int (i:Int)])]):=
 S.more (S.noNew hp) (fun _ _ _ h q=>q.laid h hp (S.extD hp hk)) (.o rfl .nil rfl upd_same ⟨oc,fun _ _=>rfl⟩)
theorem StOk.adopt(S:StOk K ad H st)(hp:H p=some (.lst xs))(hn:p∉ad)(r:Dens K ad H xs ds):StOk K (ad++[p]) H (st++[(true,ds)]):=by
 have kp:Keeps K ad (ad++[p]) H H:=Zex (fun _ _ h=>YU h) (fun b hb=>(aS.mp hb).imp id fun z=>⟨xs,by rw[bG.mp z];exact hp⟩)
 exact S.more (fun i _ h _=>hn (aV h)) (fun _ _ _ _ q=>by
  cases q with
  |l n r h=>exact .l n (r.map kp) h
  |d r e h=>exact .d (r.map kp) e h
  |o q r e h oc=>exact .o q (r.map kp) e h oc) (.l (Vu hp rfl) (r.map kp) (.inl ⟨rfl,hp⟩))
theorem Ext.writeG{a:Ad}(h:H a=some o)(ha:a∈ad)(h1:isF o=false)(hk:Z2 H a↔Z2 (upd H a o') a):Ext ad H ad (upd H a o'):=
 ⟨fun _ _ h=>h,fun b u m e=>by rw[upd_ne (ne_of e h (fun z=>by rw[<-z,m]at h1;cases h1))];exact e,fun b o e n=>by rw[upd_ne (show b≠a from fun z=>n (by rw[z];exact ha))];exact e,fun _ h=>.inl h,fun _ b _=>by
  by_cases z:b=a
  ·rw[z];exact hk
  ·unfold Z2;rw[upd_ne z]⟩
theorem Ext.write{a:Ad}(h:H a=some (.lst xs))(ha:a∈ad):Ext ad H ad (upd H a (.lst ys)):=
 Ext.writeG h ha rfl ⟨fun z=>absurd z (Vu h rfl),fun z=>absurd z (Vu upd_same rfl)⟩
theorem StOk.writeG{a:Ad}(S:StOk K ad H st)(h:ad[i]?=some a)(e:st[i]?=some (true,ds))(hx:H a=some o)(hf:∀ q u,o≠.frz q u)(x:Ext ad H ad (upd H a o'))(r:CellOk K ad (upd H a o') a (true,es)) :
  StOk K ad (upd H a o') (st.set i (true,es)):=by
 have hi:i < st.length:=(bN.mp e).1;refine⟨by rw[cM];exact S.len,fun j k b c d h1 h2 h3 h4=>?_,fun j c q=>?_⟩
 ·have up:∀ (j:Nat) (c:Li D),(st.set i (true,es))[j]?=some (true,c)->∃ c',st[j]?=some (true,c'):=fun j c q=>by
   by_cases z:i=j
   ·subst z;exact⟨_,e⟩
   ·rw[cH z]at q;exact⟨_,q⟩
  obtain⟨c',h3⟩:=up j c h3;obtain⟨d',h4⟩:=up k d h4;exact S.nd j k b c' d' h1 h2 h3 h4
 ·by_cases z:i=j
  ·subst z
   rw[cG hi]at q;cases q;exact⟨a,h,r⟩
  ·rw[cH z]at q
   obtain⟨b,hb,hz⟩:=S.cell j c q;refine⟨b,hb,?_⟩;have ne:c.1=true->b≠a:=fun t w=>by
    obtain⟨cb,cl⟩:=c;cases (show cb=true from t)
    exact z (S.nd i j a ds cl h (w ▸ hb) e q)
   cases hz with
   |l n rz hz=>
    refine .l (fun z=>n ((x.kd j b hb).mpr z)) (rz.mono x) ?_
    rcases hz with⟨t,hz⟩|⟨t,⟨o,hz⟩|hz⟩
    ·exact .inl ⟨t,by rw[upd_ne (ne t)];exact hz⟩
    ·exact .inr ⟨t,.inl ⟨o,by rw[upd_ne (ne_of hz hx (fun z=>hf _ _ z.symm))];exact hz⟩⟩
    ·exact .inr ⟨t,.inr hz⟩
   |d rz t hz=>exact .d (rz.mono x) t (by rw[upd_ne (ne t)];exact hz)
   |o z rz t hz oc=>exact .o z (rz.mono x) t (by rw[upd_ne (ne t)];exact hz) oc
theorem StOk.write{a:Ad}(S:StOk K ad H st)(h:LA ad H i a)(e:st[i]?=some (true,ds))(hx:H a=some (.lst xs))(r:Dens K ad H ys es) :
  StOk K ad (upd H a (.lst ys)) (st.set i (true,es)):=
 S.writeG h.1 e hx (fun _ _ z=>nomatch z) (Ext.write hx (aV h.1)) (.l (Vu upd_same rfl) (r.mono (Ext.write hx (aV h.1))) (.inl ⟨rfl,upd_same⟩))
theorem Ext.writeM{a:Ad}(h:H a=some o)(m:isM o=true)(m':isM o'=true)(ha:a∈ad):Ext ad H ad (upd H a o'):=
 Ext.writeG h ha (by cases o<;>first|rfl|cases m) ⟨fun _=>⟨_,upd_same,m'⟩,fun _=>⟨_,h,m⟩⟩
theorem StOk.writeD{a:Ad}(S:StOk K ad H st)(h:ad[i]?=some a)(e:st[i]?=some (true,ds))(hx:H a=some (.dK (Yn kvs)))(r:Ents K ad H kvs' es) :
  StOk K ad (upd H a (.dK (Yn kvs'))) (st.set i (true,es)):=
 S.writeG h e hx (fun _ _ z=>nomatch z) (Ext.writeM hx rfl rfl (aV h)) (.d (r.mono (Ext.writeM hx rfl rfl (aV h))) rfl upd_same)
theorem StOk.writeO{a dx:Ad}(S:StOk K ad H st)(h:ad[i]?=some a)(e:st[i]?=some (true,ds))(hx:H a=some (.ins (ClsTab.ca j) dx kvs))(oc:ObC K (ClsTab.ca j))(r:Ents K ad H kvs' es)(nf:∀ k,fldNames.contains k=false->kvs'.lookup k=none) :
  StOk K ad (upd H a (.ins (ClsTab.ca j) dx kvs')) (st.set i (true,.int (j:Int) :: es)):=
 S.writeG h e hx (fun _ _ z=>nomatch z) (Ext.writeM hx rfl rfl (aV h)) (.o rfl (r.mono (Ext.writeM hx rfl rfl (aV h))) rfl upd_same ⟨oc,nf⟩)

structure EnvOk(K:Fg)(ad:List Addr)(H:Hp)(σ:L2.St)(ρ:Env):Prop where
 len:σ.length=ρ.length
 at_:∀ (i:Nat) (d:D),ρ[i]?=some (some d)->∃ v,σ[i]?=some (some v)/\Den K ad H v d
theorem EnvOk.mono(x:Ext ad H ad' H')(h:EnvOk K ad H σ ρ):EnvOk K ad' H' σ ρ:=⟨h.len,fun i d e=>let ⟨v,e1,e2⟩:=h.at_ i d e;⟨v,e1,e2.mono x⟩⟩
theorem EnvOk.set{v:V}(h:EnvOk K ad H σ ρ)(i:Nat)(r:Den K ad H v d):EnvOk K ad H (σ.set i (some v)) (Zj ρ i d):=by
 refine⟨by unfold Zj;rw[cM,cM];exact h.len,fun j e q=>?_⟩
 unfold Zj at q;by_cases z:i=j
 ·subst z
  by_cases hi:i < ρ.length
  ·rw[cG hi]at q
   cases q;exact⟨v,by rw[cG (by rw[h.len];exact hi)],r⟩
  ·rw[cY (by rw[cM];omega)]at q
   cases q
 ·rw[cH z]at q
  obtain⟨w,e1,e2⟩:=h.at_ j e q;exact⟨w,by rw[cH z];exact e1,e2⟩
end

def Post(K:Fg)(ad:Li Ad)(H:Hp)(d:D)(st':Za)(Q:VK):Prop:=∀ v ad' H',Ext ad H ad' H'->StOk K ad' H' st'->Den K ad' H' v d->Q v H'
noncomputable def tE(K:Fg)(f:Env->Za->Res):TE:=fun σ H Q=>∃ ad ρ st d st',EnvOk K ad H σ ρ/\StOk K ad H st/\f ρ st=some (d,st')/\Post K ad H d st' Q
noncomputable def tT(K:Fg)(f:Env->Za->Res):TT:=fun σ H Q=>∃ ad ρ st k st',EnvOk K ad H σ ρ/\StOk K ad H st/\f ρ st=some (.bl k,st')/\∀ ad' H',Ext ad H ad' H'->StOk K ad' H' st'->Q k H'
noncomputable def tA(K:Fg)(f:Env->Za->Res):TA:=fun σ H Q=>∃ ad ρ st ds st',EnvOk K ad H σ ρ/\StOk K ad H st/\f ρ st=some (.tup ds,st')/\∀ vs ad' H',Ext ad H ad' H'->StOk K ad' H' st'->Dens K ad' H' vs ds->Q vs H'
noncomputable def rD(K:Fg)(f:D->D->Za->Res):R2:=fun x y H Q=>∃ ad st dx dy d st',StOk K ad H st/\Den K ad H x dx/\Den K ad H y dy/\f dx dy st=some (d,st')/\Post K ad H d st' Q
def XPost(E:XK)(K:Fg)(ad:Li Ad)(H:Hp)(d:D)(st':Za):Prop:=match d with
 |.dct [_] [.int c,.int k]=>∀ ad' H' dx,Ext ad H ad' H'->StOk K ad' H' st'->H' dx=some (.xd [("line",.int k)])->E (.ref (ClsTab.ca c.toNat)) (some dx) H'
 |.dct [_] _=>False
 |_=>True
noncomputable def spD(K:Fg)(g:Fn):Sp:=fun vs H Q E=>∃ ad ds st d st',StOk K ad H st/\Dens K ad H vs ds/\g ds st=some (d,st')/\Post K ad H d st' Q/\XPost E K ad H d st'
class XcK where
 E:XK
instance (priority:=low) xc0:XcK:=⟨E0⟩
noncomputable def tS[xk:XcK](K:Fg)(f:Env->Za->Ot (Fl×Za)):TS:=fun D σ H=>∃ ad ρ st r st',EnvOk K ad H σ ρ/\StOk K ad H st/\f ρ st=some (r,st') /\
 match r with
 |.nx ρ'=>∀ σ' ad' H',Ext ad H ad' H'->StOk K ad' H' st'->EnvOk K ad' H' σ' ρ'->D.nx σ' H'
 |.bk ρ'=>∀ σ' ad' H',Ext ad H ad' H'->StOk K ad' H' st'->EnvOk K ad' H' σ' ρ'->D.bk σ' H'
 |.ct ρ'=>∀ σ' ad' H',Ext ad H ad' H'->StOk K ad' H' st'->EnvOk K ad' H' σ' ρ'->D.ct σ' H'
 |.rt d=>Post K ad H d st' D.rt/\XPost XcK.E K ad H d st'
theorem Post.at{Q:VK}(p:Post K ad H d st Q)(S:StOk K ad H st){v:V}(h:Den K ad H v d):Q v H:=p v ad H (Ext.refl _ _) S h
theorem XPost.later{E:XK}(p:XPost E K ad H d st)(x:Ext ad H ad' H'):XPost E K ad' H' d st:=by
 unfold XPost at p ⊢
 split at p
 ·exact fun a2 H2 dx y S h=>p a2 H2 dx (x.trans y) S h
 ·exact p.elim
 ·trivial
theorem ZdG{r:Res}(h:YY r=some (d,st)):r=some (d,st)/\∀ (E:XK) (K:Fg) (ad:Li Ad) (H:Hp),XPost E K ad H d st:=by
 unfold YY at h;split at h
 ·exact Zb h
 ·rename_i n
  refine⟨h,fun E K ad H=>?_⟩
  unfold XPost;split
  ·exact absurd h (n _ _ _)
  ·exact absurd h (n _ _ _)
  ·trivial
theorem Post.later{Q:VK}(p:Post K ad H d st Q)(x:Ext ad H ad' H'):Post K ad' H' d st Q:=fun v a2 H2 y S h=>p v a2 H2 (x.trans y) S h
variable [ClsTab]
variable{st':Za}
section
variable {X:Cx}{a b c:Expr}{fa fb fc:Ev}{pos:Pos}

theorem Zcv(σ:L2.St)(H:Hp)(Q:VK)(h:tE K (ZA i) σ H Q):tVar i σ H Q:=by
 obtain⟨ad,ρ,st,d,st',E,S,e,p⟩:=h;unfold ZA at e;split at e
 ·rename_i q
  obtain⟨v,e1,e2⟩:=E.at_ i _ q;cases e;exact⟨v,e1,p.at S e2⟩
 ·exact Zb e
theorem V3{v:V}(hd:∀ ad H,Den K ad H v d)(σ:L2.St)(H:Hp)(Q:VK)(h:tE K (evC d) σ H Q):tC v σ H Q:=by
 obtain⟨ad,ρ,st,d',st',E,S,e,p⟩:=h;cases e;exact p.at S (hd _ _)
theorem Vm{g:D->D->Za->Res}(σ:L2.St)(H:Hp)(Q:VK)(h:tE K (Zn fa fb g) σ H Q):tOp (rD K g) (tE K fa) (tE K fb) σ H Q:=by
 obtain⟨ad,ρ,st,d,st',E,S,e,p⟩:=h;unfold Zn at e;split at e
 ·rename_i x st1 q1
  split at e
  ·rename_i y st2 q2
   refine⟨ad,ρ,st,x,st1,E,S,q1,fun v1 ad1 H1 x1 S1 d1=>⟨ad1,ρ,st1,y,st2,E.mono x1,S1,q2,fun v2 ad2 H2 x2 S2 d2=>?_⟩⟩
   exact⟨ad2,st2,x,y,d,st',S2,d1.mono x2,d2,e,p.later (x1.trans x2)⟩
  ·exact Zb e
 ·exact Zb e
def rU1(K:Fg)(g:D->Za->Res):V->Hp->VK->Prop:=fun x H Q=>∃ ad st dx d st',StOk K ad H st/\Den K ad H x dx/\g dx st=some (d,st')/\Post K ad H d st' Q
theorem Zeq{g:D->Za->Res}(σ:L2.St)(H:Hp)(Q:VK)(h:tE K (Zm fa g) σ H Q):tUn (rU1 K g) (tE K fa) σ H Q:=by
 obtain⟨ad,ρ,st,d,st',E,S,e,p⟩:=h;unfold Zm at e;split at e
 ·rename_i x st1 q1
  exact⟨ad,ρ,st,x,st1,E,S,q1,fun v1 ad1 H1 x1 S1 d1=>⟨ad1,st1,x,d,st',S1,d1,e,p.later x1⟩⟩
 ·exact Zb e
theorem Vo(σ:L2.St)(H:Hp)(Q:Bool->Hp->Prop)(h:tT K fa σ H Q):tE K fa σ H fun x H1=>∃ c,x=.bl c/\Q c H1:=by
 obtain⟨ad,ρ,st,k,st',E,S,e,p⟩:=h;exact⟨ad,ρ,st,.bl k,st',E,S,e,fun v ad' H' x S' d'=>⟨k,d'.ofBl,p ad' H' x S'⟩⟩
theorem ZQ{ft ff:Ev}{r:D×Za}(h:YC fc ft ff ρ st=some r):∃ k st1,fc ρ st=some (.bl k,st1)/\(if k=true then ft ρ st1 else ff ρ st1)=some r:=by
 unfold YC at h;split at h
 ·rename_i st1 q
  exact⟨true,st1,q,by rw[if_pos rfl];exact h⟩
 ·rename_i st1 q
  exact⟨false,st1,q,by rw[if_neg Bf];exact h⟩
 ·exact Zb h
theorem Zep(σ:L2.St)(H:Hp)(Q:VK)(h:tE K (YC fc fa fb) σ H Q):tIf (tT K fc) (tE K fa) (tE K fb) σ H Q:=by
 obtain⟨ad,ρ,st,d,st',E,S,e,p⟩:=h;obtain⟨k,st1,q,e⟩:=ZQ e;refine⟨ad,ρ,st,k,st1,E,S,q,fun ad1 H1 x1 S1=>?_⟩
 cases k with
 |true=>
  rw[if_pos rfl]at e ⊢;exact⟨ad1,ρ,st1,d,st',E.mono x1,S1,e,p.later x1⟩
 |false=>
  rw[if_neg Bf]at e ⊢;exact⟨ad1,ρ,st1,d,st',E.mono x1,S1,e,p.later x1⟩
theorem Zav(σ:L2.St)(H:Hp)(Q:VK)(h:tE K (YC fa fb (evC (.bl false))) σ H Q):tAndV (tE K fa) (tE K fb) σ H Q:=by
 obtain⟨ad,ρ,st,d,st',E,S,e,p⟩:=h;obtain⟨k,st1,q,e⟩:=ZQ e;refine⟨ad,ρ,st,.bl k,st1,E,S,q,fun v1 ad1 H1 x1 S1 d1=>⟨k,d1.ofBl,?_⟩⟩
 cases k with
 |true=>
  rw[if_pos rfl]at e ⊢;exact⟨ad1,ρ,st1,d,st',E.mono x1,S1,e,p.later x1⟩
 |false=>
  rw[if_neg Bf]at e ⊢;cases e;exact(p.later x1).at S1 (.bl false)
theorem Zcq(σ:L2.St)(H:Hp)(Q:VK)(h:tE K (YC fa (evC (.bl true)) fb) σ H Q):tOrV (tE K fa) (tE K fb) σ H Q:=by
 obtain⟨ad,ρ,st,d,st',E,S,e,p⟩:=h;obtain⟨k,st1,q,e⟩:=ZQ e;refine⟨ad,ρ,st,.bl k,st1,E,S,q,fun v1 ad1 H1 x1 S1 d1=>⟨k,d1.ofBl,?_⟩⟩
 cases k with
 |true=>
  rw[if_pos rfl]at e ⊢;cases e;exact(p.later x1).at S1 (.bl true)
 |false=>
  rw[if_neg Bf]at e ⊢;exact⟨ad1,ρ,st1,d,st',E.mono x1,S1,e,p.later x1⟩
theorem Zau(σ:L2.St)(H:Hp)(Q:Bool->Hp->Prop)(h:tT K (YC fa fb (evC (.bl false))) σ H Q):tAnd (tT K fa) (tT K fb) σ H Q:=by
 obtain⟨ad,ρ,st,d,st',E,S,e,p⟩:=h;obtain⟨k,st1,q,e⟩:=ZQ e;refine⟨ad,ρ,st,k,st1,E,S,q,fun ad1 H1 x1 S1=>?_⟩
 cases k with
 |true=>
  rw[if_pos rfl]at e ⊢;exact⟨ad1,ρ,st1,d,st',E.mono x1,S1,e,fun ad2 H2 x2 S2=>p ad2 H2 (x1.trans x2) S2⟩
 |false=>
  rw[if_neg Bf]at e ⊢;cases e;exact p ad1 H1 x1 S1
theorem Zcp(σ:L2.St)(H:Hp)(Q:Bool->Hp->Prop)(h:tT K (YC fa (evC (.bl true)) fb) σ H Q):tOr (tT K fa) (tT K fb) σ H Q:=by
 obtain⟨ad,ρ,st,d,st',E,S,e,p⟩:=h;obtain⟨k,st1,q,e⟩:=ZQ e;refine⟨ad,ρ,st,k,st1,E,S,q,fun ad1 H1 x1 S1=>?_⟩
 cases k with
 |true=>
  rw[if_pos rfl]at e ⊢;cases e;exact p ad1 H1 x1 S1
 |false=>
  rw[if_neg Bf]at e ⊢;exact⟨ad1,ρ,st1,d,st',E.mono x1,S1,e,fun ad2 H2 x2 S2=>p ad2 H2 (x1.trans x2) S2⟩
theorem ZaH(σ:L2.St)(H:Hp)(Q:Bool->Hp->Prop)(h:tT K (Zm fa Za8) σ H Q):tNot (tT K fa) σ H Q:=by
 obtain⟨ad,ρ,st,d,st',E,S,e,p⟩:=h;unfold Zm at e;split at e
 ·rename_i x st1 q1
  cases x with
  |bl k=>
   cases (show some (D.bl (!k),st1)=_ from e)
   exact⟨ad,ρ,st,k,_,E,S,q1,fun ad1 H1 x1 S1=>p ad1 H1 x1 S1⟩
  |_=>simp[Za8]at e
 ·exact Zb e
theorem ZaI(σ:L2.St)(H:Hp)(Q:VK)(h:tE K (Zm fa Za8) σ H Q):tNotV (tE K fa) σ H Q:=by
 obtain⟨ad,ρ,st,d,st',E,S,e,p⟩:=h;unfold Zm at e;split at e
 ·rename_i x st1 q1
  cases x with
  |bl k=>
   cases (show some (D.bl (!k),st1)=_ from e)
   exact⟨ad,ρ,st,.bl k,_,E,S,q1,fun v1 ad1 H1 x1 S1 d1=>⟨k,d1.ofBl,(p.later x1).at S1 (.bl _)⟩⟩
  |_=>simp[Za8]at e
 ·exact Zb e
theorem Wq(σ:L2.St)(H:Hp)(Q:Li V->Hp->Prop)(h:tA K (evC (.tup [])) σ H Q):tNil σ H Q:=by
 obtain⟨ad,ρ,st,d,st',E,S,e,p⟩:=h;cases e;exact p [] ad H (Ext.refl _ _) S .nil
theorem XH(σ:L2.St)(H:Hp)(Q:Li V->Hp->Prop)(h:tA K (Zn fa fb Ym) σ H Q):tCons (tE K fa) (tA K fb) σ H Q:=by
 obtain⟨ad,ρ,st,d,st',E,S,e,p⟩:=h;unfold Zn at e;split at e
 ·rename_i x st1 q1
  split at e
  ·rename_i y st2 q2
   cases y with
   |tup zs=>
    have e:(if zs.length < 1000 then some (D.tup (x :: zs),st2) else none)=some (D.tup d,st'):=e
    split at e
    ·cases e
     refine⟨ad,ρ,st,_,st1,E,S,q1,fun v1 ad1 H1 x1 S1 d1=>⟨ad1,ρ,st1,zs,_,E.mono x1,S1,q2,fun v2 ad2 H2 x2 S2 d2=>?_⟩⟩
     exact p _ ad2 H2 (x1.trans x2) S2 (.cons (d1.mono x2) d2)
    ·cases e
   |_=>simp[Ym]at e
  ·cases e
 ·cases e
theorem Zcu(hb:∀ ρ st ds st',fa ρ st=some (.tup ds,st')->ds.length<=1000)(ht:∀ ρ st d st',fa ρ st=some (d,st')->∃ ds,d=.tup ds)(σ:L2.St)(H:Hp)(Q:VK)(h:tE K fa σ H Q):tTup (tA K fa) σ H Q:=by
 obtain⟨ad,ρ,st,d,st',E,S,e,p⟩:=h;obtain⟨ds,rfl⟩:=ht _ _ _ _ e;refine⟨ad,ρ,st,ds,st',E,S,e,fun vs ad1 H1 x1 S1 d1=>⟨?_,fun q hq=>?_⟩⟩
 ·rw[d1.length]
  exact aH (hb _ _ _ _ e) (by decide)
 ·exact p _ ad1 _ (x1.trans (Ext.laid hq)) (S1.laid hq) (.tup (.inl upd_same) (d1.mono (Ext.laid hq)))
theorem Zcn(hb:∀ ρ st ds st',fa ρ st=some (.tup ds,st')->ds.length<=1000)(σ:L2.St)(H:Hp)(Q:VK)(h:tE K (Zm fa Jv) σ H Q):tLst (tA K fa) σ H Q:=by
 obtain⟨ad,ρ,st,d,st',E,S,e,p⟩:=h;unfold Zm at e;split at e
 ·rename_i x st1 q1
  cases x with
  |tup ds=>
   cases (show some (D.lst st1.length,st1++[(true,ds)])=_ from e)
   refine⟨ad,ρ,st,ds,_,E,S,q1,fun vs ad1 H1 x1 S1 d1=>⟨?_,fun q hq=>?_⟩⟩
   ·rw[d1.length]
    exact aH (hb _ _ _ _ q1) (by decide)
   ·refine p _ (ad1++[q]) _ (x1.trans (Ext.push hq)) (S1.push hq d1) (.newL ?_)
    rw[<-S1.len];exact ZB
  |_=>simp[Jv]at e
 ·exact Zb e
def rC(K:Fg)(g:Li D->Za->Res):Li V->Hp->VK->Prop:=fun vs H Q=>∃ ad st ds d st',StOk K ad H st/\Dens K ad H vs ds/\g ds st=some (d,st')/\Post K ad H d st' Q
noncomputable def on1(g:D->Za->Res):Li D->Za->Res
 |[x],st=>g x st
 |_,_=>none
noncomputable def on2(g:D->D->Za->Res):Li D->Za->Res
 |[x,y],st=>g x y st
 |_,_=>none
theorem YN{g:D->Za->Res}(σ:L2.St)(H:Hp)(Q:VK)(h:tE K (Zm fa g) σ H Q):tCB (rC K (on1 g)) (tCons (tE K fa) tNil) σ H Q:=by
 obtain⟨ad,ρ,st,d,st',E,S,e,p⟩:=h;unfold Zm at e;split at e
 ·rename_i x st1 q1
  exact⟨ad,ρ,st,x,st1,E,S,q1,fun v1 ad1 H1 x1 S1 d1=>⟨ad1,st1,[x],d,st',S1,.cons d1 .nil,e,p.later x1⟩⟩
 ·exact Zb e
theorem V2{g:D->D->Za->Res}(σ:L2.St)(H:Hp)(Q:VK)(h:tE K (Zn fa fb g) σ H Q):tCB (rC K (on2 g)) (tCons (tE K fa) (tCons (tE K fb) tNil)) σ H Q:=by
 obtain⟨ad,ρ,st,d,st',E,S,e,p⟩:=h;unfold Zn at e;split at e
 ·rename_i x st1 q1
  split at e
  ·rename_i y st2 q2
   refine⟨ad,ρ,st,x,st1,E,S,q1,fun v1 ad1 H1 x1 S1 d1=>⟨ad1,ρ,st1,y,st2,E.mono x1,S1,q2,fun v2 ad2 H2 x2 S2 d2=>?_⟩⟩
   exact⟨ad2,st2,[x,y],d,st',S2,.cons (d1.mono x2) (.cons d2 .nil),e,p.later (x1.trans x2)⟩
  ·exact Zb e
 ·exact Zb e
noncomputable def tO(K:Fg)(f:Ev):TO:=fun σ H Q=>∃ ad ρ st d st',EnvOk K ad H σ ρ/\StOk K ad H st/\f ρ st=some (d,st') /\
 ((d=.non/\∀ ad' H',Ext ad H ad' H'->StOk K ad' H' st'->Q none H')\/∃ i,d=.int i/\∀ ad' H',Ext ad H ad' H'->StOk K ad' H' st'->Q (some i) H')
def rSl(K:Fg):V->Ot Int->Ot Int->Hp->VK->Prop:=fun x lo hi H Q=>∃ ad st dx d st',StOk K ad H st/\Den K ad H x dx/\Yj dx lo hi st=some (d,st')/\Post K ad H d st' Q
noncomputable def part:D->Ot (Ot Int)
 |.non=>some none
 |.int i=>some (some i)
 |_=>none
theorem VB{x l h:D}{r:D×Za}(e:YT x l h st=some r):∃ lo hi,part l=some lo/\part h=some hi/\Yj x lo hi st=some r:=by
 unfold YT at e;split at e
 ·exact⟨_,_,rfl,rfl,e⟩
 ·exact⟨_,_,rfl,rfl,e⟩
 ·exact⟨_,_,rfl,rfl,e⟩
 ·exact⟨_,_,rfl,rfl,e⟩
 ·exact Zb e
theorem ZdL{f:Ev}{Q:Ot Int->Hp->Prop}{o:Ot Int}(E:EnvOk K ad H σ ρ)(S:StOk K ad H st)(e:f ρ st=some (d,st'))(po:part d=some o)(q:∀ ad' H',Ext ad H ad' H'->StOk K ad' H' st'->Q o H'):tO K f σ H Q:=by
 refine⟨ad,ρ,st,d,st',E,S,e,?_⟩;cases d with
 |non=>cases po;exact .inl ⟨rfl,q⟩
 |int i=>cases po;exact .inr ⟨i,rfl,q⟩
 |_=>exact Zb po
theorem Jr(σ:L2.St)(H:Hp)(Q:VK)(h:tE K (VA fa fb fc YT) σ H Q):tSl (rSl K) (tE K fa) (tO K fb) (tO K fc) σ H Q:=by
 obtain⟨ad,ρ,st,d,st',E,S,e,p⟩:=h;unfold VA at e;split at e
 ·rename_i x st1 q1
  split at e
  ·rename_i y st2 q2
   split at e
   ·rename_i z st3 q3
    obtain⟨lo,hi,pl,ph,e⟩:=VB e;refine⟨ad,ρ,st,x,st1,E,S,q1,fun v1 ad1 H1 x1 S1 d1=>ZdL (E.mono x1) S1 q2 pl fun ad2 H2 x2 S2=>ZdL (E.mono (x1.trans x2)) S2 q3 ph fun ad3 H3 x3 S3=>?_⟩
    exact⟨ad3,st3,x,d,st',S3,d1.mono (x2.trans x3),e,p.later (x1.trans (x2.trans x3))⟩
   ·exact Zb e
  ·exact Zb e
 ·exact Zb e
theorem Zco(σ:L2.St)(H:Hp)(Q:Ot Int->Hp->Prop)(h:tO K (evC .non) σ H Q):tNoPart σ H Q:=by
 obtain⟨ad,ρ,st,d,st',E,S,e,p⟩:=h;cases e;rcases p with⟨_,p⟩|⟨i,z,_⟩
 ·exact p ad H (Ext.refl _ _) S
 ·cases z
end
variable [ClsTab] [xk:XcK]
def PostS(K:Fg)(ad:Li Ad)(H:Hp)(r:Fl)(st':Za)(D:Ends):Prop:=match r with
 |.nx ρ'=>∀ σ' ad' H',Ext ad H ad' H'->StOk K ad' H' st'->EnvOk K ad' H' σ' ρ'->D.nx σ' H'
 |.bk ρ'=>∀ σ' ad' H',Ext ad H ad' H'->StOk K ad' H' st'->EnvOk K ad' H' σ' ρ'->D.bk σ' H'
 |.ct ρ'=>∀ σ' ad' H',Ext ad H ad' H'->StOk K ad' H' st'->EnvOk K ad' H' σ' ρ'->D.ct σ' H'
 |.rt d=>Post K ad H d st' D.rt/\XPost XcK.E K ad H d st'
theorem PostS.later{r:Fl}{D:Ends}(x:Ext ad H ad' H')(p:PostS K ad H r st D):PostS K ad' H' r st D:=by
 cases r with
 |nx ρ=>exact fun σ2 a2 H2 y S E=>p σ2 a2 H2 (x.trans y) S E
 |bk ρ=>exact fun σ2 a2 H2 y S E=>p σ2 a2 H2 (x.trans y) S E
 |ct ρ=>exact fun σ2 a2 H2 y S E=>p σ2 a2 H2 (x.trans y) S E
 |rt d=>exact⟨p.1.later x,p.2.later x⟩
theorem Yr{f:Ex}{D:Ends}{r:Fl}(E:EnvOk K ad H σ ρ)(S:StOk K ad H st)(e:f ρ st=some (r,st'))(p:PostS K ad H r st' D):tS K f D σ H:=by
 refine⟨ad,ρ,st,r,st',E,S,e,?_⟩;cases r<;>exact p
theorem ZJ{f:Ex}{D:Ends}(h:tS K f D σ H):∃ ad ρ st r st',EnvOk K ad H σ ρ/\StOk K ad H st/\f ρ st=some (r,st')/\PostS K ad H r st' D:=by
 obtain⟨ad,ρ,st,r,st',E,S,e,p⟩:=h;refine⟨ad,ρ,st,r,st',E,S,e,?_⟩;cases r<;>exact p
variable{E:Ends}
section
variable {K:Fg}{f g:Ex}{fe fi fk:Ev}
theorem V5(D:Ends)(σ:L2.St)(H:Hp)(h:tS K (fun ρ st=>some (.nx ρ,st)) D σ H):tNext D σ H:=by
 obtain⟨ad,ρ,st,r,st',E,S,e,p⟩:=ZJ h;cases e;exact p σ ad H (Ext.refl _ _) S E
theorem Zci(D:Ends)(σ:L2.St)(H:Hp)(h:tS K (fun ρ st=>some (.bk ρ,st)) D σ H):tBreak D σ H:=by
 obtain⟨ad,ρ,st,r,st',E,S,e,p⟩:=ZJ h;cases e;exact p σ ad H (Ext.refl _ _) S E
theorem Zax(D:Ends)(σ:L2.St)(H:Hp)(h:tS K (fun ρ st=>some (.ct ρ,st)) D σ H):tCont D σ H:=by
 obtain⟨ad,ρ,st,r,st',E,S,e,p⟩:=ZJ h;cases e;exact p σ ad H (Ext.refl _ _) S E
theorem Zct(D:Ends)(σ:L2.St)(H:Hp)(h:tS K (Yu f g) D σ H):tSeq (tS K f) (tS K g) D σ H:=by
 obtain⟨ad,ρ,st,r,st',E,S,e,p⟩:=ZJ h;unfold Yu at e;split at e
 ·rename_i ρ1 st1 q
  exact Yr E S q fun σ1 ad1 H1 x1 S1 E1=>Yr E1 S1 e (p.later x1)
 ·rename_i q
  refine Yr E S e ?_;cases r with
  |nx ρ1=>exact absurd e (q ρ1 st')
  |bk ρ1=>exact p
  |ct ρ1=>exact p
  |rt d=>exact p
theorem Zcs(D:Ends)(σ:L2.St)(H:Hp)(h:tS K (U4 fe) D σ H):tRet (tE K fe) D σ H:=by
 obtain⟨ad,ρ,st,r,st',E,S,e,p⟩:=ZJ h;unfold U4 at e;split at e
 ·rename_i d st1 q
  cases e;exact⟨ad,ρ,st,d,_,E,S,q,p.1⟩
 ·exact Zb e
theorem Vn(D:Ends)(σ:L2.St)(H:Hp)(h:tS K (YS i fe) D σ H):tAsg (tE K fe) (gName i) D σ H:=by
 obtain⟨ad,ρ,st,r,st',E,S,e,p⟩:=ZJ h;unfold YS at e;split at e
 ·rename_i d st1 q
  cases e;exact⟨ad,ρ,st,d,_,E,S,q,fun v ad1 H1 x1 S1 d1=>p _ ad1 H1 x1 S1 ((E.mono x1).set i d1)⟩
 ·exact Zb e
theorem ZaJ(D:Ends)(σ:L2.St)(H:Hp)(h:tS K (Uq i j fe) D σ H):tAsg (tE K fe) (gTup K 2 (gCons (gName i) (gCons (gName j) gNil))) D σ H:=by
 obtain⟨ad,ρ,st,r,st',E,S,e,p⟩:=ZJ h;unfold Uq at e;split at e
 ·rename_i x y st1 q
  cases e;refine⟨ad,ρ,st,_,_,E,S,q,fun v ad1 H1 x1 S1 d1=>?_⟩
  obtain⟨a,vs,rfl,ha,rv⟩:=d1.ofTup;cases rv with
  |cons d1 rv=>
   cases rv with
   |cons d2 rv=>
    cases rv;exact⟨a,_,rfl,(ha).sq,rfl,_,_,rfl,_,_,rfl,rfl,p _ ad1 H1 x1 S1 (((E.mono x1).set i d1).set j d2)⟩
 ·exact Zb e
theorem ZaK{l:Nat}(D:Ends)(σ:L2.St)(H:Hp)(h:tS K (Ur i j l fe) D σ H):tAsg (tE K fe) (gTup K 3 (gCons (gName i) (gCons (gName j) (gCons (gName l) gNil)))) D σ H:=by
 obtain⟨ad,ρ,st,r,st',E,S,e,p⟩:=ZJ h;unfold Ur at e;split at e
 ·rename_i x y z st1 q
  cases e;refine⟨ad,ρ,st,_,_,E,S,q,fun v ad1 H1 x1 S1 d1=>?_⟩
  obtain⟨a,vs,rfl,ha,rv⟩:=d1.ofTup;cases rv with
  |cons d1 rv=>
   cases rv with
   |cons d2 rv=>
    cases rv with
    |cons d3 rv=>
     cases rv;exact⟨a,_,rfl,(ha).sq,rfl,_,_,rfl,_,_,rfl,_,_,rfl,rfl,p _ ad1 H1 x1 S1 ((((E.mono x1).set i d1).set j d2).set l d3)⟩
 ·exact Zb e
theorem JQ{r:Fl}{D:Ends}(En:EnvOk K ad H σ ρ)(e:VI fe ρ st=some (r,st'))(p:PostS K ad H r st' D):∃ d,fe ρ st=some (d,st')/\Post K ad H d st' (fun _ H1=>D.nx σ H1)/\XPost XcK.E K ad H d st':=by
 unfold VI at e;split at e
 ·rename_i k vs st1 q
  cases e;exact⟨_,q,fun v ad1 H1 _ _ d1=>(by cases d1),p.2⟩
 ·rename_i d st1 n q
  cases e;refine⟨d,q,fun v ad1 H1 x1 S1 _=>p σ ad1 H1 x1 S1 (En.mono x1),?_⟩
  unfold XPost;split
  ·exact(n _ _ rfl).elim
  ·exact(n _ _ rfl).elim
  ·trivial
 ·exact Zb e
theorem Jq(D:Ends)(σ:L2.St)(H:Hp)(h:tS K (WB i fe) D σ H):tRaise (ClsTab.ca i) "line" XcK.E (tCons (tE K fe) tNil) D σ H:=by
 obtain⟨ad,ρ,st,r,st',E,S,e,p⟩:=ZJ h;unfold WB at e;split at e
 ·rename_i k st1 q
  cases e;refine⟨ad,ρ,st,.int k,_,E,S,q,fun v ad1 H1 x1 S1 d1=>⟨v,rfl,fun e dx h1 h2 h3=>?_⟩⟩
  cases d1.ofInt;have h4:upd H1 dx (.xd [("line",.int k)]) e=none:=by rw[upd_ne (Ne.symm h3)];exact h1
  exact p.2 ad1 _ dx (x1.trans ((Ext.laid h2).trans (Ext.laid h4))) ((S1.laid h2).laid h4) (by unfold xSeen;rw[upd_ne h3,upd_same])
 ·exact Zb e
theorem Zcm(D:Ends)(σ:L2.St)(H:Hp)(h:tS K (XI fe f g) D σ H):tIfS (tT K fe) (tS K f) (tS K g) D σ H:=by
 obtain⟨ad,ρ,st,r,st',E,S,e,p⟩:=ZJ h;unfold XI at e;split at e
 ·rename_i st1 q
  refine⟨ad,ρ,st,true,st1,E,S,q,fun ad1 H1 x1 S1=>?_⟩
  dsimp only;rw[if_pos rfl];exact Yr (E.mono x1) S1 e (p.later x1)
 ·rename_i st1 q
  refine⟨ad,ρ,st,false,st1,E,S,q,fun ad1 H1 x1 S1=>?_⟩
  dsimp only;rw[if_neg Bf];exact Yr (E.mono x1) S1 e (p.later x1)
 ·exact Zb e
theorem U8{a:Ad}(S:StOk K ad H st)(h:LA ad H i a):∃ b ds,st[i]?=some (b,ds):=by
 have hi:i < st.length:=by rw[<-S.len];exact(bN.mp h.1).1
 exact⟨st[i].1,st[i].2,by rw[Lg hi]⟩
theorem Ql{st2:Za}{a:Ad}{v:V}(S:StOk K ad H st)(h:LA ad H i a)(hd:Den K ad H v d)(e:Q6 i d st=some st2) :
  ∃ xs,H a=some (.lst xs)/\xs.length < sizeLine/\Ext ad H ad (upd H a (.lst (xs++[v])))/\StOk K ad (upd H a (.lst (xs++[v]))) st2:=by
 unfold Q6 at e;split at e
 ·rename_i ds q
  split at e
  ·rename_i hz
   cases e;obtain⟨xs,r,hx⟩:=S.listM h q;refine⟨xs,hx,?_,Ext.write hx (aV h.1),S.write h q hx (r.append (.cons hd .nil))⟩;rw[r.length];exact aQ hz (by decide)
  ·exact Zb e
 ·exact Zb e
theorem Zch(D:Ends)(σ:L2.St)(H:Hp)(h:tS K (JT i fe) D σ H):tDrop (tBM K "list" rAppend (tVar i) (tCons (tE K fe) tNil)) D σ H:=by
 obtain⟨ad,ρ,st,r,st',E,S,e,p⟩:=ZJ h;unfold JT at e;split at e
 ·rename_i a q0
  split at e
  ·rename_i d st1 q1
   split at e
   ·rename_i st2 q2
    cases e;obtain⟨v,e1,e2⟩:=E.at_ i _ q0;obtain⟨l,rfl,hl⟩:=e2.ofLst;obtain⟨b,ds,hc⟩:=U8 S hl;obtain⟨xs,_,sq⟩:=S.list hl hc;refine⟨_,e1,.inl ⟨rfl,xs,sq⟩,ad,ρ,st,d,st1,E,S,q1,fun w ad1 H1 x1 S1 d1=>?_⟩
    obtain⟨ys,hy,hz,x2,S2⟩:=Ql S1 (hl.mono x1) d1 q2;exact⟨l,ys,w,rfl,rfl,hy,hz,p _ ad1 _ (x1.trans x2) S2 (E.mono (x1.trans x2))⟩
   ·exact Zb e
  ·exact Zb e
 ·exact Zb e
theorem Zaw{fo:Ev}(D:Ends)(σ:L2.St)(H:Hp)(h:tS K (VJ fo fe) D σ H):tDrop (tBM K "list" rAppend (tE K fo) (tCons (tE K fe) tNil)) D σ H:=by
 obtain⟨ad,ρ,st,r,st',E,S,e,p⟩:=ZJ h;unfold VJ at e;split at e
 ·rename_i a st0 q0
  split at e
  ·rename_i d st1 q1
   split at e
   ·rename_i st2 q2
    cases e;refine⟨ad,ρ,st,.lst a,st0,E,S,q0,fun v ad0 H0 x0 S0 d0=>?_⟩
    obtain⟨l,rfl,hl⟩:=d0.ofLst;obtain⟨b,ds,hc⟩:=U8 S0 hl;obtain⟨xs,_,sq⟩:=S0.list hl hc;refine⟨.inl ⟨rfl,xs,sq⟩,ad0,ρ,st0,d,st1,E.mono x0,S0,q1,fun w ad1 H1 x1 S1 d1=>?_⟩
    obtain⟨ys,hy,hz,x2,S2⟩:=Ql S1 (hl.mono x1) d1 q2;exact⟨l,ys,w,rfl,rfl,hy,hz,p _ ad1 _ ((x0.trans x1).trans x2) S2 (E.mono ((x0.trans x1).trans x2))⟩
   ·exact Zb e
  ·exact Zb e
 ·exact Zb e

theorem Zai(r:Ents K ad H kvs ds):((Yn kvs).any fun kv=>decide (kv.1=Sum.inr x))=ds.any (isK x):=by
 induction r with
 |nil=>rfl
 |@cons k v d kvs ds h _ ih=>
  rw[show Yn ((k,v) :: kvs)=(Sum.inr k,v) :: Yn kvs from rfl,cL,cL,ih]
  congr 1
  show decide ((Sum.inr k:Key)=Sum.inr x)=decide (k=x);rw[cR];simp
theorem YL(r:Ents K ad H kvs ds):kvs.length=ds.length:=by
 induction r with
 |nil=>rfl
 |cons _ _ ih=>rw[aR,aR,ih]
theorem WO{v:V}(hd:Den K ad H v d)(r:Ents K ad H kvs ds):Ents K ad H (kvs++[(x,v)]) (ds++[.tup [.str x,d]]):=by
 induction r with
 |nil=>exact .cons hd .nil
 |cons h _ ih=>exact .cons h ih
theorem Jm{v:V}(r:Ents K ad H kvs ds)(n:ds.any (isK x)=false):putK (Yn kvs) (Sum.inr x) v=Yn (kvs++[(x,v)]):=by
 unfold putK;rw[Zai r,if_neg (by rw[n];exact Bf)]
 simp
theorem Jl{v:V}(r:Ents K ad H kvs ds)(n:ds.any (isK x)=false):putF x v kvs=kvs++[(x,v)]:=by
 induction r with
 |nil=>rfl
 |@cons k w d kvs ds h _ ih=>
  rw[cL,Bool.or_eq_false_iff]at n;have ne:¬k=x:=of_decide_eq_false n.1;show(if k=x then (k,v) :: kvs else (k,w) :: putF x v kvs)=_
  rw[if_neg ne,ih n.2];rfl
theorem XD(r:Ents K ad H kvs ds):(∃ v d,(valV (Yn kvs) (Sum.inr x)=some v/\kvs.lookup x=some v)/\Yd ds x=some d/\Den K ad H v d)\/((valV (Yn kvs) (Sum.inr x)=none/\kvs.lookup x=none)/\Yd ds x=none):=by
 induction r with
 |nil=>exact .inr ⟨⟨rfl,rfl⟩,rfl⟩
 |@cons k w c kvs ds h _ ih=>
  by_cases q:k=x
  ·subst q
   exact .inl ⟨w,c,⟨valV_pos rfl,by rw[bL,beq_self_eq_true]⟩,by unfold Yd;rw[eK (show isK k (.tup [.str k,c])=true from aF rfl)];rfl,h⟩
  ·have e1:valV (Yn ((k,w) :: kvs)) (Sum.inr x)=valV (Yn kvs) (Sum.inr x):=valV_neg fun z=>q (Sum.inr.inj z)
   have e2:Yd (.tup [.str k,c] :: ds) x=Yd ds x:=by unfold Yd;rw[eB (show ¬isK x (.tup [.str k,c])=true from fun z=>q (of_decide_eq_true z))]
   have e3:List.lookup x ((k,w) :: kvs)=List.lookup x kvs:=by rw[bL,show(x==k)=false from bQ.mpr fun z=>q z.symm]
   rw[e1,e2,e3];exact ih
theorem Jn(r:Ents K ad H kvs ds):(valV (Yn kvs) (Sum.inr x)).isSome=(Yd ds x).isSome:=by
 rcases XD (x:=x) r with⟨w,d0,e1,e2,e3⟩|⟨e1,e2⟩
 ·rw[e1.1,e2];rfl
 ·rw[e1.1,e2];rfl
theorem WW{x k:Str}{v:V}:∀ {kvs:Li (Str×V)},kvs.lookup k=none->k≠x->(kvs++[(x,v)]).lookup k=none
 |[],_,h=>by show List.lookup k [(x,v)]=none;rw[bL,bQ.mpr h];rfl
 | (y,w) :: r,e,h=>by
  rw[bL]at e;show List.lookup k ((y,w) :: (r++[(x,v)]))=none;rw[bL];cases q:k==y with
  |true=>rw[q]at e;cases e
  |false=>rw[q]at e;exact WW e h
theorem Zcr(hx:fldNames.contains x=true)(D:Ends)(σ:L2.St)(H:Hp)(h:tS K (Zbl i (.cst (.str x)) fe) D σ H):sFld K (tVar i) (tE K fe) x D σ H:=by
 obtain⟨ad,ρ,st,r,st',E,S,e,p⟩:=ZJ h;unfold Zbl at e;simp only at e;split at e
 ·rename_i d st1 q1
  split at e
  ·rename_i a q0
   split at e
   ·rename_i c es q2
    split at e
    ·rename_i hz
     cases e;obtain⟨v,e1,e2⟩:=E.at_ i _ q0;obtain⟨l,rfl,hl,n⟩:=e2.ofDic;refine⟨ad,ρ,st,d,st1,E,S,q1,fun w ad1 H1 x1 S1 d1=>⟨_,e1,?_⟩⟩
     obtain⟨j,dx,kvs,rfl,r,ho,_,oc,nf⟩:=S1.obj (x1.pre _ _ hl) ((x1.kd _ _ hl).mp n) q2;have xw:∀ fs,Ext ad1 H1 ad1 (upd H1 l (.ins (ClsTab.ca j) dx fs)):=fun fs=>Ext.writeM ho rfl rfl (aV (x1.pre _ _ hl))
     refine⟨l,_,dx,kvs,rfl,ho,oc.cl,oc.na x hx,by rw[YL r];omega,?_⟩
     rw[Jl r hz.2];exact p _ ad1 _ (x1.trans (xw _)) (S1.writeO (x1.pre _ _ hl) q2 ho oc (WO d1 r) fun k hk=>WW (nf k hk) fun z=>by rw[z,hx]at hk;cases hk) (E.mono (x1.trans (xw _)))
    ·exact Zb e
   ·exact Zb e
  ·exact Zb e
 ·exact Zb e
theorem Zay(σ:L2.St)(H:Hp)(Q:VK)(h:tE K Zdu σ H Q):tDNewK K σ H Q:=by
 obtain⟨ad,ρ,st,d,st',E,S,e,p⟩:=h;cases e;intro q hq hk;exact p _ (ad++[q]) _ (S.extD hq hk) (S.pushD hq hk) (.dic (by rw[<-S.len];exact ZB) ⟨_,upd_same,rfl⟩)
theorem Zaz{fo:Ev}(D:Ends)(σ:L2.St)(H:Hp)(h:tS K (VV fo fk fe) D σ H):tAsg (tE K fe) (gSub (tE K fo) (tE K fk) rSetK) D σ H:=by
 obtain⟨ad,ρ,st,r,st',E,S,e,p⟩:=ZJ h;unfold VV at e;split at e
 ·rename_i d st1 q1
  split at e
  ·rename_i a st2 q2
   split at e
   ·rename_i x st3 q3
    split at e
    ·rename_i ds q4
     split at e
     ·rename_i hz
      cases e;refine⟨ad,ρ,st,d,st1,E,S,q1,fun w ad1 H1 x1 S1 d1=>⟨ad1,ρ,st1,.dic a,st2,E.mono x1,S1,q2,fun w2 ad2 H2 x2 S2 d2=>⟨ad2,ρ,st2,.str x,st3,E.mono (x1.trans x2),S2,q3,fun w3 ad3 H3 x3 S3 d3=>?_⟩⟩⟩
      obtain⟨l,rfl,hl,n⟩:=d2.ofDic;cases d3.ofStr;obtain⟨kvs,r,ho,_⟩:=S3.dict (x3.pre _ _ hl) ((x3.kd _ _ hl).mp n) q4 hz.1;have xw:∀ fs,Ext ad3 H3 ad3 (upd H3 l (.dK fs)):=fun fs=>Ext.writeM ho rfl rfl (aV (x3.pre _ _ hl))
      refine⟨l,_,Sum.inr x,rfl,rfl,ho,by rw[aJ,YL r];exact aQ hz.2.1 (by decide),?_⟩
      rw[Jm r hz.2.2];exact p _ ad3 _ (x1.trans (x2.trans (x3.trans (xw _)))) (S3.writeD (x3.pre _ _ hl) q4 ho (WO (d1.mono (x2.trans x3)) r)) (E.mono (x1.trans (x2.trans (x3.trans (xw _)))))
     ·exact Zb e
    ·exact Zb e
   ·exact Zb e
  ·exact Zb e
 ·exact Zb e
def Left(K:Fg)(b:D->Env->Za->Ot (Fl×Za))(E:Ends)(xs:Li D)(σ:L2.St)(H:Hp):Prop:=∃ ad ρ st r st',EnvOk K ad H σ ρ/\StOk K ad H st/\Yx b xs ρ st=some (r,st')/\PostS K ad H r st' E
theorem Left.turn{b:Ex}{x:D}{xs:Li D}{H:Hp}{v:V}(hv:∀ ad H,Den K ad H v x)(h:Left K (fun d ρ s=>b (Zj ρ i d) s) E (x :: xs) σ H) :
  tS K b { E with nx:=Left K (fun d ρ s=>b (Zj ρ i d) s) E xs,ct:=Left K (fun d ρ s=>b (Zj ρ i d) s) E xs,bk:=E.nx } (σ.set i (some v)) H:=by
 obtain⟨ad,ρ,st,r,st',En,S,e,p⟩:=h;unfold Yx at e;have En2:=En.set i (hv ad H);split at e
 ·rename_i ρ1 st1 q
  exact Yr En2 S q fun σ1 ad1 H1 x1 S1 E1=>⟨ad1,ρ1,st1,r,st',E1,S1,e,p.later x1⟩
 ·rename_i ρ1 st1 q
  exact Yr En2 S q fun σ1 ad1 H1 x1 S1 E1=>⟨ad1,ρ1,st1,r,st',E1,S1,e,p.later x1⟩
 ·rename_i ρ1 st1 q
  cases e;exact Yr En2 S q fun σ1 ad1 H1 x1 S1 E1=>p σ1 ad1 H1 x1 S1 E1
 ·rename_i d st1 q
  cases e;exact Yr En2 S q p
 ·exact Zb e
theorem Left.done{b:D->Env->Za->Ot (Fl×Za)}(h:Left K b E [] σ H):E.nx σ H:=by
 obtain⟨ad,ρ,st,r,st',En,S,e,p⟩:=h;cases e;exact p σ ad H (Ext.refl _ _) S En
theorem U1(n k:Nat)(h:k < n):((List.range n).map fun(j:Nat)=>D.int (j:Int)).drop k=D.int (k:Int) :: ((List.range n).map fun(j:Nat)=>D.int (j:Int)).drop (k+1):=by
 rw[cN (by simpa using h)]
 simp
theorem ZaE(E:Ends)(σ:L2.St)(H:Hp)(h:tS K (Wn i true fi f) E σ H):tFor (iRng1 (tCons (tE K fi) tNil)) (gName i) (tS K f) E σ H:=by
 obtain⟨ad,ρ,st,r,st',En,S,e,p⟩:=ZJ h;unfold Wn at e;split at e
 ·rename_i x st1 q1
  cases x with
  |int n=>
   have e:(match (if n < 2 ^ 62/\-(2 ^ 62)<=n then some ((List.range n.toNat).map fun(k:Nat)=>D.int (k:Int)) else none) with
    |some xs=>Yx (fun d ρ s=>f (Zj ρ i d) s) xs ρ st1
    |none=>none)=some (r,st'):=e
   by_cases hn:n < 2 ^ 62/\-(2 ^ 62)<=n
   ·rw[if_pos hn]at e
    refine⟨ad,ρ,st,.int n,st1,En,S,q1,fun v ad1 H1 x1 S1 d1=>⟨n,by rw[d1.ofInt],hn.2,hn.1,?_⟩⟩
    refine for_range (fun k σ' H'=>Left K (fun d ρ s=>f (Zj ρ i d) s) E (((List.range n.toNat).map fun(k:Nat)=>D.int (k:Int)).drop k) σ' H') ⟨ad1,ρ,st1,r,st',En.mono x1,S1,e,p.later x1⟩ (fun k σ' H' hk L=>?_) fun σ' H' L=>?_
    ·rw[U1 _ _ hk]at L
     have z:(0:Int)+(k:Int)=(k:Int):=Int.zero_add _;rw[z];exact L.turn fun _ _=>.int _
    ·rw[dE (by simp)]at L
     exact L.done
   ·rw[if_neg hn]at e
    cases e
  |_=>exact Zb e
 ·exact Zb e
theorem V4{G:TG}{B:D->Env->Za->Ot (Fl×Za)}(E:Ends)(σ:L2.St)(H:Hp){ad:Li Ad}{ρ:Env}{st st1:Za}{r:Fl}{l:Nat}{bb:Bool}{xs:Li D}(En:EnvOk K ad H σ ρ)(S:StOk K ad H st)(q1:fi ρ st=some (.lst l,st1))(q2:st1[l]?=some (bb,xs))(e:Zv B l xs.length 0 ρ st1=some (r,st'))(p:PostS K ad H r st' E)(hG:∀ (x:D) (v:V) (σ:L2.St) (H:Hp) (ad:Li Ad) (ρ:Env) (st st1:Za) (r1:Fl) (E':Ends),EnvOk K ad H σ ρ->StOk K ad H st->Den K ad H v x->B x ρ st=some (r1,st1)->PostS K ad H r1 st1 E'->G v σ H fun σ2 H2=>tS K f E' σ2 H2) :
  tFor (iList K (tE K fi)) G (tS K f) E σ H:=by
 refine⟨ad,ρ,st,.lst l,st1,En,S,q1,fun v ad1 H1 x1 S1 d1=>?_⟩
 obtain⟨a,rfl,ha⟩:=d1.ofLst;obtain⟨vs,rv,sq⟩:=S1.list ha q2;refine⟨a,rfl,⟨vs,sq⟩,?_⟩;refine⟨fun k m σ' H'=>∃ ad2 ρ2 st2,(EnvOk K ad2 H' σ' ρ2/\StOk K ad2 H' st2/\LA ad2 H' l a)/\Zv B l m k ρ2 st2=some (r,st')/\PostS K ad2 H' r st' E,⟨xs.length,ad1,ρ,st1,⟨En.mono x1,S1,ha⟩,e,p.later x1⟩,?_⟩
 rintro k m σ' H' ⟨ad2,ρ2,st2,⟨En2,S2,ha2⟩,e2,p2⟩
 obtain⟨b2,ys,hc⟩:=U8 S2 ha2;obtain⟨ws,rw',sq2⟩:=S2.list ha2 hc;have stop:ys.length<=k->Zv B l m k ρ2 st2=some (.nx ρ2,st2):=fun hk=>by
  cases m with
  |zero=>unfold Zv;simp only[hc];rw[if_pos hk]
  |succ m=>unfold Zv;simp only[hc,cY hk]
 by_cases hk:ys.length<=k
 ·refine .inl ⟨⟨ws,sq2,by rw[rw'.length];exact hk⟩,?_⟩
  rw[stop hk]at e2;cases e2;exact p2 σ' ad2 H' (Ext.refl _ _) S2 En2
 ·have hk':k < ys.length:=by omega
  have hy:ys[k]?=some ys[k]:=Lg hk';obtain⟨w,ew,dw⟩:=rw'.get hy;cases m with
  |zero=>
   unfold Zv at e2;simp only[hc]at e2;rw[if_neg hk]at e2;cases e2
  |succ m=>
   unfold Zv at e2;simp only[hc,hy]at e2;refine .inr ⟨⟨ws,w,sq2,ew⟩,fun σ3 H3=>∃ ad3 ρ3 st3,(EnvOk K ad3 H3 σ3 ρ3/\StOk K ad3 H3 st3/\LA ad3 H3 l a)/\Zv B l m (k+1) ρ3 st3=some (r,st')/\PostS K ad3 H3 r st' E,fun σ3 H3 h3=>⟨m,Nat.lt_succ_self m,h3⟩,fun x H3 hx=>?_⟩
   obtain⟨rfl,hx⟩:=hx;have ex:=hx ws sq2;rw[ew]at ex;cases ex
   split at e2
   ·rename_i ρ3 st3 q
    exact hG _ _ _ _ ad2 ρ2 st2 _ _ _ En2 S2 dw q fun σ4 ad4 H4 x4 S4 E4=>⟨ad4,ρ3,st3,⟨E4,S4,ha2.mono x4⟩,e2,p2.later x4⟩
   ·rename_i ρ3 st3 q
    exact hG _ _ _ _ ad2 ρ2 st2 _ _ _ En2 S2 dw q fun σ4 ad4 H4 x4 S4 E4=>⟨ad4,ρ3,st3,⟨E4,S4,ha2.mono x4⟩,e2,p2.later x4⟩
   ·rename_i ρ3 st3 q
    cases e2;exact hG _ _ _ _ ad2 ρ2 st2 _ _ _ En2 S2 dw q fun σ4 ad4 H4 x4 S4 E4=>p2 σ4 ad4 H4 x4 S4 E4
   ·rename_i d st3 q
    cases e2;exact hG _ _ _ _ ad2 ρ2 st2 _ _ _ En2 S2 dw q p2
   ·exact Zb e2
theorem ZaC(E:Ends)(σ:L2.St)(H:Hp)(h:tS K (Wn i false fi f) E σ H):tFor (iList K (tE K fi)) (gName i) (tS K f) E σ H:=by
 obtain⟨ad,ρ,st,r,st',En,S,e,p⟩:=ZJ h;unfold Wn at e;split at e
 ·rename_i x st1 q1
  cases x with
  |lst l=>
   have e:(match st1[l]? with
    |some (_,xs)=>Zv (fun d ρ s=>f (Zj ρ i d) s) l xs.length 0 ρ st1
    |none=>none)=some (r,st'):=e
   split at e
   ·rename_i bb xs q2
    refine V4 E σ H En S q1 q2 e p fun x v σ H ad ρ st st1 r1 E' En S dv e1 p1=>?_
    exact Yr (En.set i dv) S e1 p1
   ·exact Zb e
  |_=>exact Zb e
 ·exact Zb e
theorem ZaA(E:Ends)(σ:L2.St)(H:Hp)(h:tS K (VY i j fi f) E σ H):tFor (iList K (tE K fi)) (gTup K 2 (gCons (gName i) (gCons (gName j) gNil))) (tS K f) E σ H:=by
 obtain⟨ad,ρ,st,r,st',En,S,e,p⟩:=ZJ h;unfold VY at e;split at e
 ·rename_i l st1 q1
  split at e
  ·rename_i bb xs q2
   refine V4 E σ H En S q1 q2 e p fun x v σ H ad ρ st st1 r1 E' En S dv e1 p1=>?_
   unfold QN at e1;split at e1
   ·rename_i y z
    obtain⟨a,vs,rfl,ha,rv⟩:=dv.ofTup;cases rv with
    |cons d1 rv=>
     cases rv with
     |cons d2 rv=>
      cases rv;exact⟨a,_,rfl,(ha).sq,rfl,_,_,rfl,_,_,rfl,rfl,Yr ((En.set i d1).set j d2) S e1 p1⟩
   ·exact Zb e1
  ·exact Zb e
 ·exact Zb e
noncomputable def Itz(K:Fg)(a b:Ad):It:=
 ⟨fun i H=>∃ xs ys x y,SqL K H a xs/\SqT K H b ys/\xs[i]?=some x/\ys[i]?=some y,
  fun i H v H'=>∃ p x y,v=.ref p/\H p=none/\H'=upd H p (.tup [x,y])/\(∀ xs,SqL K H a xs->xs[i]?=some x)/\∀ ys,SqT K H b ys->ys[i]?=some y,
  fun i H=>∃ xs ys,SqL K H a xs/\SqT K H b ys/\min xs.length ys.length<=i⟩
noncomputable def Zeo(K:Fg)(ta:TA):TI:=fun σ H R=>ta σ H fun vs H1=>∃ a b,vs=[.ref a,.ref b]/\(∃ xs,SqL K H1 a xs)/\(∃ ys,SqT K H1 b ys)/\R (Itz K a b) H1
theorem ZaY{ok:Za->Prop}{B:D->D->Env->Za->Ot (Fl×Za)}{l:Li (D×D)}{z:Fl×Za}(e:ZZ ok B l ρ st=some z):ok st:=by
 cases l with
 |nil=>
  unfold ZZ at e;by_cases h:ok st
  ·exact h
  ·rw[if_neg h]at e;cases e
 |cons _ _=>
  unfold ZZ at e;by_cases h:ok st
  ·exact h
  ·rw[if_neg h]at e;cases e
inductive LK(K:Fg)(ok:Za->Prop)(B:D->D->Env->Za->Option (Fl×Za))(qs:List (D×D))(Good:List Addr->Hp->Prop)(r:Fl)(st':Za)(E:Ends)(k m:Nat)(σ:L2.St)(H:Hp):Prop
 |mk {ad:List Addr}{ρ:Env}{st:Za} (hk:k+m=qs.length) (En:EnvOk K ad H σ ρ) (S:StOk K ad H st) (g:Good ad H) (e:ZZ ok B (qs.drop k) ρ st=some (r,st')) (p:PostS K ad H r st' E):LK K ok B qs Good r st' E k m σ H
theorem Wv{ok:Za->Prop}{qs:Li (D×D)}{Good:Li Ad->Hp->Prop}{r:Fl}{J:It}(gm:∀ ad H ad' H',Ext ad H ad' H'->Good ad H->Good ad' H')(stop:∀ ad H st,Good ad H->StOk K ad H st->ok st->J.stop qs.length H)(go:∀ k ad H st q,Good ad H->StOk K ad H st->ok st->qs[k]?=some q->∃ w1 w2,J.go k H/\Den K ad H w1 q.1/\Den K ad H w2 q.2/\∀ x H',J.yld k H x H'->∃ pt,x=.ref pt/\H pt=none/\H'=upd H pt (.tup [w1,w2]))(k m:Nat)(σ:L2.St)(H:Hp)(h:LK K ok (fun x y ρ s=>f (Zj (Zj ρ i x) j y) s) qs Good r st' E k m σ H) :
  (J.stop k H/\E.nx σ H)\/(J.go k H/\∃ N:L2.St->Hp->Prop,(∀ σ' H',N σ' H'->∃ m',m' < m/\LK K ok (fun x y ρ s=>f (Zj (Zj ρ i x) j y) s) qs Good r st' E (k+1) m' σ' H')/\∀ x H',J.yld k H x H'->gTup K 2 (gCons (gName i) (gCons (gName j) gNil)) x σ H' fun σ2 H2=>tS K f { E with nx:=N,ct:=N,bk:=E.nx } σ2 H2):=by
 cases h with
 |@mk ad ρ st hkm En S g e p=>
  have ok2:=ZaY e;by_cases hk:qs.length<=k
  ·have hk':k=qs.length:=by omega
   subst hk';rw[List.drop_length]at e;unfold ZZ at e;rw[if_pos ok2]at e;cases e;exact .inl ⟨stop _ _ _ g S ok2,p σ _ H (Ext.refl _ _) S En⟩
  ·have hk':k < qs.length:=Nat.lt_of_not_le hk
   obtain⟨w1,w2,hgo,dw1,dw2,hy⟩:=go k _ _ _ qs[k] g S ok2 (Lg hk');rw[cN hk']at e;unfold ZZ at e;rw[if_pos ok2]at e;generalize qs[k]=q at e dw1 dw2;refine .inr ⟨hgo,LK K ok (fun x y ρ s=>f (Zj (Zj ρ i x) j y) s) qs Good r st' E (k+1) (m - 1),fun σ3 H3 h3=>⟨m - 1,by omega,h3⟩,fun x H3 hx=>?_⟩
   obtain⟨pt,rfl,hpt,rfl⟩:=hy x H3 hx;have xt:Ext ad H ad (upd H pt (.tup [w1,w2])):=Ext.laid hpt;have fin:∀ {rr:Fl}{s3:Za}{E':Ends},f (Zj (Zj ρ i q.1) j q.2) st=some (rr,s3)->PostS K ad (upd H pt (.tup [w1,w2])) rr s3 E'->gTup K 2 (gCons (gName i) (gCons (gName j) gNil)) (.ref pt) σ (upd H pt (.tup [w1,w2])) fun σ2 H2=>tS K f E' σ2 H2:=fun q pp=>
    ⟨pt,_,rfl,SqT.of upd_same,rfl,_,_,rfl,_,_,rfl,rfl,Yr (((En.mono xt).set i (dw1.mono xt)).set j (dw2.mono xt)) (S.laid hpt) q pp⟩
   have nxt:∀ {ρ3:Env}{st3:Za},ZZ ok (fun x y ρ s=>f (Zj (Zj ρ i x) j y) s) (qs.drop (k+1)) ρ3 st3=some (r,st')->∀ (σ4:L2.St) (ad4:Li Ad) (H4:Hp),Ext ad (upd H pt (.tup [w1,w2])) ad4 H4->StOk K ad4 H4 st3->EnvOk K ad4 H4 σ4 ρ3->LK K ok (fun x y ρ s=>f (Zj (Zj ρ i x) j y) s) qs Good r st' E (k+1) (m - 1) σ4 H4:=fun e3 σ4 ad4 H4 x4 S4 E4=>
    .mk (by omega) E4 S4 (gm _ _ _ _ (xt.trans x4) g) e3 (p.later (xt.trans x4))
   clear hy go stop hkm hk hk' hgo;split at e
   ·rename_i q0
    exact fin q0 (nxt e)
   ·rename_i q0
    exact fin q0 (nxt e)
   ·rename_i q0
    cases e;exact fin q0 fun σ4 ad4 H4 x4 S4 E4=>p σ4 ad4 H4 (xt.trans x4) S4 E4
   ·rename_i q0
    cases e;exact fin q0 (p.later xt)
   ·exact Zb e
theorem ZaD(E:Ends)(σ:L2.St)(H:Hp)(h:tS K (V0 i j fi f) E σ H):tFor (Zeo K (tA K fi)) (gTup K 2 (gCons (gName i) (gCons (gName j) gNil))) (tS K f) E σ H:=by
 obtain⟨ad,ρ,st,r,st',En,S,e,p⟩:=ZJ h;unfold V0 at e;split at e
 ·rename_i la ys st1 q1
  split at e
  ·rename_i ca hca
   refine⟨ad,ρ,st,_,st1,En,S,q1,fun vs ad1 H1 x1 S1 d1=>?_⟩
   obtain⟨v1,v2,rfl,dv1,dv2⟩:∃ v1 v2,vs=[v1,v2]/\Den K ad1 H1 v1 (.lst la)/\Den K ad1 H1 v2 (.tup ys):=by
    cases d1 with
    |cons h1 d1=>
     cases d1 with
     |cons h2 d1=>cases d1;exact⟨_,_,rfl,h1,h2⟩
   obtain⟨a,rfl,ha⟩:=dv1.ofLst;obtain⟨b,ws,rfl,hb,rw0⟩:=dv2.ofTup;obtain⟨us,ru,squ⟩:=S1.list ha (show st1[la]?=some (ca.1,ca.2) from hca);refine⟨a,b,rfl,⟨us,squ⟩,⟨ws,hb.sq⟩,_,⟨_,.mk (Good:=fun ad H=>LA ad H la a/\TupAt K H b ws/\Dens K ad H ws ys) (cZ _) (En.mono x1) S1 ⟨ha,hb,rw0⟩ e (p.later x1)⟩,Wv (fun _ _ _ _ x g=>⟨g.1.mono x,g.2.1.mono x,g.2.2.mono x⟩) (fun ad H st g S o=>?_) fun k ad H st q g S o hq=>?_⟩
   ·obtain⟨us,ru,squ⟩:=S.list g.1 (show st[la]?=some (ca.1,ca.2) from o)
    exact⟨us,ws,squ,g.2.1.sq,by rw[ru.length,g.2.2.length];exact cU (dA ..).symm⟩
   ·obtain⟨us,ru,squ⟩:=S.list g.1 (show st[la]?=some (ca.1,ca.2) from o)
    obtain⟨h1,h2⟩:=List.getElem?_zip_eq_some.mp hq;obtain⟨w1,e1,d1⟩:=ru.get h1;obtain⟨w2,e2,d2⟩:=g.2.2.get h2;exact⟨w1,w2,⟨us,ws,w1,w2,squ,g.2.1.sq,e1,e2⟩,d1,d2,fun x H' ⟨pt,y1,y2,z1,z2,z3,hy1,hy2⟩=>⟨pt,z1,z2,by have z:=hy1 us squ;rw[e1]at z;cases z;have z:=hy2 ws g.2.1.sq;rw[e2]at z;cases z;exact z3⟩⟩
  ·exact Zb e
 ·exact Zb e
end
variable [ClsTab]
end Dp



namespace Dp
open PySem PySem.Spec PyProof.Rows L2 Builtin Builtin.Str
variable [ClsTab]
variable{w:World}{x s y:Str}
section
variable {X:Cx}{tg:Expr}
noncomputable def Itx(x:Str):It:=⟨fun i _=>i < x.cps.size,fun i H v H'=>H'=H/\∃ c,x.cps[i]?=some c/\v=.str ⟨#[c]⟩,fun i _=>x.cps.size<=i⟩
theorem ZbC{P:Program}{K:Fg}(x:Str)(t:Tok)(it:Ad):Turn P w K tg (Itx x) [it] it (fun i h=>h.IsStrIter it "str_ascii_iterator" x t i) where
 mem:=by simp
 obj:=fun i h st b hb=>by
  have e:b=it:=by simpa using hb
  subst e;obtain⟨o,e,c,d⟩:=st;exact⟨o,e,fun v z=>by rw[d]at z;cases z⟩
 keep:=fun i h h' st k=>by
  obtain⟨o,e,c⟩:=st;exact⟨o,k it (by simp) o e,c⟩
 item:=by
  intro X hP hw hK hc i pQ s σ H E I hf st hg;subst hP hw hK;have hg:i < x.cps.size:=hg;have hx:x.cps[i]?=some x.cps[i]:=Array.getElem?_eq_getElem hg;obtain⟨f0,f1,f2,f3,f4,f5⟩:=hf it (by simp)
  refine wpAny_pyNext_ascii_item st hx fun h' st' sb=>?_
  have I1:Inv X pQ σ H { s with heap:=h',toks:=s.toks+1 }:=I.turned (t':=s.toks+1) (fun b o hb e=>(sb.2 b hb).trans e) f0 f1 f3 f4 f5
  obtain⟨o,e,c,d⟩:=id st';exact⟨_,rfl,go_of (s:={ s with heap:=h',toks:=s.toks+1 }) e c d (by decide) ⟨.str ⟨#[x.cps[i]]⟩,H,I1,⟨_,rfl⟩,⟨rfl,_,hx,rfl⟩,st',fun b hb=>(hf b hb).1⟩⟩
 done:=by
  intro X hP hw hK hc i pQ s σ H E I hf st hg;subst hP hw hK;have hg:x.cps.size<=i:=hg;obtain⟨f0,f1,f2,f3,f4,f5⟩:=hf it (by simp)
  exact wpAny_pyNext_ascii_end (I.ok.hd hc) st (Array.getElem?_eq_none hg) fun h' eb=>⟨rfl,I.turned (t':=s.toks) (fun b o hb e=>eb b o hb e) f0 f1 f3 f4 f5⟩
 self:=fun _ _ _ _ _ st h=>wpAny_pyIter_striter_ascii st h
noncomputable def ZfE(tl:TE):TI:=fun σ H R=>tl σ H fun x H1=>∃ z,x=.str z/\z.cps.all (fun c=>decide (c < 128))=true/\R (Itx z) H1
theorem ZeD{l:Expr}{tl:TE}(hl:PE X l tl):PI X tg l (ZfE tl):=by
 intro pQ s σ H R I h;refine thn (hl pQ s σ H _ I h) fun v s1 ⟨x,H1,I1,r1,q1⟩=>?_
 obtain⟨z,e,hz,q⟩:=q1;subst e;obtain⟨t,rfl⟩:=r1;refine wpAny_pyIter_ascii hz ?_;refine⟨s1.heap.objs.size,[s1.heap.objs.size],_,_,H1,rfl,I1.kept (t':=s1.toks) fun b o e=>aO _ e,ZbC z t _,⟨_,bA _ rfl,rfl,rfl⟩,fun b hb=>?_,q⟩
 have e:b=s1.heap.objs.size:=by simpa using hb
 subst e;exact I1.fpOk (aE _) (I1.hok.fresh (aE _))
theorem JA{xs:Li Nat}{a m:Nat}(h:a+m<=xs.length):((List.range m).map fun k=>a+k).filterMap (xs[·]?)=(xs.drop a).take m:=by
 apply List.ext_getElem?
 intro i
 induction m generalizing a i with
 |zero=>simp
 |succ m ih=>
  have ha:a < xs.length:=by omega
  rw[List.range_succ_eq_map,aT,bI,List.filterMap_cons_some (b:=xs[a]) (by simp[ha]),cN ha,List.take_succ_cons]
  cases i with
  |zero=>rfl
  |succ i=>
   rw[eL,eL,<-ih (a:=a+1) (by omega) i]
   congr 2
   apply List.map_congr_left
   intro k _;show a+(k+1)=a+1+k;omega
theorem X0(n d:Nat)(o:Ot Int)(hd:d<=n):(match o with
  |none=>(d:Int)
  |some i=>max 0 (min (if i < 0 then i+(n:Int) else i) (n:Int)))=((Dp.sIx n d o:Nat):Int)/\Dp.sIx n d o<=n:=by
 cases o with
 |none=>exact⟨rfl,hd⟩
 |some i=>
  show max 0 (min (if i < 0 then i+(n:Int) else i) (n:Int))=((if i < 0 then (i+n).toNat else Nat.min i.toNat n:Nat):Int)/\(if i < 0 then (i+n).toNat else Nat.min i.toNat n)<=n
  by_cases h:i < 0
  ·rw[if_pos h,if_pos h];omega
  ·rw[if_neg h,if_neg h]
   show max 0 (min i (n:Int))=((min i.toNat n:Nat):Int)/\min i.toNat n<=n;omega
theorem Ze1(x:Str)(lo hi:Ot Int):((strSliceIndices lo hi 1 x.length).filterMap (x.cps[·]?))=(x.cps.toList.drop (Dp.sIx x.length 0 lo)).take (Dp.sIx x.length x.length hi - Dp.sIx x.length 0 lo):=by
 obtain⟨e1,l1⟩:=X0 x.length 0 lo (bH _);obtain⟨e2,l2⟩:=X0 x.length x.length hi (aE _);have hl:x.cps.toList.length=x.length:=bO;generalize Dp.sIx x.length 0 lo=a at *
 generalize Dp.sIx x.length x.length hi=b at *
 have e:strSliceIndices lo hi 1 x.length=sliceRange (a:Int) (b:Int) 1:=by
  rw[<-e1,<-e2];rfl
 rw[e];have er:sliceRange (a:Int) (b:Int) 1=(List.range (b - a)).map fun k=>a+k:=by
  have ec:(if (a:Int) < (b:Int) then ((b:Int) - (a:Int)+1 - 1) / 1 else 0).toNat=b - a:=by
   split
   ·rw[Int.ediv_one];omega
   ·show 0=b - a;omega
  show(List.range (if (a:Int) < (b:Int) then ((b:Int) - (a:Int)+1 - 1) / 1 else 0).toNat).map (fun(k:Nat)=>((a:Int)+1 * (k:Int)).toNat)=_
  rw[ec];apply List.map_congr_left
  intro k _;omega
 have ea:(fun i:Nat=>x.cps[i]?)=fun i=>x.cps.toList[i]?:=by funext i;simp
 rw[er,ea];by_cases hab:a<=b
 ·exact JA (by omega)
 ·rw[show b - a=0 by omega];simp
theorem Zab{lo hi:Ot Int}(h:(strSliceIndices lo hi 1 x.length).length=x.length):Z9 x lo hi=x:=by
 obtain⟨e1,l1⟩:=X0 x.length 0 lo (bH _);obtain⟨e2,l2⟩:=X0 x.length x.length hi (aE _);have hl:x.cps.toList.length=x.length:=bO;unfold Z9;generalize Dp.sIx x.length 0 lo=a at *
 generalize Dp.sIx x.length x.length hi=b at *
 have e:strSliceIndices lo hi 1 x.length=sliceRange (a:Int) (b:Int) 1:=by
  rw[<-e1,<-e2];rfl
 rw[e]at h;have h:((List.range (if (a:Int) < (b:Int) then ((b:Int) - (a:Int)+1 - 1) / 1 else 0).toNat).map (fun(k:Nat)=>((a:Int)+1 * (k:Int)).toNat)).length=x.length:=h
 rw[aJ,bX]at h;have hk:(x.cps.toList.drop a).take (b - a)=x.cps.toList:=by
  split at h
  ·rw[Int.ediv_one]at h
   have:a=0:=by omega
   subst this;rw[dO,bR (by omega)]
  ·have:x.cps.toList=[]:=List.eq_nil_of_length_eq_zero (by have:(0:Int).toNat=0:=rfl;omega)
   rw[this];simp
 rw[hk]
theorem Ze2:SlR X (fun x lo hi H Q=>∃ z,x=.str z/\z.length<=sizeLine/\Q (.str (Z9 z lo hi)) H):=by
 intro pQ s σ H x v vl vu lo hi sl Q I rx hs pl pu h;obtain⟨z,rfl,hz,q⟩:=h;obtain⟨t,rfl⟩:=rx;have pv:∀ {v:vL}{o:Ot Int},IsPart v o->∃ l:Ot (Int×Tok),v=partValue l/\l.map (·.1)=o:=fun {v o} p=>by
  cases p with
  |none=>exact⟨none,rfl,rfl⟩
  |int i t=>exact⟨some (i,t),rfl,rfl⟩
 obtain⟨l,rfl,el⟩:=pv pl;obtain⟨u,rfl,eu⟩:=pv pu;refine⟨"str",_,slot_str_getitem.lookup,typeIs_str s z t,wpAny_getItem_str_slice (l:=l) (u:=u) (st:=none) hs rfl ?_⟩;unfold sliceMade slicePicked;rw[el,eu];show(if ((1:Int)==1&&(strSliceIndices lo hi 1 z.length).length==z.length)=true then Made.val (.str z t) else Made.str ⟨((strSliceIndices lo hi 1 z.length).filterMap (z.cps[·]?)).toArray⟩).post _ s
 by_cases hw:((1:Int)==1&&(strSliceIndices lo hi 1 z.length).length==z.length)=true
 ·rw[if_pos hw]
  have hw':(strSliceIndices lo hi 1 z.length).length=z.length:=by simpa using hw
  rw[Zab hw']at q;exact⟨.str z,H,I,⟨t,rfl⟩,q⟩
 ·rw[if_neg hw,Ze1]
  refine⟨?_,.str (Z9 z lo hi),H,I.tok _,⟨_,rfl⟩,q⟩;have:((z.cps.toList.drop (Dp.sIx z.length 0 lo)).take (Dp.sIx z.length z.length hi - Dp.sIx z.length 0 lo)).length<=z.cps.toList.length:=by
   rw[bF,cA];omega
  have hl:z.cps.toList.length=z.length:=bO;show(List.toArray _).size<=_;rw[aY];omega
theorem Zam{l:Li Nat}(h:V6 l=true):PySem.NumText.AllDigits l/\l≠[]/\l.length<=600:=by
 unfold V6 at h;simp only[Ba,bE,dF,List.isEmpty_eq_false_iff,bP]at h;refine⟨fun c hc=>?_,h.1.1,h.2⟩
 have:=h.1.2 c hc;unfold WH at this;simpa using this
theorem ZaL{i:Int}(h:WG x=some i):PySem.intText? x=some i/\x.length<=640:=by
 have hl:x.cps.toList.length=x.length:=bO;unfold WG at h;split at h
 ·rename_i r e
  split at h
  ·rename_i hf
   cases h;obtain⟨h1,h2,h3⟩:=Zam hf;have hx:x.length<=601:=by rw[<-hl,e,aR];omega
   exact⟨PySem.intText_neg e h1 h2 (by omega),by omega⟩
  ·exact Zb h
 ·rename_i l _
  split at h
  ·rename_i hf
   cases h;obtain⟨h1,h2,h3⟩:=Zam hf;have hx:x.length<=601:=by rw[<-hl];omega
   exact⟨PySem.intText_digits h1 h2 (by omega),by omega⟩
  ·exact Zb h
theorem Q8:CallR X (.type "int") (fun xs H Q=>∃ x i,xs=[.str x]/\WG x=some i/\Q (.int i) H):=by
 intro pQ s σ H xs us Q I r h;obtain⟨x,i,rfl,hi,q⟩:=h;obtain⟨u,rfl,t,rfl⟩:=vals1 r;obtain⟨h1,h2⟩:=ZaL hi;exact PySem.W.KIN.call_text h1 h2 ⟨.int i,H,I.tok _,⟨_,rfl⟩,q⟩
theorem Jd:CallR X (.type "str") (fun xs H Q=>∃ i,xs=[.int i]/\Yo i=true/\Q (.str (Str.ofString (toString i))) H):=by
 intro pQ s σ H xs us Q I r h;obtain⟨i,rfl,hi,q⟩:=h;obtain⟨u,rfl,t,rfl⟩:=vals1 r;refine PySem.P.str_of_int ?_ ⟨.str (Str.ofString (toString i)),H,I.tok _,⟨_,rfl⟩,q⟩;unfold Yo at hi;simp only[Ba,bE]at hi;by_cases h0:i.natAbs=0
 ·rw[h0];decide
 ·have:i.natAbs < 2 ^ 64:=by omega
  have:=(Nat.log2_lt h0).mpr this;omega
theorem Jw:MtR X "str.startswith" (fun x xs H Q=>∃ z y,x=.str z/\xs=[.str y]/\Q (.bl (stW z y)) H):=by
 intro pQ s σ H x xs v us Q I rx r h;obtain⟨z,y,rfl,rfl,q⟩:=h;obtain⟨t,rfl⟩:=rx;obtain⟨u,rfl,t',rfl⟩:=vals1 r;refine PySem.SC.startswith ⟨.bl (stW z y),H,I,?_,q⟩;show Value.bool _=Value.bool _
 congr 1
 show(decide (0+y.length<=z.length)&&z.cps.extract 0 (0+y.length)==y.cps)=(z.cps.toList.take y.cps.toList.length==y.cps.toList);have hl:z.cps.toList.length=z.length:=bO;have hy:y.cps.toList.length=y.length:=bO;have ee:(z.cps.extract 0 (0+y.length)).toList=z.cps.toList.take y.length:=by simp
 rw[hy,cR,Ba,bE,beq_iff_eq,beq_iff_eq,<-ee];constructor
 ·rintro⟨_,h⟩;rw[h]
 ·intro h
  have h':=Array.ext' h;refine⟨?_,h'⟩;have:=congrArg List.length h;rw[ee,bF,hy]at this;omega
theorem Wt{s:Str}:∀ (xs:Li Str) (n:Nat),xs.foldl (fun a p=>a+p.length+s.length) n=n+(Zu s xs).length
 |[],n=>rfl
 |x :: xs,n=>by
  rw[List.foldl_cons,Wt xs];show _=n+((s.cps.toList++x.cps.toList)++Zu s xs).length;have hx:x.cps.toList.length=x.length:=bO;have hs:s.cps.toList.length=s.length:=bO;rw[aK,aK,hx,hs];omega
theorem Wp{s:Str}:∀ (xs:Li Str) (acc:Array Nat),xs.foldl (fun acc p=>acc++s.cps++p.cps) acc=(acc.toList++Zu s xs).toArray
 |[],acc=>by simp[Zu]
 |x :: xs,acc=>by
  rw[List.foldl_cons,Wp xs];simp[Zu]
theorem WQ(xs:Li Str):glued s xs=⟨(ZL s xs).toArray⟩:=by
 cases xs with
 |nil=>rfl
 |cons x xs=>
  unfold glued;rw[List.drop_one,List.tail_cons,List.headD_cons,Wp];rfl
theorem Wo{s:Str}(h:s.length=0):∀ (xs:Li Str),Zu s xs=Xe xs
 |[]=>rfl
 |x :: xs=>by
  have hs:s.cps.toList=[]:=List.eq_nil_of_length_eq_zero (bO.trans h);show(s.cps.toList++x.cps.toList)++Zu s xs=x.cps.toList++Xe xs;rw[hs,Wo h xs];rfl
theorem Zas(h:s.length=0)(xs:Li Str):ZL s xs=Xe xs:=by
 cases xs with
 |nil=>rfl
 |cons x xs=>show x.cps.toList++Zu s xs=x.cps.toList++Xe xs;rw[Wo h]
theorem W5:∀ {ys:Li Str}{its:Li vL},Vals (ys.map V.str) its->∃ l:Li (Str×Tok),its=strValues l/\l.map (·.1)=ys
 |[],_,.nil=>⟨[],rfl,rfl⟩
 |y :: ys,_,.cons ⟨t,e⟩ r=>by
  obtain⟨l,rfl,h⟩:=W5 r;exact⟨(y,t) :: l,by rw[e];rfl,by rw[aT,h]⟩
theorem ZcC:MtR X "str.join" (fun x xs H Q=>∃ z a ys,x=.str z/\xs=[.ref a]/\SqL X.K H a (ys.map V.str)/\(Zu z ys).length<=Zc/\Q (.str ⟨(ZL z ys).toArray⟩) H):=by
 intro pQ s σ H x xs v us Q I rx r h;obtain⟨z,a,ys,rfl,rfl,sq,hl,q⟩:=h;obtain⟨t,rfl⟩:=rx;obtain⟨u,rfl,r1⟩:=vals1 r;cases r1;obtain⟨its,rv,p,hn⟩:=I.list sq;obtain⟨l,rfl,el⟩:=W5 rv;refine PySem.SC.join p.isList el ?_ fun t' k=>⟨.str ⟨(ZL z ys).toArray⟩,H,I.tok _,⟨t',?_⟩,q⟩
 ·unfold JoinOk tooLong
  rw[List.foldl_toArray,Wt];have:Zc<=sizeLine:=by decide
  simp;omega
 ·show Value.str (glued z ys) t'=_
  rw[WQ]
theorem V1{s:Str}(h:s.length=1):∀ xs:Li Str,xs.length<=(Zu s xs).length
 |[]=>bH _
 |x :: r=>by
  have:=V1 h r;have e:s.cps.toList.length=1:=by rw[bO];exact h
  show r.length+1<=((s.cps.toList++x.cps.toList)++Zu s r).length;rw[aK,aK];omega
theorem Ub(xs:Li Str):Str.join s xs=⟨(ZL s xs).toArray⟩:=by rw[<-StrLaws.glued_eq_join];exact WQ xs
theorem W3(h:y.length=1):(Txt.split x y).length<=x.length+1:=by
 have e:=congrArg (fun z:Str=>z.cps.toList.length) (StrLaws.join_split x y)
 simp only[Ub]at e;cases q:Txt.split x y with
 |nil=>exact bH _
 |cons a r=>
  rw[q]at e;have g:=V1 h r;have e:(a.cps.toList++Zu y r).length=x.cps.toList.length:=e;rw[aK,bO]at e;show r.length+1<=x.cps.size+1;rw[<-bO];omega
theorem ZbA(h:y.length=1):Txt.split x y=Xu x y:=by
 obtain⟨⟨l⟩⟩:=y;obtain⟨c,rfl⟩:∃ c,l=[c]:=by
  match l,(show l.length=1 from h) with
  |[c],_=>exact⟨c,rfl⟩
 have e:=StrLaws.join_split x ⟨#[c]⟩;have f:=StrLaws.split_free x c;have n:Txt.split x ⟨#[c]⟩≠[]:=by
  unfold Txt.split;split
  ·exact dD _ _
  ·split
   ·exact dD _ _
   ·unfold partsBetween
    cases occurrences x ⟨#[c]⟩ 0 x.length (x.length+1)<;>exact dD _ _
 generalize Txt.split x ⟨#[c]⟩=L at e f n;have h0:x.cps.toList=ZL ⟨#[c]⟩ L:=by rw[Ub]at e;rw[<-e]
 have g:=WC n f;show L=(YZ c x.cps.toList).map fun l=>⟨l.toArray⟩
 rw[h0,g,bI];exact(List.map_id L).symm
theorem Uw:∀ l:Li (Str×Tok),Vals ((l.map (·.1)).map V.str) (strValues l)
 |[]=>.nil
 | (y,t) :: l=>.cons ⟨t,rfl⟩ (Uw l)
theorem JD{prog:Program}{A:Around}{E:vL->sH7->Prop}{s:sH7}{t u:Tok}{Q:vL->sH7->Prop}(hy:y.length=1)(hz:x.length<=Zc)(hq:∀ (l:Li (Str×Tok)) (k:Nat),l.map (·.1)=Txt.split x y->Q (.ref s.heap.objs.size) { s with heap:=s.heap.push { cls:=.type "list",data:=.seq (strValues l).toArray },toks:=k }):wpAny (model prog w) A (call (.builtin "str.split") [.str x t,.str y u]) Q E s:=by
 have hy0:(y.length==0)=false:=by rw[hy];rfl
 have hs:x.length<=sizeLine:=aH hz (by decide)
 have hl:=W3 (x:=x) hy;cases h1:(decide (x.length < y.length)||decide (strKind x < strKind y)) with
 |true=>exact call_meets F.slot_str_split (typeIs_str _ _ _) F.entry_str_split (F.args_str_split_2 _ _) (meets_str_split_cannot_occur x y t u h1) (hq [(x,t)] s.toks (if_pos h1).symm)
 |false=>
  cases hf:(occurrences x y 0 x.length (x.length+1)).isEmpty with
  |true=>exact call_meets F.slot_str_split (typeIs_str _ _ _) F.entry_str_split (F.args_str_split_2 _ _) (meets_str_split_not_found x y t u h1 hy0 hf) (hq [(x,t)] s.toks ((if_neg (ne_true_of_eq_false h1)).trans (if_pos hf)).symm)
  |false=>
   have e:Txt.split x y=partsBetween x (occurrences x y 0 x.length (x.length+1)) y.length:=(if_neg (ne_true_of_eq_false h1)).trans (if_neg (ne_true_of_eq_false hf));refine call_meets F.slot_str_split (typeIs_str _ _ _) F.entry_str_split (F.args_str_split_2 _ _) (meets_str_split_sep x y t u h1 hy0 hf hs (by rw[<-e];exact aH hl (aH (Nat.succ_le_succ hz) (by decide)))) ?_
   have g:=hq (numbered s.toks (Txt.split x y)) (s.toks+(Txt.split x y).length) (numbered_texts _ _);rw[e,<-strsFrom_eq]at g;exact g
theorem ZaZ:MtR X "str.split" (fun x xs H Q=>∃ z y,x=.str z/\xs=[.str y]/\(y.length=1/\z.length<=Zc)/\∀ p,H p=none->Q (.ref p) (upd H p (.lst ((Xu z y).map V.str)))):=by
 intro pQ s σ H x xs v us Q I rx r h;obtain⟨z,y,rfl,rfl,c,q⟩:=h;obtain⟨t,rfl⟩:=rx;obtain⟨u,rfl,t',rfl⟩:=vals1 r;refine JD c.1 c.2 fun l k e=>?_
 have fr:H s.heap.objs.size=none:=I.hok.fresh (aE _);rw[<-ZbA c.1]at q;have hl:=W3 (x:=z) c.1;refine⟨.ref s.heap.objs.size,_,I.laid (t':=k) (o:=.lst ((Txt.split z y).map V.str)) (fun b o q=>aO _ q) (aE _) ⟨by rw[aJ];exact aH hl (aH (Nat.succ_le_succ c.2) (by decide)),strValues l,_,by rw[<-e];exact Uw l,bA _ rfl⟩,rfl,q _ fr⟩
end
end Dp



namespace Dp
open PySem PySem.Spec PyProof.Rows L2
variable [ClsTab]
section
open Builtin
open AutoSeq1 (wpAny_loadPart')
end
theorem Yi:Zc<=sizeLine:=by decide
variable{pQ:Li (Ad×Obj)}{σ:L2.St}{H:Hp}{u:vL}{Q:VK}{ys vs:Li V}{ds:Li D}{ad:Li Ad}{d:D}{st:Za}{h':Heap}{i:Nat}{prog:Program}{w:World}{A:Around}{E:vL->sH7->Prop}{k:Bool}
section
variable {X:Cx}
theorem US{i:Int}(h:Yo i=true):-(2 ^ 64) < i/\i < 2 ^ 64:=by
 unfold Yo at h;rw[Ba]at h;exact⟨of_decide_eq_true h.1,of_decide_eq_true h.2⟩
theorem ZcH{op:Operator}{i j k:Int}{s:sH7}{v:vL}(I:L2.Inv X pQ σ H s)(rx:RelV (.int i) v)(ry:RelV (.int j) u)(e:Zb1 op i j=some k)(p:Q (.int k) H) :
  wpAny (model X.prog X.w) X.A (binaryOp op v u) (EP X pQ σ Q) X.xe s:=by
 unfold Zb1 at e;split at e
 ·cases e
  exact op_add pQ s σ H _ _ v u Q I rx ry ⟨_,_,rfl,rfl,p⟩
 ·cases e
  exact op_sub pQ s σ H _ _ v u Q I rx ry ⟨_,_,rfl,rfl,p⟩
 ·split at e
  ·rename_i hl
   cases e;refine op_mul pQ s σ H _ _ v u Q I rx ry ⟨_,_,rfl,rfl,?_,p⟩;rw[dG]at hl;exact hl.elim (fun z=>.inl (US z)) fun z=>.inr (US z)
  ·cases e
 ·split at e
  ·rename_i hl
   cases e;exact op_fdiv pQ s σ H _ _ v u Q I rx ry ⟨_,_,rfl,rfl,hl,p⟩
  ·split at e
   ·rename_i hl
    cases e;exact op_fdivN pQ s σ H _ _ v u Q I rx ry ⟨_,_,rfl,rfl,⟨by omega,by omega⟩,p⟩
   ·cases e
 ·split at e
  ·rename_i hl
   cases e;exact op_mod pQ s σ H _ _ v u Q I rx ry ⟨_,_,rfl,rfl,hl,p⟩
  ·split at e
   ·rename_i hl
    cases e;exact op_modN pQ s σ H _ _ v u Q I rx ry ⟨_,_,rfl,rfl,(by omega),p⟩
   ·cases e
 ·split at e
  ·rename_i hl
   cases e;have:=US hl.2.2;exact op_pow pQ s σ H _ _ v u Q I rx ry ⟨_,_,rfl,rfl,⟨hl.1,by omega,by omega⟩,p⟩
  ·cases e
 ·cases e
theorem Jg{s:sH7}{a b:Ad}{xs:Li V}(I:L2.Inv X pQ σ H s)(ha:SqL X.K H a xs)(hb:SqL X.K H b ys)(hz:xs.length+ys.length<=sizeLine)(q:∀ p,H p=none->Q (.ref p) (upd H p (.lst (xs++ys)))):wpAny (model X.prog X.w) X.A (binaryOp .Add (.ref a) (.ref b)) (EP X pQ σ Q) X.xe s:=by
 obtain⟨its,r,p1,_⟩:=I.list ha;obtain⟨its2,r2,p2,_⟩:=I.list hb;obtain⟨⟨cls,dd,data,sl⟩,ho,hc,n,hd⟩:=id p1.isList;obtain⟨⟨cls2,dd2,data2,sl2⟩,ho2,hc2,n2,hd2⟩:=id p2.isList;simp only at hc hd hc2 hd2;subst hc hd hc2 hd2;have e:its.toArray++its2.toArray=(its++its2).toArray:=by simp
 have l1:=r.length;have l2:=r2.length;refine concat_meets ⟨_,ho,rfl⟩ ⟨_,ho2,rfl⟩ noFill_list_add seq_list_add PySem.F.slot_list_add PySem.F.entry_list_add (PySem.F.args_list_add_2 _ _) (list_addW a b its.toArray its2.toArray n n2 dd dd2 sl sl2 (by simp;omega)) ⟨ho,ho2,?_⟩
 rw[e];exact⟨.ref _,_,I.lnew (t':=s.toks) (r.append r2) (by rw[aK];omega),rfl,q _ I.fresh⟩
theorem JR{op:Operator}(h:ZaO op=true):op=.Add:=by cases op<;>first|rfl|cases h
theorem ZeA{op:Operator}(h:Zdz op=true):op=.Mult:=by cases op<;>first|rfl|cases h
theorem ZcG{op:Operator}:OpR X (binaryOp op) (rD X.K (VL op)):=by
 intro pQ s σ H x y v u Q I rx ry h;obtain⟨ad,st,dx,dy,d,st',S,hx,hy,e,p⟩:=h;unfold VL at e;split at e
 ·split at e
  ·rename_i k q
   cases e;cases hx;cases hy
   exact ZcH I rx ry q (p.at S (.int _))
  ·exact Zb e
 ·split at e
  ·rename_i hop
   cases JR hop
   unfold Jf at e;split at e
   ·rename_i xs ys q1 q2
    split at e
    ·rename_i hz
     cases e;obtain⟨a,rfl,ha⟩:=hx.ofLst;obtain⟨b,rfl,hb⟩:=hy.ofLst;obtain⟨vs,r1,h1⟩:=S.list ha q1;obtain⟨ws,r2,h2⟩:=S.list hb q2;cases rx;cases ry
     refine Jg I h1 h2 (by rw[r1.length,r2.length];exact aH hz Yi) fun q hq=>?_
     refine p _ (ad++[q]) _ (Ext.push hq) (S.push hq (r1.append r2)) (.newL ?_);rw[<-S.len];exact ZB
    ·exact Zb e
   ·exact Zb e
  ·exact Zb e
 ·split at e
  ·rename_i hop
   cases ZeA hop
   unfold ZcM at e;split at e
   ·rename_i z q1
    split at e
    ·rename_i hz
     cases e;obtain⟨a,rfl,ha⟩:=hx.ofLst;obtain⟨vs,r1,h1⟩:=S.listM ha q1;cases hy;cases r1 with
     |cons d1 r1=>
      cases r1;rename_i w;refine op_rep pQ s σ H _ _ v u Q I rx ry ⟨a,_,[w],rfl,rfl,h1,by omega,by omega,?_,fun q hq=>?_⟩
      ·rw[eJ,Nat.one_mul]
       exact aH (show _<=1000 by omega) (by decide)
      ·have e1:∀ k:Nat,(List.replicate k [w]).flatten=List.replicate k w:=fun k=>by
        induction k with
        |zero=>rfl
        |succ k ih=>rw[cX,dM,ih,cX];rfl
       rw[e1];refine p _ (ad++[q]) _ (Ext.push hq) (S.push hq (Dens.rep d1 _)) (.newL ?_);rw[<-S.len];exact ZB
    ·exact Zb e
   ·exact Zb e
  ·exact Zb e
 ·split at e
  ·rename_i hz
   cases JR hz.1
   cases e;cases hx;cases hy
   exact op_add_str pQ s σ H _ _ v u Q I rx ry ⟨_,_,rfl,rfl,aH hz.2 Yi,p.at S (.str _)⟩
  ·exact Zb e
 ·exact Zb e
theorem Zdl:UnR X (unaryOp .USub) (rU1 X.K ZeB):=by
 intro pQ s σ H x v Q I rx h;obtain⟨ad,st,dx,d,st',S,hx,e,p⟩:=h;unfold ZeB at e;split at e
 ·cases e;cases hx
  exact un_neg pQ s σ H _ v Q I rx ⟨_,rfl,p.at S (.int _)⟩
 ·exact Zb e
theorem JU{xs:Li V}{i:Int}(r:Dens X.K ad H xs ds)(e:atD ds i=some d):∃ v,atI xs i=some v/\Den X.K ad H v d:=by
 unfold atD at e;have hl:L2.ixN xs.length i=Dp.ixN ds.length i:=by rw[r.length];rfl
 cases q:Dp.ixN ds.length i with
 |none=>rw[q]at e;cases e
 |some j=>
  rw[q]at e;obtain⟨v,e1,e2⟩:=r.get (i:=j) e;refine⟨v,?_,e2⟩;unfold atI;rw[hl,q];exact e1
theorem Zad{k:Str}{a:Nat}{o:Ot D}(h:dAt k a st=some o):∃ b xs,st[a]?=some (b,xs)/\UM xs=false/\o=Yd xs k:=by
 unfold dAt at h;split at h
 ·rename_i b xs q
  split at h
  ·exact Zb h
  ·rename_i c
   cases h;exact⟨b,xs,q,Bool.eq_false_iff.mpr c,rfl⟩
 ·exact Zb h
theorem Zfp{x:Str}{i:Int}(q:atD ((chS x).map D.str) i=some d):∃ c,atI x.cps.toList i=some c/\d=.str ⟨#[c]⟩:=by
 unfold atD at q;unfold atI;have hl:((chS x).map D.str).length=x.cps.toList.length:=by simp[chS]
 rw[hl]at q;show ∃ c,(Dp.ixN x.cps.toList.length i).bind (fun j=>x.cps.toList[j]?)=some c/\_
 cases e:Dp.ixN x.cps.toList.length i with
 |none=>rw[e]at q;cases q
 |some j=>
  rw[e]at q;have q:((chS x).map D.str)[j]?=some d:=q;unfold chS at q;rw[aU,aU]at q;show ∃ c,x.cps.toList[j]?=some c/\_;cases e2:x.cps.toList[j]? with
  |none=>rw[e2]at q;cases q
  |some c=>rw[e2]at q;cases q;exact⟨c,rfl,rfl⟩
theorem Zgy(hu:X.A.units+64 < cLine):IxR X (rD X.K ixR):=by
 intro value slice pQ s σ H x y v u Q I rx ry h hs;obtain⟨ad,st,dx,dy,d,st',S,hx,hy,e,p⟩:=h;unfold ixR at e;split at e
 ·rename_i d' q
  cases e;unfold ixD at q;split at q
  ·obtain⟨a,xs,rfl,ha,r⟩:=hx.ofTup
   cases hy;obtain⟨w,e1,e2⟩:=JU r q;exact ix_tup value slice pQ s σ H _ _ v u Q I rx ry ⟨a,xs,_,w,rfl,rfl,(ha).sq,e1,p.at S e2⟩ hs
  ·split at q
   ·rename_i q0
    obtain⟨a,rfl,ha⟩:=hx.ofLst;cases hy;obtain⟨xs,r,sq⟩:=S.list ha q0;obtain⟨w,e1,e2⟩:=JU r q;exact ix_list value slice pQ s σ H _ _ v u Q I rx ry ⟨a,xs,_,w,rfl,rfl,sq,e1,p.at S e2⟩ hs
   ·exact Zb q
  ·refine j_e q fun q=>?_
   obtain⟨bb,es,q0,ob,q⟩:=Zad q;obtain⟨a,rfl,ha,hn⟩:=hx.ofDic;obtain⟨kvs,r,hk,_⟩:=S.dict ha hn q0 ob;cases hy;rcases XD r with⟨w,d0,e1,e2,e3⟩|⟨_,e2⟩
   ·rw[e2]at q
    cases q;exact ix_dct value slice pQ s σ H _ _ v u Q I rx ry ⟨a,_,Sum.inr _,w,rfl,rfl,hk,e1.1,p.at S e3⟩ hs
   ·rw[e2]at q;cases q
  ·split at q
   ·rename_i hz
    cases hx;cases hy
    obtain⟨c,e1,rfl⟩:=Zfp q;exact ix_str value slice pQ s σ H _ _ v u Q I rx ry ⟨_,_,c,rfl,rfl,aH hz Yi,e1,p.at S (.str _)⟩ hs
   ·exact Zb q
  ·exact Zb q
 ·exact Zb e
theorem Up(n d:Nat)(o:Ot Int):Dp.sIx n d o=HT.sIx n d o:=by cases o<;>rfl
theorem Zeg{xs:Li V}{lo hi:Ot Int}(r:Dens X.K ad H xs ds):Dens X.K ad H (cutV xs lo hi) (Wc ds lo hi):=by
 unfold cutV Wc;rw[<-r.length,Up,Up];exact(r.drop _).take _
theorem Zhe:SlR X (rSl X.K):=by
 intro pQ s σ H x v vl vu lo hi sl Q I rx hs pl pu h;obtain⟨ad,st,dx,d,st',S,hx,e,p⟩:=h;unfold Yj at e;split at e
 ·split at e
  ·rename_i q0
   cases e;obtain⟨a,rfl,ha⟩:=hx.ofLst;obtain⟨xs,r,sq⟩:=S.list ha q0;refine sl_list pQ s σ H _ v vl vu lo hi sl Q I rx hs pl pu ⟨a,xs,rfl,sq,fun q hq=>p _ (ad++[q]) _ (Ext.push hq) (S.push hq (Zeg r)) (.newL ?_)⟩
   rw[<-S.len];exact ZB
  ·exact Zb e
 ·split at e
  ·rename_i hz
   cases e;cases hx
   exact Ze2 pQ s σ H _ v vl vu lo hi sl Q I rx hs pl pu ⟨_,rfl,aH hz Yi,p.at S (.str _)⟩
  ·exact Zb e
 ·exact Zb e
theorem Xg(h:Dens X.K ad H vs [d]):∃ v,vs=[v]/\Den X.K ad H v d:=by
 cases h with
 |cons h r=>cases r;exact⟨_,rfl,h⟩
theorem Zdt{e:D}(h:Dens X.K ad H vs [d,e]):∃ v w,vs=[v,w]/\Den X.K ad H v d/\Den X.K ad H w e:=by
 cases h with
 |cons h r=>
  cases r with
  |cons h' r=>cases r;exact⟨_,_,rfl,h,h'⟩
theorem Z1{g:D->Za->Res}{r:D×Za}(h:on1 g ds st=some r):∃ d,ds=[d]/\g d st=some r:=by
 unfold on1 at h;split at h
 ·exact⟨_,rfl,h⟩
 ·exact Zb h
theorem WY{g:D->D->Za->Res}{r:D×Za}(h:on2 g ds st=some r):∃ d e,ds=[d,e]/\g d e st=some r:=by
 unfold on2 at h;split at h
 ·exact⟨_,_,rfl,h⟩
 ·exact Zb h
theorem Q9:CallR X (.builtin "len") (rC X.K (on1 Yw)):=by
 intro pQ s σ H xs us Q I r h;obtain⟨ad,st,ds,d,st',S,hd,e,p⟩:=h;obtain⟨x,rfl,e1⟩:=Z1 e;have e:=e1;obtain⟨v,rfl,hv⟩:=Xg hd;unfold Yw at e;split at e
 ·rename_i n q
  cases e;unfold Uc at q;split at q
  ·cases q
   obtain⟨a,ys,rfl,ha,rr⟩:=hv.ofTup;refine call_len_seq pQ s σ H _ us Q I r ⟨a,ys,rfl,.inr ((ha).sq),?_⟩;rw[rr.length];exact p.at S (.int _)
  ·split at q
   ·rename_i q0
    cases q;obtain⟨a,rfl,ha⟩:=hv.ofLst;obtain⟨ys,rr,sq⟩:=S.list ha q0;refine call_len_seq pQ s σ H _ us Q I r ⟨a,ys,rfl,.inl sq,?_⟩;rw[rr.length];exact p.at S (.int _)
   ·cases q
  ·split at q
   ·rename_i hz
    cases q;cases hv
    exact call_len pQ s σ H _ us Q I r ⟨_,_,rfl,⟨aH hz Yi,rfl⟩,p.at S (.int _)⟩
   ·cases q
  ·split at q
   ·rename_i q0
    split at q
    ·cases q
    ·rename_i ob
     cases q;obtain⟨a,rfl,ha,hn⟩:=hv.ofDic;obtain⟨kvs,rr,hk,_⟩:=S.dict ha hn q0 (Bool.eq_false_iff.mpr ob);obtain⟨u,rfl,ru⟩:=vals1 r;cases ru;refine len_dK I hk ?_;rw[aJ,YL rr];exact p.at S (.int _)
   ·cases q
  ·cases q
 ·exact Zb e
theorem VQ:CallR X (.type "tuple") (rC X.K (on1 VE)):=by
 intro pQ s σ H xs us Q I r h;obtain⟨ad,st,ds,d,st',S,hd,e,p⟩:=h;obtain⟨x,rfl,e1⟩:=Z1 e;have e:=e1;obtain⟨v,rfl,hv⟩:=Xg hd;unfold VE at e;split at e
 ·cases e
  obtain⟨a,ys,rfl,ha,rr⟩:=hv.ofTup;exact call_tuple_of pQ s σ H _ us Q I r ⟨a,ys,rfl,.inr ⟨(ha).sq,p.at S hv⟩⟩
 ·split at e
  ·rename_i q0
   cases e;obtain⟨a,rfl,ha⟩:=hv.ofLst;obtain⟨ys,rr,sq⟩:=S.list ha q0;exact call_tuple_of pQ s σ H _ us Q I r ⟨a,ys,rfl,.inl ⟨sq,fun l hl=>p _ ad _ (Ext.laid hl) (S.laid hl) (.tup (.inl upd_same) (rr.mono (Ext.laid hl)))⟩⟩
  ·cases e
 ·cases e
theorem VO{ad:Li Ad}{H:Hp}:∀ {vs:Li V}{ds:Li D}{bs:Li Bool},Dens X.K ad H vs ds->YI ds=some bs->vs=bs.map V.bl
 |_,_,_,.nil,e=>by cases e;rfl
 |_,_,bs,.cons (d:=d) h r,e=>by
  cases d with
  |bl b=>
   cases h;unfold YI at e;cases q:YI _ with
   |none=>rw[q]at e;cases e
   |some l=>rw[q]at e;cases e;rw[VO r q];rfl
  |_=>simp[YI]at e
theorem WF:∀ {bs:Li Bool}{its:Li vL},Vals (bs.map V.bl) its->its=bs.map Value.bool
 |[],_,.nil=>rfl
 |b :: bs,_,.cons r t=>by cases r;rw[WF t];rfl
theorem Zbm{nm:String}{f:Li Bool->Bool}(hw:∀ {prog:Program}{w:World}{A:Around}{E:vL->sH7->Prop}{s:sH7}{l:Ad}{bs:Li Bool}{Q:vL->sH7->Prop},A.handled=none->s.heap.IsList l (bs.map Value.bool).toArray->
   (∀ h' tk,(∀ b o,s.heap.get? b=some o->h'.get? b=some o)->Q (.bool (f bs)) { s with heap:=h',toks:=tk })->wpAny (model prog w) A (call (.builtin nm) [.ref l]) Q E s)(hc:X.calm=true):CallR X (.builtin nm) (rC X.K (on1 (WA f))):=by
 intro pQ s σ H xs us Q I r h;obtain⟨ad,st,ds,d,st',S,hd,e,p⟩:=h;obtain⟨x,rfl,e1⟩:=Z1 e;have e:=e1;obtain⟨v,rfl,hv⟩:=Xg hd;unfold WA at e;split at e
 ·split at e
  ·rename_i q0
   split at e
   ·rename_i bs q1
    cases e;obtain⟨a,rfl,ha⟩:=hv.ofLst;obtain⟨ys,rr,sq⟩:=S.list ha q0;cases r with
    |cons r r'=>
     cases r';cases r
     obtain⟨its,rv,pl,_⟩:=I.list sq;have eb:=VO rr q1;subst eb;have ei:=WF rv;subst ei;exact hw (I.ok.hd hc) pl.isList fun h' tk k=>⟨.bl _,H,I.kept (t':=tk) k,rfl,p.at S (.bl _)⟩
   ·exact Zb e
  ·exact Zb e
 ·exact Zb e
theorem Zcz{s:sH7}{o:Obj}(hk:∀ b x,b∉[s.heap.objs.size]->(s.heap.push o).get? b=some x->h'.get? b=some x):∀ b x,s.heap.get? b=some x->h'.get? b=some x:=
 fun b x e=>hk b x (fun hm=>by rw[bG.mp hm]at e;exact bM _ (aI e)) (aO _ e)
theorem Zb4{bs:Li Bool}{v:vL}(h:(bs.map Value.bool).toArray[i]?=some v):∃ b,bs[i]?=some b/\v=.bool b:=by
 rw[dH,aU]at h;cases q:bs[i]? with
 |none=>rw[q]at h;cases h
 |some b=>rw[q]at h;cases h;exact⟨b,rfl,rfl⟩
theorem Zfi{s:sH7}{l:Ad}{bs:Li Bool}{Q:vL->sH7->Prop}(hh:A.handled=none)(hl:s.heap.IsList l (bs.map Value.bool).toArray)(h:∀ h' tk,(∀ b o,s.heap.get? b=some o->h'.get? b=some o)->Q (.bool (bs.all id)) { s with heap:=h',toks:=tk }):wpAny (model prog w) A (call (.builtin "all") [.ref l]) Q E s:=by
 have hlt:l < s.heap.objs.size:=by obtain⟨_,e,_⟩:=hl;exact aI e
 refine call_all_walk (wpAny_pyIter_list hl ?_);refine⟨s.heap.objs.size,[s.heap.objs.size,l],[s.heap.objs.size],(bs.map Value.bool).toArray.size,_,_,fun i=>(bs[i]?).getD true,rfl,Walks.list (A:=A.in1) hh _ l (aZ hlt) _,
  ⟨⟨_,bA _ rfl,rfl,rfl⟩,hl.push _⟩,fun i v s' Q' E' hP hQ=>?_,fun h' tk hk=>?_⟩
 ·obtain⟨b,e,rfl⟩:=Zb4 hP
  simp only[e,Option.getD_some]at hQ;exact wpAny_truthy_bool hQ
 ·have e:((List.range (bs.map Value.bool).toArray.size).all fun i=>(bs[i]?).getD true)=bs.all id:=by
   rw[aY,aJ,cR,bP,bP];constructor
   ·intro z b hb
    obtain⟨i,hi,rfl⟩:=List.getElem_of_mem hb;have:=z i (cQ.mpr hi);simp only[Lg hi,Option.getD_some]at this;exact this
   ·intro z i hi
    have hi':=cQ.mp hi;simp only[Lg hi',Option.getD_some];exact z _ (cB hi')
  rw[e];exact h h' tk (Zcz hk)
theorem Q7:CallR X (.type "int") (rC X.K (on1 Zet)):=by
 intro pQ s σ H xs us Q I r h;obtain⟨ad,st,ds,d,st',S,hd,e,p⟩:=h;obtain⟨x,rfl,e1⟩:=Z1 e;have e:=e1;obtain⟨v,rfl,hv⟩:=Xg hd;unfold Zet at e;split at e
 ·cases e;cases hv
  exact call_int1 pQ s σ H _ us Q I r (.inl ⟨_,rfl,p.at S (.int _)⟩)
 ·cases e;cases hv
  exact call_int1 pQ s σ H _ us Q I r (.inr ⟨true,rfl,p.at S (.int _)⟩)
 ·cases e;cases hv
  exact call_int1 pQ s σ H _ us Q I r (.inr ⟨false,rfl,p.at S (.int _)⟩)
 ·split at e
  ·rename_i i hi
   cases e;cases hv
   exact Q8 pQ s σ H _ us Q I r ⟨_,i,rfl,hi,p.at S (.int _)⟩
  ·exact Zb e
 ·exact Zb e
theorem Jc:CallR X (.type "str") (rC X.K (on1 ZbB)):=by
 intro pQ s σ H xs us Q I r h;obtain⟨ad,st,ds,d,st',S,hd,e,p⟩:=h;obtain⟨x,rfl,e1⟩:=Z1 e;have e:=e1;obtain⟨v,rfl,hv⟩:=Xg hd;unfold ZbB at e;split at e
 ·split at e
  ·rename_i hi
   cases e;cases hv
   exact Jd pQ s σ H _ us Q I r ⟨_,rfl,hi,p.at S (.str _)⟩
  ·exact Zb e
 ·exact Zb e
theorem Jb(hc:X.calm=true):CallR X (.builtin "min") (rC X.K (on2 Zez)):=by
 intro pQ s σ H xs us Q I r h;obtain⟨ad,st,ds,d,st',S,hd,e,p⟩:=h;obtain⟨x,y,rfl,e1⟩:=WY e;have e:=e1;obtain⟨v,w,rfl,hv,hw⟩:=Zdt hd;unfold Zez at e;split at e
 ·cases e;cases hv;cases hw
  exact call_min2 hc pQ s σ H _ us Q I r ⟨_,_,rfl,p.at S (.int _)⟩
 ·exact Zb e
theorem Ja(hc:X.calm=true):CallR X (.builtin "max") (rC X.K (on2 Zey)):=by
 intro pQ s σ H xs us Q I r h;obtain⟨ad,st,ds,d,st',S,hd,e,p⟩:=h;obtain⟨x,y,rfl,e1⟩:=WY e;have e:=e1;obtain⟨v,w,rfl,hv,hw⟩:=Zdt hd;unfold Zey at e;split at e
 ·cases e;cases hv;cases hw
  exact call_max2 hc pQ s σ H _ us Q I r ⟨_,_,rfl,p.at S (.int _)⟩
 ·exact Zb e
noncomputable def tyN:Ty->String
 |.int => "int"
 |.bool => "bool"
 |.str => "str"
 |.tuple => "tuple"
noncomputable def ZaS:D->String
 |.int _ => "int"
 |.bl _ => "bool"
 |.str _ => "str"
 |.tup _ => "tuple"
 |.non => "NoneType"
 |_ => "list"
theorem ZaT(K:Fg){T:Ty}(h:Zew T d=some k):PySem.W.kitOne K (.type (ZaS d)) (.type (tyN T))=some k:=by
 cases d<;>first | (cases h;done) | (cases T<;>(cases h;rfl))
theorem Zf7{K:Fg}{v:V}{T:Ty}(h:Zew T d=some k)(hv:Den K ad H v d):TyOf K H v (.type (ZaS d))\/∃ a xs,v=.ref a/\SqT K H a xs/\ZaS d = "tuple":=by
 cases hv with
 |non=>exact .inl .non
 |bl b=>exact .inl (.bl b)
 |int i=>exact .inl (.int i)
 |str x=>exact .inl (.str x)
 |tup e r=>exact .inr ⟨_,_,rfl,e.sq,rfl⟩
 |lst e=>exact Zb h
 |dic _ _=>exact Zb h
 |obj _ _ _=>exact Zb h
 |kt _ _ _ _ _ _=>exact Zb h
theorem J2{T:Ty}:CallR X (.builtin "isinstance") (fun vs H Q=>∃ v,vs=[v,.ty (tyN T)]/\rC X.K (on1 (ZaP T)) [v] H Q):=by
 intro pQ s σ H xs us Q I r h;obtain⟨v,rfl,ad,st,ds,d,st',S,hd,e,p⟩:=h;obtain⟨x,rfl,e1⟩:=Z1 e;have e:=e1;obtain⟨w,hw,hv⟩:=Xg hd;cases hw;unfold ZaP at e;split at e
 ·rename_i k q
  cases e;cases r with
  |cons r1 r2=>
   cases r2 with
   |cons r3 r4=>
    cases r4;cases r3;rcases Zf7 q hv with ty|⟨a,zs,rfl,sq,kd⟩
    ·exact isinst_ok I r1 ty (ZaT X.K q) fun tk=>⟨.bl k,H,I.tok _,rfl,p.at S (.bl k)⟩
    ·have kt:=ZaT X.K q
     rw[kd]at kt;cases r1;obtain⟨its,_,pp,_⟩:=I.tuple sq;obtain⟨o,h1,h2,_⟩:=pp;exact PySem.W.kia_one PySem.W.kitx_tuple I.kIn ⟨o,h1,h2⟩ kt (fun z=>nomatch z) fun tk=>⟨.bl k,H,I.tok _,rfl,p.at S (.bl k)⟩
 ·exact Zb e
end
section
variable {X:Cx}
end
variable [ClsTab]
variable{n la lb:Nat}{op:CmpOp}
section
variable {X:Cx}
theorem UK{ad:Li Ad}{H:Hp}{k:Str}:∀ {xs:Li V}{ds:Li D}{b:Bool},Dens X.K ad H xs ds->Z6 k ds=some b->xs.all flatV=true/\inV (.str k) xs=b
 |_,_,_,.nil,e=>by cases e;exact⟨rfl,rfl⟩
 |_,_,b,.cons (d:=d) h r,e=>by
  cases d with
  |str i=>
   cases h;unfold Z6 at e;cases q:Z6 k _ with
   |none=>rw[q]at e;cases e
   |some b'=>
    rw[q]at e;cases e;obtain⟨h1,h2⟩:=UK r q;refine⟨by rw[bK,h1];rfl,?_⟩
    show((i==k)||inV (.str k) _)=(decide (i=k)||b');rw[h2]
    congr 1
  |_=>simp[Z6]at e
def CW(X:Cx)(pQ:Li (Ad×Obj))(σ:L2.St)(Q:VK)(s:sH7)(op:CmpOp)(v u:vL):Prop:=wpAny (model X.prog X.w) X.A (compareOp op v u) (EP X pQ σ Q) X.xe s
def CW2(X:Cx)(pQ:Li (Ad×Obj))(σ:L2.St)(Q:VK)(s:sH7)(H:Hp)(op op':CmpOp)(v u:vL)(k:Bool):Prop:=(Q (.bl k) H->CW X pQ σ Q s op v u)/\(Q (.bl (!k)) H->CW X pQ σ Q s op' v u)
noncomputable def vSc:Sc->V
 |.non=>.non
 |.bl b=>.bl b
 |.int i=>.int i
 |.str x=>.str x
theorem Den.vSc{K:Fg}{ad:Li Ad}{H:Hp}{x:V}{d:D}{a:Sc}(h:Den K ad H x d)(e:scD d=some a):x=vSc a:=by
 cases h<;>cases e<;>rfl
theorem Zcc{a b:Sc}(h:Zft a b=some k):scal (vSc a) (vSc b)=true/\decide (vSc a=vSc b)=k:=by
 cases a<;>cases b<;>first
  | (cases h;done)
  | (cases h;exact⟨rfl,rfl⟩)
  | (cases h;exact⟨rfl,dec_bl⟩)
  | (cases h;exact⟨rfl,by simp[vSc]⟩)
theorem Zgp(hu:X.A.units+64 < cLine){s:sH7}{x y:V}{v:vL}{dx dy:D}(I:Inv X pQ σ H s)(rx:RelV x v)(ry:RelV y u)(S:StOk X.K ad H st)(hx:Den X.K ad H x dx)(hy:Den X.K ad H y dy)(e:eqD dx dy=some k):CW2 X pQ σ Q s H .Eq .NotEq v u k:=by
 refine j_e e fun e=>ZM (P:=fun o=>o=some k->CW2 X pQ σ Q s H .Eq .NotEq v u k) e (fun a b h1 h2 h=>?_) rfl
 obtain⟨h3,h4⟩:=Zcc h;rw[<-hx.vSc h1,<-hy.vSc h2]at h3 h4;subst h4;exact⟨fun q=>op_eq pQ s σ H x y v u Q I rx ry ⟨h3,q⟩,fun q=>op_ne pQ s σ H x y v u Q I rx ry ⟨h3,q⟩⟩
open PySem.SeqAt in
theorem Qu{f:D->D->Bool}:∀ {xs ys:Li D}{j:Nat}{d e:D},Xf f xs ys=true->xs[j]?=some d->ys[j]?=some e->f d e=true
 |x :: xs,y :: ys,0,d,e,h,h1,h2=>by cases h1;cases h2;exact(aX.mp h).1
 |x :: xs,y :: ys,j+1,d,e,h,h1,h2=>Qu (aX.mp h).2 (show xs[j]?=some d from h1) (show ys[j]?=some e from h2)
 |[],_,_,_,_,_,h1,_=>nomatch h1
 |_ :: _,[],_,_,_,h,_,_=>nomatch h
theorem VT{f:D->D->Bool}:∀ {xs ys:Li D},Xf f xs ys=true->xs.length=ys.length
 |[],[],_=>rfl
 |x :: xs,y :: ys,h=>congrArg (·+1) (VT (aX.mp h).2)
 |[],_ :: _,h=>nomatch h
 |_ :: _,[],h=>nomatch h
section
variable {H:Hp}{ad:Li Ad}{s:sH7}{A:Around}{vx vy:V}{ux uy:vL}
theorem eq_str{x y:Str}(h:decide (x=y)=true)(hx:Den X.K ad H vx (.str x))(hy:Den X.K ad H vy (.str y))(rx:RelV vx ux)(ry:RelV vy uy):SeqAt.EqAt A s ux uy true:=by
 cases of_decide_eq_true h
 cases hx;cases hy
 obtain⟨t,rfl⟩:=rx;obtain⟨t',rfl⟩:=ry;have g:=SeqAt.EqAt.str_str (A:=A) (s:=s) x t x t';rw[beq_self_eq_true]at g;exact g
theorem eq_int{x y:Int}(h:decide (x=y)=true)(hx:Den X.K ad H vx (.int x))(hy:Den X.K ad H vy (.int y))(rx:RelV vx ux)(ry:RelV vy uy):SeqAt.EqAt A s ux uy true:=by
 cases of_decide_eq_true h
 cases hx;cases hy
 obtain⟨t,rfl⟩:=rx;obtain⟨t',rfl⟩:=ry;have g:=SeqAt.EqAt.int_int (A:=A) (s:=s) x t x t';rw[beq_self_eq_true]at g;exact g
theorem Zdv{x y:Bool}(h:decide (x=y)=true)(hx:Den X.K ad H vx (.bl x))(hy:Den X.K ad H vy (.bl y))(rx:RelV vx ux)(ry:RelV vy uy):SeqAt.EqAt A s ux uy true:=by
 cases of_decide_eq_true h
 cases hx;cases hy;cases rx;cases ry
 exact SeqAt.EqAt.same _
end
open PySem.SeqAt in
theorem Zdw{s:sH7}(ih:∀ (d e:D) (A:Around) (vx vy:V) (ux uy:vL),dEq st n d e=true->A.units+n < cLine->Den X.K ad H vx d->Den X.K ad H vy e->RelV vx ux->RelV vy uy->EqAt A s ux uy true){xs:Li V}{es:Li D}{its its':Li vL}{A:Around}(h:Xf (dEq st n) ds es=true)(hu:A.units+n+1 < cLine)(r1:Dens X.K ad H xs ds)(r2:Dens X.K ad H ys es)(rv:Vals xs its)(rv':Vals ys its') :
  its.toArray.size=its'.toArray.size/\∀ j (h1:j < its.toArray.size) (h2:j < its'.toArray.size),EqAt A.in1 s its.toArray[j] its'.toArray[j] true:=by
 have l1:its.length=ds.length:=by rw[<-rv.length,r1.length]
 have l2:its'.length=es.length:=by rw[<-rv'.length,r2.length]
 have lz:=VT h;refine⟨by rw[aY,aY];omega,fun j h1 h2=>?_⟩
 rw[aY]at h1 h2;obtain⟨v1,e1,d1⟩:=r1.get (Lg (show j < ds.length by omega))
 obtain⟨v2,e2,d2⟩:=r2.get (Lg (show j < es.length by omega))
 obtain⟨u1,f1,g1⟩:=rv.get e1;obtain⟨u2,f2,g2⟩:=rv'.get e2;rw[Lg h1]at f1;rw[Lg h2]at f2;cases f1;cases f2
 exact ih _ _ A.in1 v1 v2 _ _ (Qu h (Lg _) (Lg _)) (by show A.units+1+n < cLine;omega) d1 d2 g1 g2
open PySem.SeqAt in
theorem VX{s:sH7}(I:Inv X pQ σ H s)(S:StOk X.K ad H st)(ih:∀ (d e:D) (A:Around) (vx vy:V) (ux uy:vL),dEq st n d e=true->A.units+n < cLine->Den X.K ad H vx d->Den X.K ad H vy e->RelV vx ux->RelV vy uy->EqAt A s ux uy true){a b:Ad}{A:Around}(h:dEq st (n+1) (.lst la) (.lst lb)=true)(hu:A.units+n+1 < cLine)(ha:LA ad H la a)(hb:LA ad H lb b):RcAt A s (.ref a) (.ref b) true/\RcNeAt A s (.ref a) (.ref b) false:=by
 have h:(match st[la]? with
  |some c=>(match st[lb]? with
   |some d=>Xf (dEq st n) c.2 d.2
   |none=>false)
  |none=>false)=true:=h
 split at h
 ·rename_i c q1
  split at h
  ·rename_i d q2
   obtain⟨vs,r1,s1⟩:=S.list ha (show st[la]?=some (c.1,c.2) from q1);obtain⟨ws,r2,s2⟩:=S.list hb (show st[lb]?=some (d.1,d.2) from q2);obtain⟨its,rv,p1,_⟩:=I.list s1;obtain⟨its',rv',p2,_⟩:=I.list s2;obtain⟨hz,it⟩:=Zdw ih h hu r1 r2 rv rv';have al:((List.range its.toArray.size).all fun _=>true)=true:=by simp
   have g1:=RcAt.lists (A:=A) (s:=s) (e:=fun _=>true) p1.isList p2.isList hz (by omega) it
   have g2:=RcNeAt.lists (A:=A) (s:=s) (e:=fun _=>true) p1.isList p2.isList hz (by omega) it
   rw[al]at g1 g2;exact⟨g1,g2⟩
  ·cases h
 ·cases h
open PySem.SeqAt in
theorem Qw{s:sH7}(I:Inv X pQ σ H s)(ih:∀ (d e:D) (A:Around) (vx vy:V) (ux uy:vL),dEq st n d e=true->A.units+n < cLine->Den X.K ad H vx d->Den X.K ad H vy e->RelV vx ux->RelV vy uy->EqAt A s ux uy true){a b:Ad}{xs:Li V}{es:Li D}{A:Around}(h:Xf (dEq st n) ds es=true)(hu:A.units+n+1 < cLine)(ha:TupAt X.K H a xs)(hb:TupAt X.K H b ys)(r1:Dens X.K ad H xs ds)(r2:Dens X.K ad H ys es):RcAt A s (.ref a) (.ref b) true/\RcNeAt A s (.ref a) (.ref b) false:=by
 obtain⟨its,rv,p,_⟩:=I.tuple ha.sq;obtain⟨its',rv',p',_⟩:=I.tuple hb.sq;obtain⟨hz,it⟩:=Zdw ih h hu r1 r2 rv rv';have al:((List.range (min its.toArray.size its'.toArray.size)).all (fun _=>true)&&its.toArray.size==its'.toArray.size)=true:=by rw[hz,beq_self_eq_true];simp
 have g1:=RcAt.tuples (A:=A) (s:=s) (e:=fun _=>true) p p' (by omega) it
 have g2:=RcNeAt.tuples (A:=A) (s:=s) (e:=fun _=>true) p p' (by omega) it
 rw[al]at g1 g2;exact⟨g1,g2⟩
open PySem.SeqAt in
theorem Zae{s:sH7}(I:Inv X pQ σ H s)(S:StOk X.K ad H st):∀ (n:Nat) (d e:D) (A:Around) (vx vy:V) (ux uy:vL),dEq st n d e=true->A.units+n < cLine->Den X.K ad H vx d->Den X.K ad H vy e->RelV vx ux->RelV vy uy->EqAt A s ux uy true:=by
 intro n
 induction n with
 |zero=>
  intro d e A vx vy ux uy h hu hx hy rx ry;unfold dEq at h;split at h
  ·exact eq_str h hx hy rx ry
  ·exact Zdv h hx hy rx ry
  ·exact eq_int h hx hy rx ry
  ·rename_i z;cases z
  ·rename_i z;cases z
  ·cases h
 |succ n ih=>
  intro d e A vx vy ux uy h hu hx hy rx ry;have h0:=h;unfold dEq at h;split at h
  ·exact eq_str h hx hy rx ry
  ·exact Zdv h hx hy rx ry
  ·exact eq_int h hx hy rx ry
  ·rename_i z
   cases z;obtain⟨a,xs,rfl,ha,r1⟩:=hx.ofTup;obtain⟨b,ys,rfl,hb,r2⟩:=hy.ofTup;cases rx;cases ry
   by_cases hab:a=b
   ·subst hab;exact EqAt.same _
   ·exact EqAt.of_refs hab (Qw I ih h (by omega) ha hb r1 r2).1
  ·rename_i m la lb z
   cases z;obtain⟨a,rfl,ha⟩:=hx.ofLst;obtain⟨b,rfl,hb⟩:=hy.ofLst;cases rx;cases ry
   by_cases hab:a=b
   ·subst hab;exact EqAt.same _
   ·exact EqAt.of_refs hab (VX I S ih h0 (by omega) ha hb).1
  ·cases h
open PySem.SeqAt in
theorem Zej(hu:X.A.units+64 < cLine){s:sH7}{x y:V}{v:vL}{es:Li D}(I:Inv X pQ σ H s)(rx:RelV x v)(ry:RelV y u)(S:StOk X.K ad H st)(hx:Den X.K ad H x (.tup ds))(hy:Den X.K ad H y (.tup es))(e:dEq st 8 (.tup ds) (.tup es)=true):CW2 X pQ σ Q s H .Eq .NotEq v u true:=by
 obtain⟨a,vs,rfl,ha,r1⟩:=hx.ofTup;obtain⟨b,ws,rfl,hb,r2⟩:=hy.ofTup;cases rx;cases ry
 obtain⟨g1,g2⟩:=Qw (n:=7) (A:=X.A) I (Zae I S 7) e (by omega) ha hb r1 r2
 exact⟨fun q=>g1 X.prog X.w X.xe _ ⟨.bl true,H,I,rfl,q⟩,fun q=>g2 X.prog X.w X.xe _ ⟨.bl false,H,I,rfl,q⟩⟩
open PySem.SeqAt in
theorem Zcd{s:sH7}{a b:Ad}(I:Inv X pQ σ H s)(S:StOk X.K ad H st)(h:dEq st 8 (.lst la) (.lst lb)=true)(hu:A.units+8 < cLine)(ha:LA ad H la a)(hb:LA ad H lb b):RcAt A s (.ref a) (.ref b) true/\RcNeAt A s (.ref a) (.ref b) false:=
 VX (n:=7) I S (Zae I S 7) h (by omega) ha hb
theorem Zfv(hu:X.A.units+64 < cLine){s:sH7}{x y:V}{v:vL}{dx dy:D}(I:Inv X pQ σ H s)(rx:RelV x v)(ry:RelV y u)(S:StOk X.K ad H st)(hx:Den X.K ad H x dx)(hy:Den X.K ad H y dy)(e:eqS st dx dy=some k):CW2 X pQ σ Q s H .Eq .NotEq v u k:=by
 unfold eqS at e;split at e
 ·unfold Zcb at e
  split at e
  case h_2=>exact Zb e
  obtain⟨a,rfl,ha⟩:=hx.ofLst;obtain⟨b,rfl,hb⟩:=hy.ofLst;cases rx;cases ry
  have two:∀ {ba bb:Bool}{xs ys:Li D},st[_]?=some (ba,xs)->st[_]?=some (bb,ys)->(xs=[]\/ys=[])->(xs.isEmpty&&ys.isEmpty)=k->CW2 X pQ σ Q s H .Eq .NotEq (.ref a) (.ref b) k:=fun {ba bb xs ys} q1 q2 hz hk=>by
   obtain⟨vs,r1,s1⟩:=S.list ha q1;obtain⟨ws,r2,s2⟩:=S.list hb q2;obtain⟨its,rv,p1,_⟩:=I.list s1;obtain⟨its',rv',p2,_⟩:=I.list s2;have l1:its.toArray.size=xs.length:=by rw[aY,<-rv.length,r1.length]
   have l2:its'.toArray.size=ys.length:=by rw[aY,<-rv'.length,r2.length]
   by_cases hl:xs.length=ys.length
   ·have z1:xs=[]:=by
     rcases hz with z|z
     ·exact z
     ·rw[z]at hl;exact eC.mp hl
    have z2:ys=[]:=by rw[z1]at hl;exact eC.mp hl.symm
    subst z1 z2;cases hk;have f:its=[]:=eC.mp (by simpa using l1)
    have f':its'=[]:=eC.mp (by simpa using l2)
    subst f f';refine⟨fun q=>SeqAt.RcAt.lists (e:=fun _=>true) p1.isList p2.isList rfl (by omega) (fun j h1 _=>absurd h1 (by simp)) X.prog X.w X.xe _ ⟨.bl true,H,I,rfl,q⟩,fun q=>SeqAt.RcNeAt.lists (e:=fun _=>true) p1.isList p2.isList rfl (by omega) (fun j h1 _=>absurd h1 (by simp)) X.prog X.w X.xe _ ⟨.bl false,H,I,rfl,q⟩⟩
   ·have hk':k=false:=by
     rw[<-hk];rcases hz with z|z
     ·subst z
      cases ys with
      |nil=>exact absurd rfl hl
      |cons _ _=>rfl
     ·subst z
      cases xs with
      |nil=>exact absurd rfl hl
      |cons _ _=>rfl
    subst hk';have hne:(its.toArray.size != its'.toArray.size)=true:=by rw[l1,l2];simpa using hl
    exact⟨fun q=>SeqAt.RcAt.lists_lengths p1.isList p2.isList hne (by omega) X.prog X.w X.xe _ ⟨.bl false,H,I,rfl,q⟩,fun q=>SeqAt.RcNeAt.lists_lengths p1.isList p2.isList hne (by omega) X.prog X.w X.xe _ ⟨.bl true,H,I,rfl,q⟩⟩
  split at e
  case h_2=>
   split at e
   ·rename_i hd
    cases e;obtain⟨g1,g2⟩:=Zcd (A:=X.A) I S hd (by omega) ha hb
    exact⟨fun q=>g1 X.prog X.w X.xe _ ⟨.bl true,H,I,rfl,q⟩,fun q=>g2 X.prog X.w X.xe _ ⟨.bl false,H,I,rfl,q⟩⟩
   ·exact Zb e
  rename_i k' hj;cases e;refine j_e hj fun e=>ZM (P:=fun o=>o=some k->CW2 X pQ σ Q s H .Eq .NotEq (.ref a) (.ref b) k) e (fun c d q1 q2 e=>?_) rfl
  obtain⟨c1,c2⟩:=c;obtain⟨d1,d2⟩:=d;unfold Zei at e;split at e
  ·rename_i hz
   cases e;rw[dG]at hz;exact two q1 q2 (hz.imp List.isEmpty_iff.mp List.isEmpty_iff.mp) rfl
  ·exact Zb e
 ·unfold Zfu at e
  split at e
  ·split at e
   ·rename_i hd
    cases e;exact Zej hu I rx ry S hx hy hd
   ·exact Zb e
  ·exact Zb e
 ·exact Zgp hu I rx ry S hx hy e
section
variable {pQ:Li (Ad×Obj)}{s:sH7}{σ:L2.St}{H:Hp}{x y:V}{v u:vL}{Q:VK}{ad:Li Ad}{st:Za}{dx dy:D}{k:Bool}
theorem UL{a:Ad}{xs:Li V}(I:Inv X pQ σ H s)(rx:RelV x v)(ry:RelV y u)(ey:y=.ref a)(sq:SqL X.K H a xs\/SqT X.K H a xs)(fx:flatV x=true)(h:xs.all flatV=true/\inV x xs=k):CW2 X pQ σ Q s H .In .NotIn v u k:=by
 obtain⟨h1,h2⟩:=h;subst h2;exact⟨fun pk=>op_in_seq pQ s σ H _ _ v u Q I rx ry ⟨a,xs,ey,sq,fx,h1,pk⟩,fun pk=>op_notIn_seq pQ s σ H _ _ v u Q I rx ry ⟨a,xs,ey,sq,fx,h1,pk⟩⟩
omit [ClsTab] in
theorem Zdy(k:Str):∀ ks:Li Str,(ks.map V.str).all flatV=true/\inV (.str k) (ks.map V.str)=ks.contains k
 |[]=>⟨rfl,rfl⟩
 |a :: ks=>by
  obtain⟨h1,h2⟩:=Zdy k ks;refine⟨by rw[aT,bK,h1];rfl,?_⟩
  unfold inV at h2 ⊢
  rw[aT,cL,h2,bW]
  congr 1
  show decide (a=k)=(k==a);by_cases e:a=k
  ·subst e;rw[aF rfl,beq_self_eq_true]
  ·rw[aL e,bQ.mpr fun z=>e z.symm]
def InW(X:Cx)(pQ:Li (Ad×Obj))(σ:L2.St)(Q:VK)(s:sH7)(H:Hp)(v u:vL)(dy:D)(k:Bool):Prop:=(Q (.bl k) H->CW X pQ σ Q s .In v u)/\((∀ ks vs,dy≠.dct ks vs)->Q (.bl (!k)) H->CW X pQ σ Q s .NotIn v u)
theorem CW2.inW(h:CW2 X pQ σ Q s H .In .NotIn v u k):InW X pQ σ Q s H v u dy k:=⟨h.1,fun _=>h.2⟩
theorem ZfF(hu:X.A.units+64 < cLine)(I:Inv X pQ σ H s)(rx:RelV x v)(ry:RelV y u)(S:StOk X.K ad H st)(hx:Den X.K ad H x dx)(hy:Den X.K ad H y dy)(q:inS st dx dy=some k):InW X pQ σ Q s H v u dy k:=by
 unfold inS at q;split at q
 ·split at q
  ·rename_i q0
   obtain⟨a,e,ha⟩:=hy.ofLst;obtain⟨xs,r,sq⟩:=S.list ha q0;cases hx;exact(UL I rx ry e (.inl sq) rfl (UK r q)).inW
  ·cases q
 ·obtain⟨a,xs,e,ha,r⟩:=hy.ofTup
  cases hx;exact(UL I rx ry e (.inr ha.sq) rfl (UK r q)).inW
 ·obtain⟨o,q2,rfl⟩:=eA.mp q
  obtain⟨bb,es,q0,ob,rfl⟩:=Zad q2;obtain⟨a,rfl,ha,hn⟩:=hy.ofDic;obtain⟨kvs,r,hk,_⟩:=S.dict ha hn q0 ob;cases hx.ofStr;cases ry
  have z:=ni_dct (X:=X) (Q:=Q) (k:=Sum.inr _) I hk rx;rw[Jn r]at z;exact⟨z.1,fun _=>z.2⟩
 ·cases q
  obtain⟨a,o,its,n,rfl,h1,h2,h3,h4,h5⟩:=hy.ofKt;cases hx;exact(UL I rx ry rfl (.inr (.inr ⟨o,its,n,h1,h2.1,h3,h4,h5⟩)) rfl (Zdy _ _)).inW
 ·cases hx;cases hy;cases q
  exact⟨fun pk=>op_in_str pQ s σ H _ _ v u Q I rx ry ⟨_,_,rfl,rfl,pk⟩,fun _ pk=>op_notIn_str pQ s σ H _ _ v u Q I rx ry ⟨_,_,rfl,rfl,pk⟩⟩
 ·cases q
theorem Zcy(hx:Den X.K ad H x dx)(q:isN dx=some k):decide (x=V.non)=k:=by
 cases hx<;>cases q<;>rfl
theorem ZfH(I:Inv X pQ σ H s)(rx:RelV x v)(ry:RelV y u)(hx:Den X.K ad H x dx)(hy:Den X.K ad H y dy)(q:isD dx dy=some k):CW2 X pQ σ Q s H .Is .IsNot v u k:=by
 unfold isD at q;split at q
 ·cases hy
  have z:=Zcy hx q;subst z;exact⟨fun pk=>op_isN pQ s σ H _ _ v u Q I rx ry ⟨rfl,pk⟩,fun pk=>op_notN pQ s σ H _ _ v u Q I rx ry ⟨rfl,pk⟩⟩
 ·unfold isB at q
  split at q
  ·cases q
   cases hx;cases hy
   cases rx;cases ry
   have e:∀ a b:Bool,(Value.bool a==Value.bool b)=(a==b):=fun a b=>by cases a<;>cases b<;>rfl
   exact⟨fun pk=>wpAny_is_plain rfl (by rw[e];exact⟨.bl _,H,I,rfl,pk⟩),fun pk=>wpAny_isNot_plain rfl (by rw[e];exact⟨.bl _,H,I,rfl,pk⟩)⟩
  ·cases q
 ·cases q
theorem Vy{f:Int->Int->Bool}(hx:Den X.K ad H x dx)(hy:Den X.K ad H y dy)(q:Zbg f dx dy=some k):∃ i j,x=.int i/\y=.int j/\f i j=k:=by
 unfold Zbg at q;split at q
 ·cases q;cases hx;cases hy;exact⟨_,_,rfl,rfl,rfl⟩
 ·exact Zb q
theorem ZgG(hu:X.A.units+64 < cLine)(I:Inv X pQ σ H s)(rx:RelV x v)(ry:RelV y u)(S:StOk X.K ad H st)(hx:Den X.K ad H x dx)(hy:Den X.K ad H y dy)(q:ltS st dx dy=some k)(pk:Q (.bl k) H):CW X pQ σ Q s .Lt v u:=by
   have q:ltD dx dy=some k:=q;obtain⟨i,j,rfl,rfl,z⟩:=Vy hx hy q;exact op_lt pQ s σ H _ _ v u Q I rx ry ⟨_,_,rfl,rfl,by cases z;exact pk⟩
theorem Vt{o:Ot Bool}(q:o.map not=some k):o=some (!k):=by
 cases o with
 |none=>exact Zb q
 |some k'=>cases q;rw[Bool.not_not]
theorem Za9{op':CmpOp}(h:CW2 X pQ σ Q s H op op' v u (!k))(pk:Q (.bl k) H):CW X pQ σ Q s op' v u:=h.2 (by rw[Bool.not_not];exact pk)
end
theorem YW(hu:X.A.units+64 < cLine):OpR X (compareOp op) (rD X.K (ZW op)):=by
 intro pQ s σ H x y v u Q I rx ry h;obtain⟨ad,st,dx,dy,d,st',S,hx,hy,e,p⟩:=h
 change CW X pQ σ Q s op v u;unfold ZW at e;cases q:XB op dx dy st with
 |none=>rw[q]at e;cases e
 |some k=>
  rw[q]at e;cases e;have pk:=p.at S (.bl k);clear p;cases op with
  |Lt=>exact ZgG hu I rx ry S hx hy q pk
  |LtE=>
   obtain⟨i,j,rfl,rfl,z⟩:=Vy hx hy q;exact op_le pQ s σ H _ _ v u Q I rx ry ⟨_,_,rfl,rfl,by cases z;exact pk⟩
  |Gt=>
   obtain⟨i,j,rfl,rfl,z⟩:=Vy hx hy q;exact op_gt pQ s σ H _ _ v u Q I rx ry ⟨_,_,rfl,rfl,by cases z;exact pk⟩
  |GtE=>exact Zb q
  |Eq=>exact(Zfv hu I rx ry S hx hy q).1 pk
  |NotEq=>exact Za9 (Zfv hu I rx ry S hx hy (Vt q)) pk
  |In=>exact(ZfF hu I rx ry S hx hy q).1 pk
  |NotIn=>
   have q:niS st dx dy=some k:=q;unfold niS at q;split at q
   ·exact Zb q
   ·rename_i hn
    exact(ZfF hu I rx ry S hx hy (Vt q)).2 hn (by rw[Bool.not_not];exact pk)
  |Is=>exact(ZfH I rx ry hx hy q).1 pk
  |IsNot=>exact Za9 (ZfH I rx ry hx hy (Vt q)) pk
end
variable [ClsTab]
noncomputable def Zf:Expr->Bool
 |.Starred ..=>false
 |.Set ..=>false
 |.Slice ..=>false
 |_=>true
variable{sc:Scope}{N:Li Str}{e:Expr}
theorem Ze{G:Gs}{c:CE}(h:cE G n sc N e=some c):Zf e=true:=by
 cases n with
 |zero=>exact nomatch (show(none:Ot CE)=some c from h)
 |succ n=>cases e<;>first|rfl|exact nomatch (show(none:Ot CE)=some c from h)
variable{env:PySem.Env}
theorem Zd{es:Li Expr}(h:Zf e=true):starEach (e :: es) env=(false,eval e env) :: starEach es env:=by
 cases e<;>first|rfl|cases h
theorem Z4{b:Expr}(h:Zf b=true):behindInMarks op b=false:=by
 cases b<;>first|rfl|cases h
theorem V8{b:Expr}(h:Zf b=true):PlainIx b:=by
 cases b<;>first | (intro o i;rfl)|cases h
theorem Ya{pos:Pos}{env:PySem.Env}:∀ {es:Li Expr},es.all Zf=true->(backTo pos (starEach es env)).any (·.1)=false
 |[],_=>rfl
 |e :: es,h=>by
  rw[bK,Ba]at h;rw[Zd h.1];show(false||(backTo pos (starEach es env)).any (·.1))=false;rw[Ya h.2];rfl
inductive EsOk(Pm:Params)(K:Fg):List DictEntry->List Str->List D->Prop where
 |nil:EsOk Pm K [] [] []
 |cons {e:DictEntry}{es:List DictEntry}{k:Str}{ks:List Str}{d:D}{ds:List D}{v:V}{t:Tok} (h1:e.hash=PyData.keyHash Pm k) (h2:e.key=.str k t) (h3:RelV v e.val) (h4:∀ ad H,Den K ad H v d) (r:EsOk Pm K es ks ds):EsOk Pm K (e :: es) (k :: ks) (d :: ds)
def Qi(Pm:Params)(K:Fg)(mg:Str->Ot vL)(x:Str)(ks:Li Str)(ds:Li D):Prop:=
 ∃ A o es ep,mg x=some (.ref A)/\K.lookup A=some o/\o.ExactDict/\o.data=.dict es ep/\(A==sysModules)=false/\ks.Nodup/\EsOk Pm K es.toList ks ds
theorem EsOk.open{P:Program}{K:Fg}:∀ {es:Li DictEntry}{ks:Li Str}{ds:Li D},EsOk w.params K es ks ds->∃ kvs:Li (Key×vL),Pairs (mixKind P w) es kvs/\kvs.map (·.1)=ks.map Sum.inr/\(∀ e∈es,∃ k,(mixKind P w).is k e.key=true/\e.hash=(mixKind P w).hash k) /\
  ∀ k d,Y2 ks ds k=some d->∃ u v,valueAt kvs (Sum.inr k)=some u/\RelV v u/\∀ ad H,Den K ad H v d
 |_,_,_,.nil=>⟨[],.nil,rfl,(fun _ h=>nomatch h),fun k d h=>by simp[Y2]at h⟩
 |e :: es,k0 :: ks,d0 :: ds,.cons (v:=v) (t:=t) h1 h2 h3 h4 r=>by
  obtain⟨kvs,a1,a2,a3,a4⟩:=EsOk.open (P:=P) r;have hk:(mixKind P w).is (Sum.inr k0) e.key=true:=by rw[h2];exact mixKind_str P w k0 t
  refine⟨(Sum.inr k0,e.val) :: kvs,.cons hk rfl a1,by rw[aT,aT,a2],fun x hx=>?_,fun k d h=>?_⟩
  ·rcases aG.mp hx with rfl|hx
   ·exact⟨Sum.inr k0,hk,h1⟩
   ·exact a3 x hx
  ·unfold valueAt
   by_cases c:k0=k
   ·subst c
    have h:Y2 (k0 :: ks) (d0 :: ds) k0=some d:=h;simp only[Y2,if_pos]at h;cases h;exact⟨e.val,v,by simp,h3,h4⟩
   ·have h:Y2 ks ds k=some d:=by
     simp only[Y2,if_neg c]at h;exact h
    obtain⟨u,v',b1,b2,b3⟩:=a4 k d h;refine⟨u,v',?_,b2,b3⟩;have nk:¬(Sum.inr k0:Key)=Sum.inr k:=fun z=>c (Sum.inr.inj z)
    rw[eB (by simpa using nk)]
    exact b1
structure NewOk(K:Fg)(C:Addr):Prop where
 makes:PySem.W.makesIn K C=true
 kp:PySem.W.keepIn K (.ref C)=true
 oc:ObC K C
def GOk(P:Program)(w:World)(K:Fg)(mg:Str->Ot vL)(base:Heap)(A:Around)(F:Nat->Fn)(x:Str):GV->Prop
 |.cst d=>∃ v u,mg x=some u/\RelV v u/\∀ ad H,Den K ad H v d
 |.blt=>mg x=none
 |.dct ks ds=>Qi w.params K mg x ks ds
 |.cls i ms subs=>mg x=some (.ref (ClsTab.ca i))/\NewOk K (ClsTab.ca i) /\
   ∀ m j ps,ms.lookup m=some (j,ps)->∃ (k:Nat) (f:Ad) (fd:FuncData) (pn:Li Str),FnOk P w K mg base (CX1 P w) k f fd pn (spD K (F j))/\Room (k+1) A/\Meth K (ClsTab.ca i) m f/\Binds K fd pn []
 |.fn i ps ds=>∃ (k:Nat) (f:Ad) (fd:FuncData) (pn:Li Str),FnOk P w K mg base (CX1 P w) k f fd pn (spD K (F i))/\Room k A/\mg x=some (.ref f)/\PySem.W.keepIn K (.ref f)=true /\
   ∀ m,m<=ds.length->∃ dvs us,(∀ ad H,Dens K ad H dvs (ds.drop m))/\Vals dvs us/\Binds K fd pn us
 |.exc i l=>mg x=some (.ref (ClsTab.ca i))/\(∀ c∈exNums,PySem.W.kitOne K (.ref (ClsTab.ca c)) (.ref (ClsTab.ca i))=some (l.contains c))/\(∀ c∈l,PySem.W.exmOne K (.ref (ClsTab.ca c)) (.ref (ClsTab.ca i))=some true/\XG K (ClsTab.ca c)) /\
   (i∈exNums->∃ (fI:Ad) (fd:FuncData) (pn:Li Str),XCls K (ClsTab.ca i) fI "line"/\FnOk P w K mg base CX0 1 fI fd pn (spI (ClsTab.ca i) "line")/\Binds K fd pn [])
 |.fnq i=>∃ (f:Ad) (fd:FuncData) (pn:Li Str),FnOk P w K mg base (CX1 P w) 1 f fd pn (spD K (F i))/\Room 1 A/\mg x=some (.ref f)/\PySem.W.keepIn K (.ref f)=true/\Binds K fd pn []
variable{X:Cx}
theorem QO:Passes (CX1 X.prog X.w) X E0:=pass_x fun _ _ _ _ ⟨_,_,_,_,_,_,_,_,z⟩=>z.elim
structure Cxt(X:Cx)(G:Gs)(F:Nat->Fn)(sc:Scope)(N:List Str):Prop where
 hN:X.N=N
 vis:∀ x,YO sc x=true->Vis X.env.scope x
 glb:∀ x,Zq sc x=true->Gl X x
 calm:ZN G=true->X.calm=true
 hu:X.A.units+64 < cLine
 gl:∀ x g,G.lookup x=some g->GOk X.prog X.w X.K X.mg X.base X.A F x g
 cel:∀ x,Wr sc x=true->X.env.scope.names.lookup x=some .cell\/X.env.scope.names.lookup x=some .free
theorem Ye{x:Str}(h:N.idxOf? x=some i):N[i]?=some x:=by
 unfold List.idxOf? at h
 rw[List.findIdx?_eq_some_iff_getElem]at h;obtain⟨hi,h1,_⟩:=h;rw[Lg hi];rw[beq_iff_eq.mp h1]
theorem Xq{x:Str}(h:YO sc x=true):(x==("__debug__":Str))=false/\(x==("__classdict__":Str))=false:=by
 unfold YO at h;rw[Ba,Ba,dF,dF]at h;exact h.1
theorem ZI{x:Str}(h:Zq sc x=true):(x==("__debug__":Str))=false:=by
 unfold Zq at h;rw[Ba,dF]at h;exact h.1
variable{fc fa fb:Ev}{pos:Pos}{ρ:Env}{st':Za}
section
variable {X:Cx}{F:Nat->Fn}
theorem ZfQ{f:Ev}(h:PE X e (tE X.K f))(he:∀ whole,isTrue e X.env whole=(do let v <-whole;standAt e.pos;holding [v] (truthy v)):=by intro _;rfl):PT X e (tT X.K f):=Xb (pt_val h he) Vo
theorem ZeE{c a b:Expr}(hc:PT X c (tT X.K fc))(ha:PT X a (tT X.K fa))(hb:PT X b (tT X.K fb)):PT X (.IfExp c a b pos) (tT X.K (YC fc fa fb)):=by
 intro pQ s σ H Q I h;obtain⟨ad,ρ,st,d,st',E,S,e,p⟩:=h;obtain⟨k,st1,q,e⟩:=ZQ e;show wpAny _ _ (isTrue c X.env (eval c X.env) >>= fun t=>if t then isTrue a X.env (eval a X.env) else isTrue b X.env (eval b X.env)) _ _ s
 refine aA (thn (hc pQ s σ H (fun k' H1=>k'=k/\∃ ad1,Ext ad H ad1 H1/\StOk X.K ad1 H1 st1) I ⟨ad,ρ,st,k,st1,E,S,q,fun ad1 H1 x1 S1=>⟨rfl,ad1,x1,S1⟩⟩) fun t s1 ⟨H1,I1,et,ad1,x1,S1⟩=>?_)
 subst et;cases t with
 |true=>
  rw[if_pos rfl]at e ⊢;exact ha pQ s1 σ H1 Q I1 ⟨ad1,ρ,st1,d,st',E.mono x1,S1,e,fun ad2 H2 x2 S2=>p ad2 H2 (x1.trans x2) S2⟩
 |false=>
  rw[if_neg Bf]at e ⊢;exact hb pQ s1 σ H1 Q I1 ⟨ad1,ρ,st1,d,st',E.mono x1,S1,e,fun ad2 H2 x2 S2=>p ad2 H2 (x1.trans x2) S2⟩
def W9:CE->Prop
 |.aN=>True
 |.aC _ _=>True
 |_=>False
theorem Ve{c:CE}(h:W9 c)(e:ev F c ρ st=some (d,st')):∃ ds,d=.tup ds/\ds.length<=1000:=by
 cases c with
 |aN=>cases e;exact⟨[],rfl,by decide⟩
 |aC a r=>
  have e:Zn (ev F a) (ev F r) Ym ρ st=some (d,st'):=e;unfold Zn at e;split at e
  ·split at e
   ·rename_i y st2 _
    cases y with
    |tup zs=>
     have e:(if zs.length < 1000 then some (D.tup (_ :: zs),st2) else none)=some (d,st'):=e
     split at e
     ·rename_i hz
      cases e;exact⟨_,rfl,hz⟩
     ·exact Zb e
    |_=>simp[Ym]at e
   ·exact Zb e
  ·exact Zb e
 |_=>exact False.elim h
structure SE(X:Cx)(F:Nat->Fn)(e:Expr)(c:CE):Prop where
 pe:PE X e (tE X.K (ev F c))
 pt:PT X e (tT X.K (ev F c))
theorem SE.of{c:CE}(h:PE X e (tE X.K (ev F c)))(he:∀ whole,isTrue e X.env whole=(do let v <-whole;standAt e.pos;holding [v] (truthy v)):=by intro _;rfl):SE X F e c:=⟨h,ZfQ h he⟩
theorem Uk{op:BoolOp}{es:Li Expr}{t:TT}(h:PT X (.BoolOp op es pos) t):PW X (.BoolOp op es pos) t:=fun _ pQ s σ H Q I q=>h pQ s σ H Q I q
end
variable [ClsTab]
theorem VN:bootBuiltins "tuple"=some (.type "tuple"):=by decide +kernel
theorem JZ:bootBuiltins "int"=some (.type "int"):=by decide +kernel
theorem Zb2:bootBuiltins "bool"=some (.type "bool"):=by decide +kernel
theorem J0:bootBuiltins "str"=some (.type "str"):=by decide +kernel
theorem Zeb:bootBuiltins "min"=some (.builtin "min"):=by decide +kernel
theorem Zea:bootBuiltins "max"=some (.builtin "max"):=by decide +kernel
theorem Y0:bootBuiltins "isinstance"=some (.builtin "isinstance"):=by decide +kernel
theorem Zd8:bootBuiltins "all"=some (.builtin "all"):=by decide +kernel
theorem Zd9:bootBuiltins "len"=some (.builtin "len"):=by decide +kernel
variable{l subs:Li Nat}{yp ap cp:Pos}{E1:XK}{fe:Ev}{as:Li Expr}{cs:CE}{es:Array DictEntry}{ep j:Nat}{ks:Li Str}{ms:Li (Str×Nat×Nat)}{o:Expr}{m:Str}
section
variable {G:Gs}{F:Nat->Fn}
def Zo(G:Gs)(F:Nat->Fn)(n:Nat):Prop:=∀ X sc N,Cxt X G F sc N->∀ e c,cE G n sc N e=some c->SE X F e c
def ZU(G:Gs)(F:Nat->Fn)(n:Nat):Prop:=∀ X sc N,Cxt X G F sc N->∀ es c,cEs G n sc N es=some c->PA X es (tA X.K (ev F c))/\W9 c/\es.all Zf=true/\(es=[]->c=.aN)
def Vc(G:Gs)(F:Nat->Fn)(n:Nat):Prop:=∀ X sc N,Cxt X G F sc N->∀ e c,cO G n sc N e=some c->PO X e (tO X.K (ev F c))

theorem Zbt{v:Const}{k:Nat}{c:CE}(h:CE.ofConst v=some c):SE X F (.Constant v k pos) c:=by
 cases v with
 |none=>cases h;exact .of (Zl pe_non (V3 fun _ _=>.non))
 |bool b=>cases h;exact .of (Zl pe_bl (V3 fun _ _=>.bl b))
 |int i=>cases h;exact .of (Zl pe_int (V3 fun _ _=>.int i))
 |str x=>cases h;exact .of (Zl pe_str (V3 fun _ _=>.str x))
 |_=>exact Zb h
theorem ZcY{x:Str}{c:CE}(K:Cxt X G F sc N)(h:Za0 G sc N x=some c):SE X F (.Name x pos) c:=by
 unfold Za0 at h;split at h
 ·rename_i hl
  cases q:N.idxOf? x with
  |none=>rw[q]at h;cases h
  |some i=>
   rw[q]at h;cases h;obtain⟨h1,h2⟩:=Xq hl;exact .of (Zl (pe_var (i:=i) (by rw[K.hN];exact Ye q) (K.vis x hl) h1 h2) Zcv)
 ·split at h
  ·rename_i hg
   split at h
   ·rename_i d q
    cases h;obtain⟨v,u,hm,r,hd⟩:=K.gl x _ q;exact .of (Zl (pe_glob (K.glb x hg) hm r (ZI hg)) (V3 hd))
   ·exact Zb h
  ·exact Zb h
theorem pa1{a:Expr}{t:TE}(hp:Zf a=true)(ha:PE X a t):PA X [a] (tCons t tNil):=pa_cons ha pa_nil (Zd hp)
theorem pa2{a b:Expr}{t u:TE}(hp:Zf a=true)(hq:Zf b=true)(ha:PE X a t)(hb:PE X b u):PA X [a,b] (tCons t (tCons u tNil)):=pa_cons ha (pa1 hq hb) (Zd hp)
theorem ZcP{f:Str}{a:Expr}{x c:CE}{p:Pos}(K:Cxt X G F sc N)(hk:X.calm=true)(hg:Zq sc f=true)(hm:X.mg f=none)(hp:Zf a=true)(A:PE X a (tE X.K (ev F x)))(h:Zd6 f x=some c) :
  PE X (.Call (.Name f p) [a] [] pos) (tE X.K (ev F c)):=by 
 have hG:=K.glb f hg;unfold Zd6 at h;split at h
 ·rename_i e;subst e;cases h
  exact Zl (pe_callB Q9 hG hm Zd9 (pa1 hp A) (by decide) (by decide) (Zd hp) rfl) YN
 ·split at h
  ·rename_i e;subst e;cases h
   exact Zl (pe_callTy VQ hG hm VN (pa1 hp A) (by decide) (by decide) (Zd hp) rfl) YN
  ·split at h
   ·rename_i e;subst e;cases h
    exact Zl (pe_callTy Q7 hG hm JZ (pa1 hp A) (by decide) (by decide) (Zd hp) rfl) YN
   ·split at h
    ·rename_i e;subst e;cases h
     exact Zl (pe_callB (Zbm Zfi hk) hG hm Zd8 (pa1 hp A) (by decide) (by decide) (Zd hp) rfl) YN
    ·split at h
     ·rename_i e;subst e;cases h
      exact Zl (pe_callTy Jc hG hm J0 (pa1 hp A) (by decide) (by decide) (Zd hp) rfl) YN
     ·exact Zb h
theorem W0{y:CE}(h:UN y=true)(e:ev F y ρ st=some (d,st')):st'=st:=by
 unfold UN at h;split at h
 ·rename_i i j
  have e:Zn (ZA i) (evC (.int j)) ixR ρ st=some (d,st'):=e;unfold Zn at e;split at e
  ·rename_i x st1 q1
   unfold ZA at q1;split at q1
   ·cases q1
    have e:ixR x (.int j) st=some (d,st'):=e;unfold ixR at e;split at e
    ·cases e;rfl
    ·exact Zb e
   ·cases q1
  ·exact Zb e
 ·have e:ZA _ ρ st=some (d,st'):=e
  unfold ZA at e;split at e
  ·cases e;rfl
  ·exact Zb e
 ·rename_i i
  have e:Zm (ZA i) Yw ρ st=some (d,st'):=e;unfold Zm at e;split at e
  ·rename_i x st1 q1
   unfold ZA at q1;split at q1
   ·cases q1
    unfold Yw at e;split at e
    ·cases e;rfl
    ·exact Zb e
   ·cases q1
  ·exact Zb e
 ·cases h
theorem Wb{x y:D}(h:ZW op x y st=some (d,st')):∃ k,d=.bl k/\st'=st:=by
 unfold ZW at h;split at h
 ·cases h;exact⟨_,rfl,rfl⟩
 ·exact Zb h
theorem WS{K:Fg}{op2:CmpOp}(hb:∀ ρ st st' d,fb ρ st=some (d,st')->st'=st)(σ:L2.St)(H:Hp)(Q:VK)(h:tE K (YC (Zn fa fb (ZW op)) (Zn fb fc (ZW op2)) (evC (.bl false))) σ H Q) :
  tChain (rD K (ZW op)) (rD K (ZW op2)) (tE K fa) (tE K fb) (tE K fc) σ H Q:=by
 obtain⟨ad,ρ,st,d,st',E,S,e,p⟩:=h;obtain⟨k,st1,q,e⟩:=ZQ e;unfold Zn at q;split at q
 ·rename_i x s1 q1
  split at q
  ·rename_i y s2 q2
   have z:=hb _ _ _ _ q2;subst z;obtain⟨k',ek,es⟩:=Wb q;subst es;refine⟨ad,ρ,st,x,_,E,S,q1,fun v1 ad1 H1 x1 S1 d1=>⟨ad1,ρ,_,y,_,E.mono x1,S1,q2,fun v2 ad2 H2 x2 S2 d2=>⟨ad2,_,x,y,.bl k,_,S2,d1.mono x2,d2,q,fun v3 ad3 H3 x3 S3 d3=>⟨k,d3.ofBl,?_⟩⟩⟩⟩
   cases k with
   |false=>
    rw[if_neg Bf]at e ⊢;cases e;exact(p.later (x1.trans (x2.trans x3))).at S3 (.bl false)
   |true=>
    rw[if_pos rfl]at e ⊢;unfold Zn at e;rw[q2]at e;split at e
    ·rename_i y' s3 qq
     cases qq;split at e
     ·rename_i z s4 q4
      exact⟨ad3,ρ,_,z,s4,E.mono (x1.trans (x2.trans x3)),S3,q4,fun v4 ad4 H4 x4 S4 d4=>⟨ad4,s4,y,z,d,st',S4,d2.mono (x3.trans x4),d4,e,p.later (x1.trans (x2.trans (x3.trans x4)))⟩⟩
     ·exact Zb e
    ·exact Zb e
  ·exact Zb q
 ·exact Zb q
theorem ZbX{b:Expr}(hq:Zf b=true):(backTo pos (starEach [b] X.env)).any (·.1)=false:=Ya (by rw[bK,hq];rfl)
theorem ZcQ{f:Str}{a b:Expr}{x y c:CE}{p:Pos}(K:Cxt X G F sc N)(hk:X.calm=true)(hg:Zq sc f=true)(hm:X.mg f=none)(hp:Zf a=true)(hq:Zf b=true)(A:PE X a (tE X.K (ev F x)))(B:PE X b (tE X.K (ev F y)))(h:Zd7 f x y=some c):PE X (.Call (.Name f p) [a,b] [] pos) (tE X.K (ev F c)):=by
 have hG:=K.glb f hg;unfold Zd7 at h;split at h
 ·rename_i e;subst e;cases h
  exact Zl (pe_callB (Jb hk) hG hm Zeb (pa2 hp hq A B) (by decide) (by decide) (Zd hp) (ZbX hq)) V2
 ·split at h
  ·rename_i e;subst e;cases h
   exact Zl (pe_callB (Ja hk) hG hm Zea (pa2 hp hq A B) (by decide) (by decide) (Zd hp) (ZbX hq)) V2
  ·exact Zb h
theorem Zck{K:Fg}{T:Ty}(σ:L2.St)(H:Hp)(Q:VK)(h:tE K (Zm fa (ZaP T)) σ H Q) :
  tCB (fun vs H Q=>∃ v,vs=[v,.ty (tyN T)]/\rC K (on1 (ZaP T)) [v] H Q) (tCons (tE K fa) (tCons (tC (.ty (tyN T))) tNil)) σ H Q:=by
 obtain⟨ad,ρ,st,d,st',E,S,e,p⟩:=h;unfold Zm at e;split at e
 ·rename_i x st1 q1
  exact⟨ad,ρ,st,x,st1,E,S,q1,fun v1 ad1 H1 x1 S1 d1=>⟨v1,rfl,ad1,st1,[x],d,st',S1,.cons d1 .nil,e,p.later x1⟩⟩
 ·exact Zb e
theorem ZbG{b:Expr}{T:Ty}(K:Cxt X G F sc N)(h:Q1 G sc b=some T):Zf b=true/\PE X b (tC (.ty (tyN T))):=by
 cases b with
 |Name t p=>
  have h2:Zfa G sc t=some T:=h;clear h;unfold Zfa at h2;split at h2
  ·rename_i hg
   rw[Ba]at hg;have hm:X.mg t=none:=by
    have z:=hg.2;unfold WT at z;split at z
    ·rename_i q;exact K.gl t _ q
    ·cases z
   have hG:=K.glb t hg.1;refine⟨rfl,?_⟩;unfold Zf5 at h2;split at h2
   ·rename_i e;subst e;cases h2
    exact pe_bltn hG hm JZ rfl
   ·split at h2
    ·rename_i e;subst e;cases h2
     exact pe_bltn hG hm Zb2 rfl
    ·split at h2
     ·rename_i e;subst e;cases h2
      exact pe_bltn hG hm J0 rfl
     ·split at h2
      ·rename_i e;subst e;cases h2
       exact pe_bltn hG hm VN rfl
      ·exact Zb h2
  ·exact Zb h2
 |_=>simp[Q1]at h
theorem ZeT{a b:Expr}{x:CE}{T:Ty}{p:Pos}(K:Cxt X G F sc N)(hg:Zq sc "isinstance"=true)(hm:X.mg "isinstance"=none)(hp:Zf a=true)(A:PE X a (tE X.K (ev F x)))(hT:Q1 G sc b=some T) :
  PE X (.Call (.Name "isinstance" p) [a,b] [] pos) (tE X.K (ev F (.isi T x))):=by
 obtain⟨hq,B⟩:=ZbG K hT;exact Zl (pe_callB (J2 (T:=T)) (K.glb _ hg) hm Y0 (pa2 hp hq A B) (by decide) (by decide) (Zd hp) (ZbX hq)) Zck
theorem J3{v:V}(ru:∀ u',RelV v u'->u'=u)(hk:∀ c∈exNums,XG X.K (ClsTab.ca c)->PySem.W.kitOne X.K (.ref (ClsTab.ca c)) u=some (l.contains c)):CallR X (.builtin "isinstance") (fun vs H Q=>∃ z,vs=[z,v]/\rC X.K (on1 (ZaQ l)) [z] H Q):=by
 intro pQ s σ H xs us Q I r h;obtain⟨z,rfl,ad,st,ds,d,st',S,hd,e,p⟩:=h;obtain⟨x,rfl,e1⟩:=Z1 e;have e:=e1;obtain⟨w,hw,hv⟩:=Xg hd;cases hw;unfold ZaQ at e;split at e
 ·rename_i i
  cases e;cases hv with
  |obj g h h2=>
   obtain⟨g,gm⟩:=g;obtain⟨nm,qq,N,bs,bm,sn,sub,ab,col,dd,k0,k1,k2,k3,k5,newId,B,bmB,lk,T,FB⟩:=g.g.cl;obtain⟨ox,od,mA,J,_,_⟩:=Ex.look (H:=H) ⟨_,h,h2⟩ I.hok;cases r with
   |cons r1 r2=>cases r2 with
    |cons r3 r4=>
     cases r4;cases r1;cases ru _ r3
     exact PySem.W.kia_one (kit_x (ox:=ox) (od:=od) FB lk T g.g.ga g.g.gn g.g.gc g.g.gs g.g.gt g.g.gm (dict_cls g.g.gd)) I.kIn J (hk _ gm g) (fun z=>nomatch z) fun tk=>⟨.bl _,H,I.tok _,rfl,p.at S (.bl _)⟩
 ·exact Zb e
theorem Zcl{K:Fg}{v:V}(σ:L2.St)(H:Hp)(Q:VK)(h:tE K (Zm fa (ZaQ l)) σ H Q) :
  tCB (fun vs H Q=>∃ z,vs=[z,v]/\rC K (on1 (ZaQ l)) [z] H Q) (tCons (tE K fa) (tCons (tC v) tNil)) σ H Q:=by
 obtain⟨ad,ρ,st,d,st',E,S,e,p⟩:=h;unfold Zm at e;split at e
 ·rename_i x st1 q1
  exact⟨ad,ρ,st,x,st1,E,S,q1,fun v1 ad1 H1 x1 S1 d1=>⟨v1,rfl,ad1,st1,[x],d,st',S1,.cons d1 .nil,e,p.later x1⟩⟩
 ·exact Zb e
theorem ZeU{a b:Expr}{x:CE}{p:Pos}(K:Cxt X G F sc N)(hg:Zq sc "isinstance"=true)(hm:X.mg "isinstance"=none)(hp:Zf a=true)(A:PE X a (tE X.K (ev F x)))(hb:UG G sc b=some l) :
  PE X (.Call (.Name "isinstance" p) [a,b] [] pos) (tE X.K (ev F (.isc (0 :: 0 :: 0 :: l) x))):=by
 have go:∀ {v:V}{u:vL},Zf b=true->PE X b (tC v)->(∀ u',RelV v u'->u'=u)->(∀ c∈exNums,XG X.K (ClsTab.ca c)->PySem.W.kitOne X.K (.ref (ClsTab.ca c)) u=some (l.contains c))->PE X (.Call (.Name "isinstance" p) [a,b] [] pos) (tE X.K (ev F (.isc (0 :: 0 :: 0 :: l) x))):=fun hq B ru hk=>
  Zl (pe_callB (J3 ru hk) (K.glb _ hg) hm Y0 (pa2 hp hq A B) (by decide) (by decide) (Zd hp) (ZbX hq)) Zcl
 unfold UG at hb;split at hb
 ·rename_i t tp
  split at hb
  ·rename_i gt
   unfold Zfw at hb;split at hb
   ·rename_i i l' hG
    cases hb;obtain⟨h1,h2,_⟩:=K.gl t _ hG;exact go rfl (pe_glob (K.glb t gt) h1 (v:=.ref (ClsTab.ca i)) rfl (ZI gt)) (fun _ z=>z) fun c hc _=>h2 c hc
   ·rename_i hG
    split at hb
    ·rename_i ev
     cases hb;subst ev;exact go rfl (pe_bltn (K.glb _ gt) (K.gl _ _ hG) (show bootBuiltins "ValueError"=some (.type "ValueError") by decide +kernel) (v:=.ty "ValueError") rfl) (fun _ z=>z) fun c hc g=>by rw[g.kv];exact congrArg some (cC.mpr hc).symm
    ·exact Zb hb
   ·exact Zb hb
  ·exact Zb hb
 ·exact Zb hb
theorem ZcU{y:Str}{x:CE}(A:PE X (.Name y yp) (tE X.K (ev F x))):PE X (.Attribute (.Name y yp) "line" pos) (tE X.K (ev F (.isc [0] x))):=by
 intro pQ s σ H Q I h;obtain⟨ad,ρ,st,d,st',E,S,e,p⟩:=h;have e:Zm (ev F x) ZaU ρ st=some (d,st'):=e;unfold Zm at e;split at e
 ·rename_i z st1 q1
  unfold ZaU at e;split at e
  ·rename_i i
   cases e;refine attr_of rfl (thn (A pQ s σ H (fun v H1=>∃ ad1,Ext ad H ad1 H1/\StOk X.K ad1 H1 st'/\Den X.K ad1 H1 v (.obj i)) I ⟨ad,ρ,st,.obj i,st',E,S,q1,fun v ad1 H1 x1 S1 d1=>⟨ad1,x1,S1,d1⟩⟩) fun u s1 ⟨v,H1,I1,rv,ad1,x1,S1,d1⟩=>?_)
   cases d1 with
   |obj g h h2=>
    obtain⟨g,gm⟩:=g;obtain⟨nm,qq,N,bs,bm,sn,sub,ab,col,dd,k0,k1,k2,k3,k5,newId,B,bmB,lk,T,FB⟩:=g.g.cl;obtain⟨ox,od,mA,J,hl,r⟩:=Ex.look (H:=H1) ⟨_,h,h2⟩ I1.hok;obtain⟨u',hu,ru⟩:=RelO.some_of (v:=.int _) (o:=mA "line") (r "line");cases (show u=Value.ref _ from rv)
    obtain⟨hp,gg,d',tk,os⟩:=s1;exact gattr_x I1.kIn J FB (I1.kIn _ _ lk) T g.g.ga g.g.gn (PySem.W.findObj_own g.g.gd g.na rfl (by rw[hl,hu])) (handed_of ru) ⟨_,H1,I1.tok _,ru,(p.later x1).at S1 (.int _)⟩
  ·exact Zb e
 ·exact Zb e
noncomputable def tEX(E:XK)(K:Fg)(f:Ev):TE:=fun σ H Q=>∃ ad ρ st d st',EnvOk K ad H σ ρ/\StOk K ad H st/\f ρ st=some (d,st')/\Post K ad H d st' Q/\XPost E K ad H d st'
theorem WR{K:Fg}{g:Fn}{dvs:Li V}(hd:∀ ad H,Dens K ad H dvs ds)(σ:L2.St)(H:Hp)(Q:VK)(h:tEX E1 K (Zm fe (VP g ds)) σ H Q):tCall (spD K g) dvs E1 (tA K fe) σ H Q:=by
 obtain⟨ad,ρ,st,d,st',E,S,e,p1,p2⟩:=h;unfold Zm at e;split at e
 ·rename_i x st1 q1
  cases x with
  |tup xs=>exact⟨ad,ρ,st,xs,_,E,S,q1,fun vs ad1 H1 x1 S1 d1=>⟨ad1,xs++ds,_,d,st',S1,d1.append (hd _ _),e,p1.later x1,p2.later x1⟩⟩
  |_=>exact Zb e
 ·exact Zb e
theorem Za4{E:XK}{K:Fg}{f:Ev}{g:Ev}(h:∀ ρ st,f ρ st=YY (g ρ st))(σ:L2.St)(H:Hp)(Q:VK):tE K f σ H Q->tEX E K g σ H Q:=fun⟨ad,ρ,st,d,st',E,S,e,p⟩=>let ⟨e,xp⟩:=ZdG ((h ρ st).symm.trans e);⟨ad,ρ,st,d,st',E,S,e,p,xp _ _ _ _⟩
theorem Um(hx:Passes (CX1 X.prog X.w) X E1){f:Str}{ps:Nat}{p:Pos}(K:Cxt X G F sc N)(hg:Zq sc f=true)(hG:G.lookup f=some (.fn i ps ds))(hl:as.length<=ps/\ps<=as.length+ds.length)(A:PA X as (tA X.K (ev F cs))/\W9 cs/\as.all Zf=true/\(as=[]->cs=.aN)):PE X (.Call (.Name f p) as [] pos) (tEX E1 X.K (evX F (.call i cs (ds.drop (as.length+ds.length - ps))))):=by
 obtain⟨k,fa,fd,pn,Fk,hr,hm,hk,hb⟩:=K.gl f _ hG;obtain⟨dvs,us,hd,hv,hbn⟩:=hb (as.length+ds.length - ps) (by omega)
 obtain⟨PAs,_,hp,hn⟩:=A;cases as with
 |nil=>
  refine Zl (pe_call0 (E:=E1) Fk hr (K.glb f hg) hm hk hbn hv hx (ZI hg)) fun σ H Q h=>?_
  rw[hn rfl]at h;exact Wq σ H _ (WR hd σ H Q h)
 |cons e es=>
  rw[bK,Ba]at hp;exact Zl (pe_call (E:=E1) Fk hr (K.glb f hg) hm hk hbn hv hx PAs (ZI hg) (Zd hp.1) (Ya hp.2)) (WR hd)
theorem ZcS{f:Str}{ps:Nat}{p:Pos}(K:Cxt X G F sc N)(hg:Zq sc f=true)(hG:G.lookup f=some (.fn i ps ds))(hl:as.length<=ps/\ps<=as.length+ds.length)(A:PA X as (tA X.K (ev F cs))/\W9 cs/\as.all Zf=true/\(as=[]->cs=.aN)):PE X (.Call (.Name f p) as [] pos) (tE X.K (ev F (.call i cs (ds.drop (as.length+ds.length - ps))))):=
 Zl (Um QO K hg hG hl A) (Za4 fun ρ st=>by
  show Zm (ev F cs) (Xd (F i) _) ρ st=YY (Zm (ev F cs) (VP (F i) _) ρ st);unfold Zm;split<;>rfl)
theorem UH{nm:Str}{b:Expr}(K:Cxt X G F sc N)(h:fnA G sc nm b=some as):∃ p pos,b=.Call (.Name nm p) as [] pos/\Gl X nm/\X.mg nm=none:=by
 obtain⟨q,h1,h2⟩:=aW.mp h;refine ZX h2 fun hc h3=>?_
 obtain⟨rfl,hg,hb⟩:=hc;cases h3;unfold Zds at h1;split at h1
 ·cases h1
  refine⟨_,_,rfl,K.glb _ hg,?_⟩;unfold WT at hb;split at hb
  ·rename_i q;exact K.gl _ _ q
  ·cases hb
 ·cases h1
theorem ZcF{a:Expr}(h:ZfP as=some a):as=[a]:=by
 cases as with
 |nil=>exact Zb h
 |cons x as=>cases as with
  |nil=>cases h;rfl
  |cons _ _=>exact Zb h
theorem WI{b:Expr}(K:Cxt X G F sc N)(h:Yg G sc b=some e):∃ p pos,b=.Call (.Name "range" p) [e] [] pos/\Gl X "range"/\X.mg "range"=none:=by
 obtain⟨as,h1,h2⟩:=aW.mp h;rw[ZcF h2]at h1;exact UH K h1
theorem ZeX{f:Str}{a:Expr}{o:Ot CE}{c:CE}{p:Pos}(K:Cxt X G F sc N)(hk:X.calm=true)(hg:Zq sc f=true)(hm:X.mg f=none)(hb:Qb G sc f a=some e)(B:∀ c,o=some c->Zf e=true/\PE X e (tE X.K (ev F c)))(h:o.map CE.tupR=some c):SE X F (.Call (.Name f p) [a] [] pos) c:=by cases hb
noncomputable def rLk(K:Fg)(A:Ad)(ks:Li Str)(ds:Li D):R2:=fun x y H Q=>x=.ref A/\∃ k d,y=.str k/\Y2 ks ds k=some d/\∀ v,(∀ ad H,Den K ad H v d)->Q v H
theorem ZfI{A:Ad}{o:Obj}(lk:X.K.lookup A=some o)(ex:o.ExactDict)(hd:o.data=.dict es ep)(hm:(A==sysModules)=false)(nd:ks.Nodup)(eo:EsOk X.w.params X.K es.toList ks ds):IxR X (rLk X.K A ks ds):=by
 intro value slice pQ s σ H x y v u Q I rx ry h hs;obtain⟨rfl,k,d,rfl,he,q⟩:=h;cases rx;obtain⟨kvs,pr,kn,kk,val⟩:=eo.open (P:=X.prog);have dd:s.heap.DictOf (mixKind X.prog X.w) A kvs:=by
  refine⟨o,es,ep,I.kIn A o lk,ex,hd,fun e he=>kk e (by simpa using he),pr,?_⟩
  rw[kn];exact List.pairwise_map.mpr (nd.imp fun h z=>h (Sum.inr.inj z))
 obtain⟨w,z,hw,rw',dn⟩:=val k d he;exact tail_any dd.typeIs PySem.F.slot_dict_getitem.lookup (wpAny_getItem_of (kV_is (k:=Sum.inr k) ry) dd.mapOf hw ⟨z,H,I.tok _,rw',q z dn⟩) hs
theorem ZaG{K:Fg}{A:Ad}(σ:L2.St)(H:Hp)(Q:VK)(h:tE K (Zm fa (ZaX ks ds)) σ H Q):tOp (rLk K A ks ds) (tC (.ref A)) (tE K fa) σ H Q:=by
 obtain⟨ad,ρ,st,d,st',E,S,e,p⟩:=h;unfold Zm at e;split at e
 ·rename_i x st1 q1
  unfold ZaX at e;split at e
  ·rename_i k
   split at e
   ·rename_i d' hl
    cases e;exact⟨ad,ρ,st,.str k,_,E,S,q1,fun v ad1 H1 x1 S1 d1=>⟨rfl,k,d,d1.ofStr,hl,fun w dn=>p w ad1 H1 x1 S1 (dn ad1 H1)⟩⟩
   ·exact Zb e
  ·exact Zb e
 ·exact Zb e
theorem Zdk{p:Expr×Expr}(h:Ze9 as=some p):as=[p.1,p.2]:=by
 cases as with
 |nil=>exact Zb h
 |cons x as=>cases as with
  |nil=>exact Zb h
  |cons y as=>cases as with
   |nil=>cases h;rfl
   |cons _ _=>exact Zb h
theorem ZcW{f:Str}{a u v:Expr}{x y:CE}{p:Pos}(K:Cxt X G F sc N)(hk:X.calm=true)(hg:Zq sc f=true)(hm:X.mg f=none)(hb:UT G sc f a=some (u,v))(hu:Zf u=true)(hv:Zf v=true)(A:PE X u (tE X.K (ev F x)))(B:PE X v (tE X.K (ev F y))):PE X (.Call (.Name f p) [a] [] pos) (tE X.K (ev F (.lstR x y))):=by cases hb
theorem ZcV{a b:Expr}{y:CE}(K:Cxt X G F sc N)(hn:XV G sc a=some (ks,ds))(hp:Zf b=true)(B:PE X b (tE X.K (ev F y))):PE X (.Subscript a b pos) (tE X.K (ev F (.look ks ds y))):=by
 unfold XV at hn;split at hn
 ·split at hn
  ·rename_i hg
   split at hn
   ·rename_i q
    cases hn;obtain⟨A,o,es,ep,hm,lk,ex,hd,hs,nd,eo⟩:=K.gl _ _ q;exact Zl (pe_ix (ZfI lk ex hd hs nd eo) (pe_glob (K.glb _ hg) hm (show RelV (.ref A) (.ref A) from rfl) (ZI hg)) B (V8 hp)) ZaG
   ·exact Zb hn
  ·exact Zb hn
 ·exact Zb hn
theorem ZfV{f:Str}{p:Pos}(K:Cxt X G F sc N)(hg:Zq sc f=true)(hG:G.lookup f=some (.cls i ms subs))(hl:ms.lookup ("__init__":Str)=some (j,1)):PE X (.Call (.Name f p) [] [] pos) (tE X.K (ev F (.isc [i,j] .aN))):=by
 obtain⟨hm,nw,hms⟩:=K.gl f _ hG;obtain⟨k,fa,fd,pn,Fk,hr,hme,hb⟩:=hms _ j 1 hl;intro pQ s σ H Q I h;obtain⟨ad,ρ,st,d,st',E,S,e,q⟩:=h;have e:(match F j [.dic st.length] (st++[(true,[.int i])]) with
  |some (.non,st')=>some (D.dic st.length,st')
  |_=>none)=some (d,st'):=e
 split at e
 ·rename_i st2 q2
  cases e;refine wpAny_Call_Name_kw (ld_glob I (K.glb f hg) hm ?_ (ZI hg));refine PySem.W.callWith_K0 I.kIn nw.kp (run_make (us:=[]) (vs:=[]) (E:=E0) ⟨nw.makes,hme.at_,hme.fn,nw.kp⟩ Fk hr hb .nil QO I .nil fun x dx hx hdx hne hk=>?_)
  have hx2:upd H dx (.own x) x=none:=by rw[upd_ne hne.symm];exact hx
  have S1:=S.laid (o:=.own x) hdx;have xt:=(Ext.laid (ad:=ad) (o:=.own x) hdx).trans (S1.extD (o:=.ins (ClsTab.ca i) dx []) hx2 hk);have gl:(ad++[x])[st.length]?=some x:=by rw[<-S.len];exact ZB
  exact⟨ad++[x],[.dic st.length],_,.non,_,S1.pushO hx2 hk nw.oc,.cons (.dic gl ⟨_,upd_same,rfl⟩) .nil,q2,(fun v ad2 H2 x2 S2 d2=>⟨d2.ofNon,q _ ad2 H2 (xt.trans x2) S2 (.dic (x2.pre _ _ gl) ((x2.kd _ _ gl).mp ⟨_,upd_same,rfl⟩))⟩),trivial⟩
 ·exact Zb e
theorem Zcj{K:Fg}{f:Str}(hf:fldNames.contains f=true)(σ:L2.St)(H:Hp)(Q:VK)(h:tE K (Zm fa (Zao [f])) σ H Q):tFld K (tE K fa) f σ H Q:=by
 obtain⟨ad,ρ,st,d,st',E,S,e,p⟩:=h;unfold Zm at e;split at e
 ·rename_i x st1 q1
  unfold Zao at e;split at e
  ·rename_i f' a hz
   cases hz;split at e
   ·rename_i b c es q2
    split at e
    ·rename_i w q3
     cases e;refine⟨ad,ρ,st,.dic a,_,E,S,q1,fun v ad1 H1 x1 S1 d1=>?_⟩
     obtain⟨l,rfl,hl,n⟩:=d1.ofDic;obtain⟨j,dx,kvs,rfl,r,ho,_,oc,nf⟩:=S1.obj hl n q2;rcases XD (x:=f) r with⟨u,d0,e1,e2,e3⟩|⟨_,e2⟩
     ·rw[e2]at q3
      cases q3;exact⟨l,_,dx,kvs,u,rfl,ho,oc.cl,oc.na f hf,e1.2,(p.later x1).at S1 e3⟩
     ·rw[e2]at q3;cases q3
    ·exact Zb e
   ·exact Zb e
  ·exact Zb e
 ·exact Zb e
theorem ZeR{f:Str}{c:Ot CE}{r:CE}(A:∀ x,c=some x->PE X o (tE X.K (ev F x)))(h:Zem o f c=some r):PE X (.Attribute o f pos) (tE X.K (ev F r)):=by
 cases o with
 |Name y yp=>
  unfold Zem at h;by_cases z:f = "line"
  ·subst z
   rw[if_pos rfl]at h;exact Xa (P:=fun r=>PE X _ (tE X.K (ev F r))) h fun x hx=>ZcU (A x hx)
  rw[if_neg z]at h;exact ZX h fun hc h=>Xa (P:=fun r=>PE X _ (tE X.K (ev F r))) h fun x hx=>Zl (pe_fld (A x hx) rfl) (Zcj hc)
 |_=>exact Zb h
theorem ZdC{α:Type}:∀ {us:Li α},us.length=1->∃ a,us=[a]
 |[a],_=>⟨a,rfl⟩
theorem Jp(h:as.all Zf=true)(hl:as.length < 20):((backTo pos (starEach as env)).all (fun x=>!x.1)&&(backToKw pos (keywordEach [] env)).all (fun x=>x.1.isSome)
  &&decide (as.length+([]:Li Keyword).length+(if ([]:Li Keyword).isEmpty then 0 else 1) < 30))=true:=by
 have a:=Ya (pos:=pos) (env:=env) h;have b:(backTo pos (starEach as env)).all (fun x=>!x.1)=true:=by
  rw[bP];intro x hx;have:=List.any_eq_false.mp a x hx;simpa using this
 rw[b,aF (show as.length+([]:Li Keyword).length+(if ([]:Li Keyword).isEmpty then 0 else 1) < 30 by simp;omega)]
 rfl
theorem ZcB{name:Str}{apos:Pos}{args:Li Expr}{Q:vL->sH7->Prop}{s:sH7}(hbase:attributeBase o name X.env (eval o X.env)=eval o X.env)(hfew:((backTo pos (starEach args X.env)).all (fun x=>!x.1)&&(backToKw pos (keywordEach [] X.env)).all (fun x=>x.1.isSome)&&decide (args.length+([]:Li Keyword).length+(if ([]:Li Keyword).isEmpty then 0 else 1) < 30))=true)(hline:(apos.endLine==pos.line)=true)(h:wpAny (model X.prog X.w) X.A (eval o X.env) (fun ov s₁=>∀ pl,wpAny (model X.prog X.w) X.A (getMethod ov name pl) (fun fx s₂=>wpAny (model X.prog X.w) X.A (callWith pos fx.1 fx.2 (backTo pos (starEach args X.env)) (backToKw pos (keywordEach [] X.env))) Q X.xe s₂) X.xe s₁) X.xe s) :
  wpAny (model X.prog X.w) X.A (eval (.Call (.Attribute o name apos) args [] pos) X.env) Q X.xe s:=by
 rw[arm_eval_Call,hbase];refine aA (bD h (fun ov s₁ h₁=>?_) fun _ _ e=>e)
 refine aA (wpAny_standAt ?_);have hform:methodCallForm (args.length+([]:Li Keyword).length) (backTo pos (starEach args X.env)) (backToKw pos (keywordEach [] X.env))=true:=hfew;have hpos:methodCallPos true o X.env apos pos=pure pos:=by unfold methodCallPos;simp[hline]
 unfold methodCall;rw[hform];refine aA (wpAny_holding ?_);exact bD (h₁ _) (fun fx s₂ h₂=>aA (wpAny_of_eq hpos h₂)) fun _ _ e=>e
theorem Ze6{k:Nat}(h:(Yp m k G).lookup i=some j):∃ x ms subs,G.lookup x=some (.cls i ms subs)/\ms.lookup m=some (j,k+1):=by
 have hm:(i,j)∈Yp m k G:=by
  generalize Yp m k G=l at h
  induction l with
  |nil=>exact Zb h
  |cons p l ih=>
   obtain⟨a,b⟩:=p;rw[bL]at h;split at h
   ·rename_i z
    cases h;rw[beq_iff_eq.mp z];exact lQ7
   ·exact Lm _ (ih h)
 obtain⟨x,_,hx⟩:=dW.mp hm;unfold ZdF at hx;split at hx
 ·rename_i i' ms subs q
  split at hx
  ·rename_i j' ps q2
   split at hx
   ·rename_i e
    subst e;cases hx;exact⟨x,ms,subs,q,q2⟩
   ·exact Zb hx
  ·exact Zb hx
 ·exact Zb hx
def ZeN:V->Li V->Hp->VK->Prop:=fun x xs H Q=>∃ z y,x=.str z/\xs=[.str y]/\(y.length=1/\z.length<=Zc)/\∀ p,H p=none->Q (.ref p) (upd H p (.lst ((Xu z y).map V.str)))
theorem Js(σ:L2.St)(H:Hp)(Q:VK)(h:tE X.K (Zn fa fb Ze7) σ H Q):tBM X.K "str" ZeN (tE X.K fa) (tA X.K fb) σ H Q:=by
 obtain⟨ad,ρ,st,d,st',E,S,e,p⟩:=h;unfold Zn at e;split at e
 ·rename_i dx st1 q1
  split at e
  ·rename_i dy st2 q2
   unfold Ze7 at e;split at e
   ·rename_i x y
    split at e
    ·rename_i c
     cases e;refine⟨ad,ρ,st,.str x,st1,E,S,q1,fun v ad1 H1 x1 S1 d1=>?_⟩
     cases d1;refine⟨rfl,ad1,ρ,st1,[.str y],_,E.mono x1,S1,q2,fun vs ad2 H2 x2 S2 d2=>?_⟩
     obtain⟨w,rfl,dw⟩:=Xg d2;cases dw;refine⟨x,y,rfl,rfl,c,fun q hq=>p.later (x1.trans x2) _ (ad2++[q]) _ (Ext.push hq) (S2.push hq (W4 _)) (.newL ?_)⟩
     rw[<-S2.len];exact ZB
    ·exact Zb e
   ·exact Zb e
  ·exact Zb e
 ·exact Zb e
theorem ZeW{y:Str}{x:CE}(hline:(ap.endLine==cp.line)=true)(hlen:as.length=1)(B:PE X (.Name y yp) (tE X.K (ev F x)))(A:PA X as (tA X.K (ev F cs))/\W9 cs/\as.all Zf=true/\(as=[]->cs=.aN)):PE X (.Call (.Attribute (.Name y yp) "split" ap) as [] cp) (tE X.K (ev F (.tix x cs))):=by
 obtain⟨PAs,_,hp,_⟩:=A;obtain⟨e0,rfl⟩:=ZdC hlen;rw[bK,Ba]at hp;exact Zl (pe_bm PySem.F.plainAttrs_str PySem.F.slot_str_split PySem.F.type_str_split ZaZ B PAs rfl (by rw[Zd hp.1];rfl) hline (Zd hp.1) rfl) Js
theorem Q0{k:Str}:∀ {ks:Li Str}{kvs:Li (Key×vL)},kvs.map (·.1)=ks.map Sum.inr->(valueAt kvs (Sum.inr k)).isSome=ks.contains k
 |[],[],_=>rfl
 |[],_ :: _,h=>nomatch h
 |_ :: _,[],h=>nomatch h
 |a :: ks,p :: kvs,h=>by
  rw[aT,aT]at h
  injection h with h1 h2
  have ih:=Q0 (k:=k) h2;unfold valueAt at ih ⊢
  rw[bW];by_cases c:a=k
  ·subst c
   rw[eK (by simpa using h1),beq_self_eq_true];rfl
  ·rw[eB (by rw[h1];simpa using c),ih,show(k==a)=false from bQ.mpr fun z=>c z.symm,Bool.false_or]
theorem Zes{A:Ad}{o:Obj}(lk:X.K.lookup A=some o)(ex:o.ExactDict)(hd:o.data=.dict es ep)(hm:(A==sysModules)=false)(nd:ks.Nodup)(eo:EsOk X.w.params X.K es.toList ks ds){s:sH7}{k:Str}(I:L2.Inv X pQ σ H s)(ru:RelV (.str k) u) :
  CW2 X pQ σ Q s H .In .NotIn u (.ref A) (ks.contains k):=by
 obtain⟨kvs,pr,kn,kk,val⟩:=eo.open (P:=X.prog);have dd:s.heap.DictOf (mixKind X.prog X.w) A kvs:=by
  refine⟨o,es,ep,I.kIn A o lk,ex,hd,fun e he=>kk e (by simpa using he),pr,?_⟩
  rw[kn];exact List.pairwise_map.mpr (nd.imp fun h z=>h (Sum.inr.inj z))
 have e:=Q0 (k:=k) kn;rw[<-e];exact⟨fun q=>wpAny_in_of (kV_is (k:=Sum.inr k) ru) hm dd.mapOf ⟨.bl _,H,I.tok _,rfl,q⟩,fun q=>wpAny_notIn_of (kV_is (k:=Sum.inr k) ru) hm dd.mapOf ⟨.bl _,H,I.tok _,rfl,q⟩⟩
theorem ZeS{a b:Expr}{x:CE}{ng:Bool}(K:Cxt X G F sc N)(hn:XV G sc b=some (ks,ds))(hg:Zer op=some ng)(A:PE X a (tE X.K (ev F x))):SE X F (.Compare a [op] [b] pos) (.cmp op x (.cst (.kt ks))):=by
 cases b with
 |Name t tp=>
  replace hn:(if Zq sc t then (match G.lookup t with
   |some (.dct ks ds)=>some (ks,ds)
   |_=>none) else none)=some (ks,ds):=hn
  split at hn
  ·rename_i hg1
   split at hn
   ·rename_i q
    cases hn;obtain⟨A0,o,es,ep,hm,lk,ex,hd,hs,nd,eo⟩:=K.gl _ _ q;have B:PE X (.Name t tp) (tC (.ref A0)):=pe_glob (K.glb _ hg1) hm (show RelV (.ref A0) (.ref A0) from rfl) (ZI hg1);have R:OpR X (compareOp op) (fun u v H Q=>∃ k b,u=.str k/\v=.ref A0/\XB op (.str k) (.kt ks) []=some b/\Q (.bl b) H):=by
     intro pQ s σ H u v u' v' Q I ru rv h;obtain⟨k,b,rfl,rfl,hb,q⟩:=h;cases rv;have z:=Zes (Q:=Q) lk ex hd hs nd eo I ru;cases op with
     |In=>cases hb;exact z.1 q
     |NotIn=>cases hb;exact z.2 q
     |_=>exact Zb hg
    have I0:∀ σ H Q,tE X.K (ev F (.cmp op x (.cst (.kt ks)))) σ H Q->tOp (fun u v H Q=>∃ k b,u=.str k/\v=.ref A0/\XB op (.str k) (.kt ks) []=some b/\Q (.bl b) H) (tE X.K (ev F x)) (tC (.ref A0)) σ H Q:=fun σ H Q h=>by
     obtain⟨ad,ρ,st,d,st',E,S,e,p⟩:=h;have e:Zn (ev F x) (evC (.kt ks)) (ZW op) ρ st=some (d,st'):=e;unfold Zn at e;split at e
     ·rename_i dx st1 q1
      have e:ZW op dx (.kt ks) st1=some (d,st'):=e;refine⟨ad,ρ,st,dx,st1,E,S,q1,fun v ad1 H1 x1 S1 d1=>?_⟩
      obtain⟨k0,rfl,rfl⟩:=Wb e;unfold ZW at e;split at e
      ·rename_i kb hb
       cases e;obtain⟨w,rfl⟩:∃ w,dx=.str w:=by
        cases op with
        |In=>cases dx<;>first|exact⟨_,rfl⟩|cases hb
        |NotIn=>cases dx<;>first|exact⟨_,rfl⟩|cases hb
        |_=>exact Zb hg
       refine⟨w,k0,d1.ofStr,rfl,?_,(p.later x1).at S1 (.bl _)⟩;cases op with
       |In=>exact hb
       |NotIn=>exact hb
       |_=>exact Zb hg
      ·exact Zb e
     ·exact Zb e
    exact⟨Zl (pe_cmpR R A B (Z4 rfl)) I0,Xb (pt_cmpR R A B (Z4 rfl)) fun σ H Q q=>I0 σ H _ (Vo σ H Q q)⟩
   ·exact Zb hn
  ·exact Zb hn
 |_=>exact Zb hn
def ZcK:V->Li V->Hp->VK->Prop:=fun x xs H Q=>∃ z y,x=.str z/\xs=[.str y]/\Q (.bl (stW z y)) H
def ZdI(K:Fg):V->Li V->Hp->VK->Prop:=fun x xs H Q=>∃ z a ys,x=.str z/\xs=[.ref a]/\SqL K H a (ys.map V.str)/\(Zu z ys).length<=Zc/\Q (.str ⟨(ZL z ys).toArray⟩) H
theorem UJ(σ:L2.St)(H:Hp)(Q:VK)(h:tE X.K (Zn fa fb VD) σ H Q):tBM X.K "str" ZcK (tE X.K fa) (tA X.K fb) σ H Q:=by
 obtain⟨ad,ρ,st,d,st',E,S,e,p⟩:=h;unfold Zn at e;split at e
 ·rename_i dx st1 q1
  split at e
  ·rename_i dy st2 q2
   unfold VD at e;split at e
   ·rename_i x y
    cases e;refine⟨ad,ρ,st,.str x,st1,E,S,q1,fun v ad1 H1 x1 S1 d1=>?_⟩
    cases d1;refine⟨rfl,ad1,ρ,st1,[.str y],_,E.mono x1,S1,q2,fun vs ad2 H2 x2 S2 d2=>?_⟩
    obtain⟨w,rfl,dw⟩:=Xg d2;cases dw;exact⟨x,y,rfl,rfl,(p.later (x1.trans x2)).at S2 (.bl _)⟩
   ·exact Zb e
  ·exact Zb e
 ·exact Zb e
theorem QZ{K:Fg}{ad:Li Ad}{H:Hp}:∀ {ys:Li V}{ds:Li D}{xs:Li Str},Dens K ad H ys ds->XY ds=some xs->ys=xs.map V.str
 |_,_,_,.nil,h=>by cases h;rfl
 |_,d :: ds,xs,.cons a r,h=>by
  cases d with
  |str x=>
   obtain⟨zs,h1,h2⟩:=eA.mp (show(XY ds).map (x :: ·)=some xs from h);cases h2;cases a;rw[QZ r h1];rfl
  |_=>exact Zb h
theorem ZaF{K:Fg}(σ:L2.St)(H:Hp)(Q:VK)(h:tE K (Zn fa fb Ws) σ H Q):tBM K "str" (ZdI K) (tE K fa) (tCons (tE K fb) tNil) σ H Q:=by
 obtain⟨ad,ρ,st,d,st',E,S,e,p⟩:=h;unfold Zn at e;split at e
 ·rename_i dx st1 q1
  split at e
  ·rename_i dy st2 q2
   unfold Ws at e;split at e
   ·rename_i s a
    split at e
    ·rename_i bb ds q3
     have core:∀ {xs:Li Str}{d':D}{s':Za},XY ds=some xs->(Zu s xs).length<=Zc->Post K ad H (.str ⟨(ZL s xs).toArray⟩) st2 Q->tBM K "str" (ZdI K) (tE K fa) (tCons (tE K fb) tNil) σ H Q:=fun {xs d' s'} hx hz p=>by
      refine⟨ad,ρ,st,.str s,st1,E,S,q1,fun v ad1 H1 x1 S1 d1=>?_⟩
      cases d1;refine⟨rfl,ad1,ρ,st1,.lst a,_,E.mono x1,S1,q2,fun w ad2 H2 x2 S2 d2=>?_⟩
      obtain⟨l,rfl,hl⟩:=d2.ofLst;obtain⟨ys,rv,sq⟩:=S2.list hl q3;have ey:=QZ rv hx;subst ey;exact⟨s,l,xs,rfl,rfl,sq,hz,(p.later (x1.trans x2)).at S2 (.str _)⟩
     split at e
     ·rename_i hs
      unfold Ua at e;split at e
      ·rename_i xs hx
       split at e
       ·rename_i hz
        cases e;exact core (d':=.non) (s':=[]) hx (by rw[Wo hs];exact hz) (by rw[Zas hs];exact p)
       ·exact Zb e
      ·exact Zb e
     ·unfold V9 at e
      split at e
      ·rename_i xs hx
       split at e
       ·rename_i hz
        cases e;exact core (d':=.non) (s':=[]) hx hz p
       ·exact Zb e
      ·exact Zb e
    ·exact Zb e
   ·exact Zb e
  ·exact Zb e
 ·exact Zb e
theorem JC{y:Str}{x:CE}(hline:(ap.endLine==cp.line)=true)(hlen:as.length=1)(B:PE X (.Name y yp) (tE X.K (ev F x)))(A:PA X as (tA X.K (ev F cs))/\W9 cs/\as.all Zf=true/\(as=[]->cs=.aN)):PE X (.Call (.Attribute (.Name y yp) "startswith" ap) as [] cp) (tE X.K (ev F (.starts x cs))):=by
 obtain⟨PAs,_,hp,_⟩:=A;obtain⟨e0,rfl⟩:=ZdC hlen;rw[bK,Ba]at hp;exact Zl (pe_bm PySem.F.plainAttrs_str PySem.F.slot_str_startswith PySem.F.type_str_startswith Jw B PAs rfl (by rw[Zd hp.1];rfl) hline (Zd hp.1) rfl) UJ
theorem ZcT{v:Const}{kd:Nat}{kp:Pos}{a:Expr}{x z:CE}(hline:(ap.endLine==cp.line)=true)(hp:Zf a=true)(B:PE X (.Constant v kd kp) (tE X.K (ev F x)))(A:PE X a (tE X.K (ev F z))):PE X (.Call (.Attribute (.Constant v kd kp) "join" ap) [a] [] cp) (tE X.K (ev F (.joinE x z))):=
 Zl (pe_bm PySem.F.plainAttrs_str PySem.F.slot_str_join PySem.F.type_str_join ZcC B (pa1 hp A) rfl (by rw[Zd hp];rfl) hline (Zd hp) rfl) ZaF
theorem Uo(hx:Passes (CX1 X.prog X.w) X E1){y:Str}{x:CE}(K:Cxt X G F sc N)(hline:(ap.endLine==cp.line)=true)(hlen:as.length < 20)(B:PE X (.Name y yp) (tE X.K (ev F x)))(A:PA X as (tA X.K (ev F cs))/\W9 cs/\as.all Zf=true/\(as=[]->cs=.aN)):PE X (.Call (.Attribute (.Name y yp) m ap) as [] cp) (tEX E1 X.K (XW F (Yp m as.length G) (ev F x) (ev F cs))):=by
 obtain⟨PAs,_,hp,hn⟩:=A;intro pQ s σ H Q I h;obtain⟨ad,ρ,st,d,st',E,S,e,p,xp⟩:=h;unfold XW at e;split at e
 ·rename_i i st1 q1
  split at e
  ·rename_i b c es q0
   split at e
   ·rename_i j hj
    split at e
    ·rename_i xs st2 q2
     obtain⟨cx,ms,subs,hG,hl⟩:=Ze6 hj;obtain⟨_,nw,hms⟩:=K.gl cx _ hG;obtain⟨k,f,fd,pn,Fk,hr,hme,hb⟩:=hms m j _ hl;have hr:=hr.mono (Nat.le_succ k);refine ZcB rfl (Jp hp hlen) hline (thn (B pQ s σ H (fun v H1=>∃ ad1,Ext ad H ad1 H1/\StOk X.K ad1 H1 st1/\Den X.K ad1 H1 v (.dic i)) I ⟨ad,ρ,st,.dic i,st1,E,S,q1,fun v ad1 H1 x1 S1 d1=>⟨ad1,x1,S1,d1⟩⟩) fun u s1 ⟨v,H1,I1,rv,ad1,x1,S1,d1⟩ pl=>?_)
     obtain⟨a,rfl,hl1,n1⟩:=d1.ofDic;obtain⟨jc,dx,kvs,rfl,r,ho,_,oc,nf⟩:=S1.obj hl1 n1 q0;cases (show u=Value.ref a from rv)
     rw[bS]at hme;have hmf:fldNames.contains m=false:=by
      cases z:fldNames.contains m with
      |false=>rfl
      |true=>have z1:=oc.na m z;have z2:=hme.at_;unfold NoAttr at z1;rw[z1]at z2;cases z2
     refine getmeth_ok I1 ho oc.cl hme (nf m hmf) ?_;cases as with
     |nil=>
      have hc:=hn rfl;subst hc;have q2:some (D.tup [],st1)=some (.tup xs,st2):=q2;cases q2;exact PySem.W.callWith_K0 (first:=[.ref a]) I1.kIn hme.kp (run_fn (us:=[.ref a]) (vs:=[.ref a]) (E:=E1) Fk hr hb .nil hx I1 (.cons rfl .nil) ⟨ad1,[.dic i],st1,d,st',S1,.cons d1 .nil,e,p.later x1,xp.later x1⟩)
     |cons e0 es0=>
      rw[bK,Ba]at hp;refine PySem.W.callWith_K (first:=[.ref a]) (h₀:=X.base) I.ok.mod.kin hme.kp (thn (PAs cp pQ s1 σ H1 _ I1 ⟨ad1,ρ,st1,xs,st2,E.mono x1,S1,q2,fun vs ad2 H2 x2 S2 d2=>(show(fun vs H2=>∃ ad2,Ext ad1 H1 ad2 H2/\StOk X.K ad2 H2 st2/\Dens X.K ad2 H2 vs xs) vs H2 from⟨ad2,x2,S2,d2⟩)⟩) fun us s2 ⟨vs,H2,I2,r,ad2,x2,S2,d2⟩=>⟨I2.kIn,?_⟩) (Zd hp.1) (Ya hp.2)
      refine run_fn (us:=.ref a :: us) (vs:=.ref a :: vs) (E:=E1) Fk hr hb .nil hx I2 (.cons rfl r) ?_;rw[aP];exact⟨ad2,.dic i :: xs,st2,d,st',S2,.cons (d1.mono x2) d2,e,p.later (x1.trans x2),xp.later (x1.trans x2)⟩
    ·exact Zb e
   ·exact Zb e
  ·exact Zb e
 ·exact Zb e
theorem ZcX{y:Str}{x:CE}(K:Cxt X G F sc N)(hline:(ap.endLine==cp.line)=true)(hlen:as.length < 20)(B:PE X (.Name y yp) (tE X.K (ev F x)))(A:PA X as (tA X.K (ev F cs))/\W9 cs/\as.all Zf=true/\(as=[]->cs=.aN)):PE X (.Call (.Attribute (.Name y yp) m ap) as [] cp) (tE X.K (ev F (.meth (Yp m as.length G) x cs))):=
 Zl (Uo QO K hline hlen B A) (Za4 fun _ _=>rfl)
theorem U5{b:Expr}{p:Ot Expr×Ot Expr}(q:X5 b=some p):∃ p2,b=.Slice p.1 p.2 none p2:=by
 unfold X5 at q;split at q
 ·cases q;exact⟨_,rfl⟩
 ·exact Zb q
theorem ZfW{op:UnaryOp}{a:Expr}{o:Ot CE}{c:CE}(A:∀ x,o=some x->SE X F a x)(h:unC op o=some c):SE X F (.UnaryOp op a pos) c:=by
 cases op with
 |Not=>exact Xa (P:=SE X F _) (show o.map CE.not=some c from h) fun x hx=>⟨Zl (pe_not (A x hx).pe) ZaI,Xb (pt_not (A x hx).pt) ZaH⟩
 |USub=>exact Xa (P:=SE X F _) (show o.map CE.neg=some c from h) fun x hx=>.of (Zl (pe_un Zdl (A x hx).pe) Zeq)
 |_=>exact Zb h
section
variable {X:Cx}{sc:Scope}{N:Li Str}{n:Nat}{c:CE} (K:Cxt X G F sc N) (hf:∀ e c,cE G n sc N e=some c->SE X F e c)
include K hf
theorem ZeQ{a:Expr}{ops:Li CmpOp}{bs:Li Expr}(h:Zfq G sc (cE G n sc N) (cE G n sc N a) ops bs=some c):SE X F (.Compare a ops bs pos) c:=by
 cases ops with
 |nil=>exact Zb h
 |cons op ops=>cases bs with
  |nil=>cases ops with
   |nil=>exact Zb h
   |cons _ r=>cases r<;>cases h
  |cons b bs=>cases ops with
   |nil=>cases bs with
    |cons _ _=>exact Zb h
    |nil=>
     replace h:(match XV G sc b with
      |some (ks,_)=>o2 (fun _ x=>CE.cmp op x (.cst (.kt ks))) (Zer op) (cE G n sc N a)
      |none=>o2 (CE.cmp op) (cE G n sc N a) (cE G n sc N b))=some c:=h
     cases hn:XV G sc b with
      |some p=>
       obtain⟨ks,ds⟩:=p;rw[hn]at h;exact ZM (P:=SE X F _) h fun ng x hg hx=>ZeS K hn hg (hf a x hx).pe
      |none=>
      rw[hn]at h;exact ZM (P:=SE X F _) h fun x y hx hy=>⟨Zl (pe_cmpR (YW K.hu) (hf a x hx).pe (hf b y hy).pe (Z4 (Ze hy))) Vm,Xb (pt_cmpR (YW K.hu) (hf a x hx).pe (hf b y hy).pe (Z4 (Ze hy))) fun σ H Q q=>Vm σ H _ (Vo σ H Q q)⟩
   |cons op2 ops=>cases ops with
    |cons _ _=>exact Zb h
    |nil=>cases bs with
     |nil=>exact Zb h
     |cons b2 bs=>cases bs with
      |cons _ _=>exact Zb h
      |nil=>
       refine j_e h fun h=>XZ (P:=fun o=>o=some c->SE X F _ c) h (fun x y z hx hy hz h=>ZX h fun hr h=>?_) rfl
       cases h;have hm:lastMarks [op,op2] [b,b2]=false:=Z4 (op:=op2) (Ze hz);exact⟨Zl (pe_chain (YW K.hu) (YW K.hu) (hf a x hx).pe (hf b y hy).pe (hf b2 z hz).pe hm) (WS fun _ _ _ _=>W0 hr),Xb (pt_chain (YW K.hu) (YW K.hu) (hf a x hx).pe (hf b y hy).pe (hf b2 z hz).pe hm) fun σ H Q q=>WS (fun _ _ _ _=>W0 hr) σ H _ (Vo σ H Q q)⟩
omit K in
theorem ZcR{op:BoolOp}{vs:Li Expr}{pos:Pos}(h:Zdq (cE G n sc N) op pos vs=some c):SE X F (.BoolOp op vs pos) c:=by
 cases vs with
 |nil=>exact Zb h
 |cons a r=>cases r with
  |nil=>
   have A:=hf a c h;refine⟨pe_one A.pe,?_⟩;cases op with
   |And=>exact(pw_and1 A.pt).pt
   |Or=>exact(pw_or1 A.pt).pt
  |cons b r=>cases op with
   |And=>exact ZM (P:=SE X F _) (show o2 CE.and (cE G n sc N a) (cE G n sc N (.BoolOp .And (b :: r) pos))=some c from h) fun x y hx hy=>⟨Zl (pe_and (hf a x hx).pe (hf _ y hy).pe) Zav,Xb (pw_and (hf a x hx).pt (Uk (hf _ y hy).pt)).pt Zau⟩
   |Or=>exact ZM (P:=SE X F _) (show o2 CE.or (cE G n sc N a) (cE G n sc N (.BoolOp .Or (b :: r) pos))=some c from h) fun x y hx hy=>⟨Zl (pe_or (hf a x hx).pe (hf _ y hy).pe) Zcq,Xb (pw_or (hf a x hx).pt (Uk (hf _ y hy).pt)).pt Zcp⟩
theorem ZeV(ihO:Vc G F n){a b:Expr}(h:Ze5 G sc (cE G n sc N) (cO G n sc N) a b=some c):SE X F (.Subscript a b pos) c:=by
 unfold Ze5 at h;cases q:X5 b with
 |some p=>
  obtain⟨lo,hi⟩:=p;rw[q]at h;obtain⟨p2,rfl⟩:=U5 q;exact XZ (P:=SE X F _) h fun x l u hx hl hu=>.of (Zl (pe_slice Zhe (hf a x hx).pe (ihO X sc N K lo l hl) (ihO X sc N K hi u hu)) Jr)
 |none=>
  rw[q]at h;dsimp only at h;cases q':ZdK b with
  |some s=>
   cases q'
  |none=>
   rw[q']at h;dsimp only at h;cases hn:XV G sc a with
   |some p=>
    obtain⟨ks,ds⟩:=p;rw[hn]at h;exact Xa (P:=SE X F _) h fun y hy=>.of (ZcV K hn (Ze hy) (hf b y hy).pe)
   |none=>
    rw[hn]at h;exact ZM (P:=SE X F _) h fun x y hx hy=>.of (Zl (pe_ix (Zgy K.hu) (hf a x hx).pe (hf b y hy).pe (V8 (Ze hy))) Vm)
theorem Zbq{f:Str}{a:Expr}{p:Pos}(hk:X.calm=true)(hg:Zq sc f=true)(hm:X.mg f=none)(h:JX G sc f a (cE G n sc N)=some c):SE X F (.Call (.Name f p) [a] [] pos) c:=by
 unfold JX at h
 ·cases he:Qb G sc f a with
  |some e=>
   rw[he]at h;exact ZeX K hk hg hm he (fun c hc=>⟨Ze hc,(hf e c hc).pe⟩) h
  |none=>
   rw[he]at h;dsimp only at h;cases hl:UT G sc f a with
   |some q=>
    obtain⟨u,v⟩:=q;rw[hl]at h;exact ZM (P:=SE X F _) h fun x y hx hy=>.of (ZcW K hk hg hm hl (Ze hx) (Ze hy) (hf u x hx).pe (hf v y hy).pe)
   |none=>
    rw[hl]at h;exact j_e h fun h=>Xa (P:=fun o=>o=some c->SE X F _ c) h (fun x hx h=>.of (ZcP K hk hg hm (Ze hx) (hf a x hx).pe h)) rfl
theorem Zbr{f:Str}{a b:Expr}{p:Pos}(hg:Zq sc f=true)(hm:X.mg f=none)(h:JY G sc f a b (cE G n sc N)=some c):SE X F (.Call (.Name f p) [a,b] [] pos) c:=by
 unfold JY at h;by_cases ei:f = "isinstance"
 ·subst ei
  rw[if_pos rfl]at h;split at h
  ·rename_i l hl
   exact Xa (P:=SE X F _) h fun x hx=>.of (ZeU K hg hm (Ze hx) (hf a x hx).pe hl)
  ·exact ZM (P:=SE X F _) h fun x T hx hT=>.of (ZeT K hg hm (Ze hx) (hf a x hx).pe hT)
 ·rw[if_neg ei]at h
  exact ZX h fun hl h=>j_e h fun h=>ZM (P:=fun o=>o=some c->SE X F _ c) h (fun x y hx hy h=>.of (ZcQ K (K.calm hl) hg hm (Ze hx) (Ze hy) (hf a x hx).pe (hf b y hy).pe h)) rfl
theorem Zbs(ihA:ZU G F n){f:Str}{p:Pos}(h:J1 G sc f as (cEs G n sc N as) (cE G n sc N)=some c):SE X F (.Call (.Name f p) as [] pos) c:=by
 unfold J1 at h;cases hg:Zq sc f with
 |false=>rw[hg]at h;cases h
 |true=>
 rw[hg,if_pos rfl]at h;cases hG:G.lookup f with
 |none=>rw[hG]at h;cases h
 |some g=>
  rw[hG]at h;cases g with
  |fn i ps ds=>exact ZX h fun hl h=>Xa (P:=SE X F _) h fun cs hcs=>.of (ZcS K hg hG hl (ihA X sc N K as cs hcs))
  |blt=>
   have hm:X.mg f=none:=K.gl f _ hG;cases as with
   |nil=>exact Zb h
   |cons a as=>cases as with
    |nil=>exact ZX h fun hl h=>Zbq K hf (K.calm hl) hg hm h
    |cons b as=>cases as with
     |nil=>exact Zbr K hf hg hm h
     |cons _ _=>exact Zb h
  |cls i ms subs=>cases as with
   |cons _ _=>exact Zb h
   |nil=>
    obtain⟨⟨j,ps⟩,hi,h⟩:=aW.mp h;refine ZX h fun hps h=>?_
    cases (show ps=1 from hps)
    cases h;exact .of (ZfV K hg hG hi)
  |_=>exact Zb h
theorem ZcO(ihA:ZU G F n){ob:Expr}(h:Zdo G ob m ap as pos (cEs G n sc N as) (cE G n sc N)=some c):SE X F (.Call (.Attribute ob m ap) as [] pos) c:=by
 cases ob with
 |Name y yp=>
  refine ZX h fun hc h=>?_
  by_cases hm:m = "split"
  ·subst hm
   rw[if_pos rfl]at h;exact ZX h fun h1 h=>ZM (P:=SE X F _) h fun x cs hx hcs=>.of (ZeW hc.1 h1 (hf _ x hx).pe (ihA X sc N K as cs hcs))
  ·rw[if_neg hm]at h
   by_cases hm2:m = "startswith"
   ·subst hm2
    rw[if_pos rfl]at h;exact ZX h fun h1 h=>ZM (P:=SE X F _) h fun x cs hx hcs=>.of (JC hc.1 h1 (hf _ x hx).pe (ihA X sc N K as cs hcs))
   ·rw[if_neg hm2]at h
    exact ZM (P:=SE X F _) h fun x cs hx hcs=>.of (ZcX K hc.1 hc.2 (hf _ x hx).pe (ihA X sc N K as cs hcs))
 |Constant v kd kp=>cases as with
  |nil=>exact Zb h
  |cons a as=>cases as with
   |cons _ _=>exact Zb h
   |nil=>
    refine ZX h fun hc h=>ZM (P:=SE X F _) h fun x z hx hz=>?_
    obtain⟨rfl,hline⟩:=hc;exact .of (ZcT hline (Ze hz) (hf _ x hx).pe (hf a z hz).pe)
 |_=>exact Zb h
end
theorem U6(ihE:Zo G F n)(ihA:ZU G F n)(ihO:Vc G F n)(hcomp:∀ X sc N,Cxt X G F sc N->∀ elt gens sc2 pos c,cE G (n+1) sc N (.ListComp elt gens sc2 pos)=some c->SE X F (.ListComp elt gens sc2 pos) c):Zo G F (n+1):=by
 intro X sc N K e c h;have hf:=ihE X sc N K;have no:∀ {P:Prop},(none:Ot CE)=some c->P:=fun z=>nomatch z
 cases e with
 |Constant v k pos=>exact Zbt h
 |Name x pos=>exact ZcY K h
 |BinOp a op b pos=>exact ZM (P:=SE X F _) (show o2 (CE.bin op) (cE G n sc N a) (cE G n sc N b)=some c from h) fun x y hx hy=>.of (Zl (pe_op ZcG (hf a x hx).pe (hf b y hy).pe) Vm)
 |UnaryOp op a pos=>exact ZfW (hf a) h
 |Compare a ops bs pos=>exact ZeQ K hf h
 |BoolOp op vs pos=>exact ZcR hf h
 |IfExp t a b pos=>exact XZ (P:=SE X F _) (show o3 CE.ife (cE G n sc N t) (cE G n sc N a) (cE G n sc N b)=some c from h) fun z x y hz hx hy=>⟨Zl (pe_ifExp (hf t z hz).pt (hf a x hx).pe (hf b y hy).pe) Zep,ZeE (hf t z hz).pt (hf a x hx).pt (hf b y hy).pt⟩
 |Tuple es k pos=>
  refine Xa (P:=SE X F _) (show(cEs G n sc N es).map CE.tupE=some c from h) fun x q=>?_
  obtain⟨A,hA,_,_⟩:=ihA X sc N K es x q;exact .of (Zl (pe_tup A) (Zcu (fun ρ st ds st' e=>by obtain⟨ds',z,hz⟩:=Ve hA e;cases z;exact hz) fun ρ st d st' e=>by obtain⟨ds',z,hz⟩:=Ve hA e;exact⟨ds',z⟩))
 |List es pos=>
  refine Xa (P:=SE X F _) (show(cEs G n sc N es).map CE.lstE=some c from h) fun x q=>?_
  obtain⟨A,hA,_,_⟩:=ihA X sc N K es x q;exact .of (Zl (pe_lst A) (Zcn fun ρ st ds st' e=>by obtain⟨ds',z,hz⟩:=Ve hA e;cases z;exact hz))
 |Dict keys vals pos=>cases keys with
  |nil=>cases vals with
   |nil=>cases h;exact .of (Zl pe_dnewK Zay)
   |cons _ _=>exact Zb h
  |cons k0 keys=>exact Zb h
 |Attribute o f pos=>exact .of (ZeR (fun x hx=>(hf o x hx).pe) h)
 |Subscript a b pos=>exact ZeV K hf ihO h
 |Call f as kws pos=>cases kws with
  |cons _ _=>exact no h
  |nil=>cases f with
   |Attribute ob m ap=>exact ZcO K hf ihA h
   |Name f p=>exact Zbs K hf ihA h
   |_=>exact no h
 |ListComp elt gens sc2 pos=>exact hcomp X sc N K elt gens sc2 pos c h
 |_=>exact no h
theorem Us(ihE:Zo G F n)(ihA:ZU G F n):ZU G F (n+1):=by
 intro X sc N K es c h;cases es with
 |nil=>
  simp only[cEs]at h;cases h;exact⟨Wz pa_nil Wq,trivial,rfl,fun _=>rfl⟩
 |cons e es=>
  refine ZM (P:=fun c=>PA X _ (tA X.K (ev F c))/\W9 c/\_/\(_->c=.aN)) (show o2 CE.aC (cE G n sc N e) (cEs G n sc N es)=some c from h) fun x r hx hr=>?_
  obtain⟨A,hA,hp,_⟩:=ihA X sc N K es r hr;exact⟨Wz (pa_cons (ihE X sc N K e x hx).pe A (Zd (Ze hx))) XH,trivial,by rw[bK,hp,Ze hx];rfl,fun z=>nomatch z⟩
theorem Ut(ihE:Zo G F n):Vc G F (n+1):=by
 intro X sc N K e c h;cases e with
 |none=>
  simp only[cO]at h;cases h;exact Zbk po_none Zco
 |some e=>
  simp only[cO]at h;cases q:cE G n sc N e with
  |none=>rw[q]at h;cases h
  |some x=>
   rw[q]at h;cases h;refine Zbk (po_some (ihE X sc N K e x q).pe) fun σ H Q hq=>?_
   obtain⟨ad,ρ,st,d,st',E,S,e1,p⟩:=hq;have e1:Zm (ev F x) Ui ρ st=some (d,st'):=e1;unfold Zm at e1;split at e1
   ·rename_i y st1 q1
    cases y with
    |int i=>
     cases e1;rcases p with⟨z,_⟩|⟨j,z,p⟩
     ·cases z
     ·cases z
      exact⟨ad,ρ,st,.int i,_,E,S,q1,fun v ad' H' x S' d'=>⟨i,d'.ofInt,p ad' H' x S'⟩⟩
    |_=>simp[Ui]at e1
   ·exact Zb e1
end
variable [ClsTab]
variable{α β:Type}
theorem b_e{P:Prop}{o:Ot α}{f:α->Ot β}{c:β}(h:o.bind f=some c)(k:∀ x,o=some x->f x=some c->P):P:=by
 cases o with
 |none=>exact Zb h
 |some x=>exact k x rfl h
theorem Yq{tg:Ot Expr}{l:Nat}(h:Yf e=false):swapsWith e tg l env=pure false:=by
 cases e<;>first|rfl|cases h
variable{tg:Expr}
theorem Xc{l:Nat}(h:Yf e=false):swapsWithSole [tg] e l env=pure false:=Yq h
theorem UD{k:Expr}{p:Pos}(h:Zf k=true):∀ v,assign (.Subscript o k p) env v=(do
   let ov <-holding [v] (eval o env)
   let iv <-holding [v,ov] (eval k env)
   standAt p
   holding [v,ov,iv] (setItem ov iv v)
   release [v,ov,iv] []):=by
 cases k<;>first | (intro _;rfl)|cases h
theorem U9{k:Expr}{p:Pos}:swappedStores [.Subscript o k p] e env=pure none:=by
 cases e<;>rfl
theorem ZK(h:Zf e=true):∀ x,foldedSetIterable e env x=pure x:=by
 cases e<;>first | (intro _;rfl)|cases h
structure CxtS[xk:XcK](X:Cx)(G:Gs)(F:Nat->Fn)(sc:Scope)(N:List Str):Prop extends Cxt X G F sc N where
 nd:N.Nodup
 loc:∀ x∈N,Loc X.env.scope x
 fn:∀ x,X.fn x=true
 po:PassesOwn (model X.prog X.w) X.A X.env X.xe
 xs:∀ pQ σ e s',XS X pQ σ XcK.E e s'->X.xe e s'
 rm:ZN G=true->Room 2 X.A
 st:X.stack=X.env :: X.outer/\X.env.frame=some X.env.locals
 sce:∀ y,sc.names.lookup y=some .local->X.env.scope.names.lookup y=some .local
variable{it elt:Expr}{gens:Li Comprehension}{sc2:Scope}{tp p2 p3 q:Pos}{ctx t' kk:Nat}{h0:ExceptHandler}{hs:Li ExceptHandler}{h:Heap}{z:Ad}{elts:Li Expr}{newId:String}{kw:Li (Str×vL)}
section
variable {G:Gs}{F:Nat->Fn}
def UC(G:Gs)(F:Nat->Fn)(n:Nat):Prop:=∀ [XcK] X sc N,CxtS X G F sc N->∀ s c,cS G n sc N s=some c->PS X s (tS X.K (ex F c))
def ZO(G:Gs)(F:Nat->Fn)(n:Nat):Prop:=∀ [XcK] X sc N,CxtS X G F sc N->∀ s c,cSs G n sc N s=some c->PSs X s (tS X.K (ex F c))
def Y5(G:Gs)(F:Nat->Fn)(n:Nat):Prop:=∀ [XcK] X sc N,CxtS X G F sc N->∀ (x:Str) (i:Nat) (p:Pos) elt gens sc2 epos (pos:Pos) c,N.idxOf? x=some i->cE G n sc N (.ListComp elt gens sc2 epos)=some c->
 swapsWith (.ListComp elt gens sc2 epos) (some (.Name x p)) pos.line X.env=pure true->PS X (.Assign [.Name x p] (.ListComp elt gens sc2 epos) pos) (tAsg (tE X.K (ev F c)) (gName i))
variable [xk:XcK]
theorem X2{x:Str}(h:N.idxOf? x=some i):x∈N:=aV (Ye h)
theorem Yz{x:Str}{p:Pos}(K:CxtS X G F sc N)(h:N.idxOf? x=some i):PG X (.Name x p) (gName i):=
 pg_name (by rw[K.hN];exact K.nd) (by rw[K.hN];exact Ye h) (K.loc x (X2 h)) (.inl (K.fn x))
theorem passes(K:CxtS X G F sc N):PassesOwn (model X.prog X.w) X.A X.env X.xe:=K.po
theorem ZdH{x:Str}{p:Pos}(K:Cxt X G F sc N)(hl:YO sc x=true)(hi:N.idxOf? x=some i):PE X (.Name x p) (tVar i):=
 pe_var (by rw[K.hN];exact Ye hi) (K.vis _ hl) (Xq hl).1 (Xq hl).2
theorem XX{a:Expr}{x:CE}(K:Cxt X G F sc N)(h:Yg G sc it=some a)(hp:Zf a=true)(A:PE X a (tE X.K (ev F x))):Zf it=true/\PI X tg it (iRng1 (tCons (tE X.K (ev F x)) tNil)):=by
 obtain⟨_,_,rfl,hg,hm⟩:=WI K h;exact⟨rfl,pi_range1 hg hm (pa1 hp A) (Zd hp)⟩
theorem Qa{epos p:Pos}{x:Str}{l:Nat}:∃ b:Bool,swapsWith (.ListComp elt gens sc2 epos) (some (.Name x p)) l env=pure b:=⟨_,rfl⟩
theorem Zba{c:CE}(h:cE G n sc N e=some c):Yf e=false\/∃ elt gens sc2 epos,e=.ListComp elt gens sc2 epos:=by
 cases n with
 |zero=>exact nomatch (show(none:Ot CE)=some c from h)
 |succ n=>cases e<;>first|exact .inl rfl|exact .inr ⟨_,_,_,_,rfl⟩|exact nomatch (show(none:Ot CE)=some c from h)
theorem Zbu(ihE:Zo G F n)(hA:Y5 G F n)(K:CxtS X G F sc N){c:CS}{x:Str}{p:Pos}(h:o2 CS.set (N.idxOf? x) (cE G n sc N e)=some c):PS X (.Assign [.Name x p] e pos) (tS X.K (ex F c)):=by
 refine ZM (P:=fun c=>PS X _ (tS X.K (ex F c))) h fun i y hi hx=>?_
 have pl:∀ hs,PS X (.Assign [.Name x p] e pos) (tAsg (tE X.K (ev F y)) (gName i)):=fun hs=>ps_set (by rw[K.hN];exact K.nd) (by rw[K.hN];exact Ye hi) (K.loc _ (X2 hi)) (ihE X sc N K.toCxt _ y hx).pe hs (.inl (K.fn _))
 rcases Zba hx with hc|⟨elt,gens,sc2,epos,rfl⟩
 ·exact Zw (pl (Yq hc)) Vn
 ·obtain⟨b,hb⟩:=Qa (elt:=elt) (gens:=gens) (sc2:=sc2) (epos:=epos) (p:=p) (x:=x) (l:=pos.line) (env:=X.env)
  cases b with
  |false=>exact Zw (pl hb) Vn
  |true=>exact Zw (hA X sc N K _ i p elt gens sc2 epos pos y hi hx hb) Vn
theorem WD{ts:Li Expr}{k:Nat}(h:V7 e=false):swappedStores [.Tuple ts k tp] e env=pure none:=by
 cases e with
 |Tuple=>cases h
 |_=>rfl
theorem psN{s:Stmt}{f:Ex}(h:∀ ρ st,f ρ st=none):PS X s (tS X.K f):=fun pQ sh σ H D I q=>by
 obtain⟨_,_,_,_,_,_,_,e,_⟩:=ZJ q;rw[h]at e;cases e
theorem Zdb(ihE:Zo G F n)(K:CxtS X G F sc N){c:CS}{x y:Str}{p:Pos}(h:og ((Yf e||V7 e)=false/\ZN G=true) (o3 (fun i j c=>og (i≠j) (some (CS.set2 i j c))) (N.idxOf? x) (N.idxOf? y) (cE G n sc N e)).join=some c):PS X (.Assign [.Tuple [.Name x p,.Name y p2] ctx tp] e pos) (tS X.K (ex F c)):=by
 refine ZX h fun hc h=>j_e h fun h=>XZ (P:=fun o=>o=some c->PS X _ (tS X.K (ex F c))) h (fun i j ce hi hj hx h=>ZX h fun _ h=>?_) rfl
 cases h;obtain⟨hc,hl0⟩:=hc;rw[Bool.or_eq_false_iff]at hc;exact Zw (ps_asg (ihE X sc N K.toCxt _ ce hx).pe (pg_tup (K.calm hl0) (pgs_cons (Yz K hi) (pgs_cons (Yz K hj) pgs_nil))) (Xc hc.1) (WD hc.2)) ZaJ
theorem Zdc(ihE:Zo G F n)(K:CxtS X G F sc N){c:CS}{x y z:Str}{p:Pos}(h:og ((Yf e||V7 e)=false/\ZN G=true) (o3 (fun i j (p:Nat×CE)=>CS.set3 i j p.1 p.2) (N.idxOf? x) (N.idxOf? y) (o2 Prod.mk (N.idxOf? z) (cE G n sc N e)))=some c):PS X (.Assign [.Tuple [.Name x p,.Name y p2,.Name z p3] ctx tp] e pos) (tS X.K (ex F c)):=by
 refine ZX h fun hc h=>XZ (P:=fun c=>PS X _ (tS X.K (ex F c))) h fun i j q hi hj hq=>ZM (P:=fun q=>PS X _ (tS X.K (ex F (.set3 i j q.1 q.2)))) hq fun l ce hl hx=>?_
 obtain⟨hc,hl0⟩:=hc;rw[Bool.or_eq_false_iff]at hc;exact Zw (ps_asg (ihE X sc N K.toCxt _ ce hx).pe (pg_tup (K.calm hl0) (pgs_cons (Yz K hi) (pgs_cons (Yz K hj) (pgs_cons (Yz K hl) pgs_nil)))) (Xc hc.1) (WD hc.2)) ZaK
theorem QC{K:Fg}(D:Ends)(σ:L2.St)(H:Hp)(h:tS K (VI fe) D σ H):tDrop (tEX XcK.E K fe) D σ H:=by
 obtain⟨ad,ρ,st,r,st',E,S,e,p⟩:=ZJ h;obtain⟨d,e,p1,p2⟩:=JQ E e p;exact⟨ad,ρ,st,d,st',E,S,e,p1,p2⟩
theorem ZeY(ihA:ZU G F n)(K:CxtS X G F sc N){c:CS}{f:Str}{fp:Pos}(h:(WM G sc (cEs G n sc N) f as).map CS.act=some c):PS X (.Expr (.Call (.Name f fp) as [] cp) pos) (tS X.K (ex F c)):=by
 refine Xa (P:=fun c=>PS X _ (tS X.K (ex F c))) h fun x hx=>?_
 unfold WM at hx;split at hx
 ·rename_i i ps ds hG
  exact ZX hx fun hl hx=>Xa (P:=fun x=>PS X _ (tS X.K (ex F (.act x)))) hx fun cs hcs=>Zw (ps_expr (Um (pass_x K.xs) K.toCxt hl.1 hG hl.2 (ihA X sc N K.toCxt as cs hcs)) rfl) QC
 ·exact Zb hx
theorem CxtS.nox(K:CxtS X G F sc N):CxtS (xk:=xc0) X.nox G F sc N:=CxtS.mk (xk:=xc0) { hN:=K.hN,vis:=K.vis,glb:=K.glb,calm:=K.calm,hu:=K.hu,gl:=K.gl,cel:=K.cel } K.nd K.loc K.fn PassesOwn.never (fun _ _ _ _ ⟨_,_,_,_,_,_,_,_,z⟩=>z) K.rm K.st K.sce
theorem Zbv(ihE:Zo G F n)(K:CxtS X G F sc N){c:CS}{a b:Ot Expr}(h:U0 G sc (cE G n sc N) a b=some c):PS X (.Raise a b pos) (tS X.K (ex F c)):=by
 have no:some CS.stop=some c->PS X (.Raise a b pos) (tS X.K (ex F c)):=fun z=>by
  cases z;exact fun pQ s σ H D I q=>by
   obtain⟨_,_,_,_,_,_,_,e,_⟩:=ZJ q;cases e
 unfold U0 at h;split at h
 ·rename_i x e hq
  obtain⟨v,rfl,hq⟩:=aW.mp hq;obtain⟨p,q,rfl⟩:=Vf hq;split at h
  ·rename_i i l hG
   split at h
   ·rename_i hc
    cases b with
    |some _=>cases hc.2.2.2
    |none=>
    refine Xa (P:=fun c=>PS X _ (tS X.K (ex F c))) h fun y hy=>?_
    obtain⟨hm,_,_,hr⟩:=K.gl x _ hG;obtain⟨fI,fd,pn,xc,FI,hb⟩:=hr (cC.mp hc.2.1);exact Zw (ps_raise xc FI (K.rm hc.2.2.1) (K.calm hc.2.2.1) hb pass0 (K.glb x hc.1) hm (pa1 (Ze hy) (ihE X sc N K.toCxt _ y hy).pe) K.xs (ZI hc.1) (Zd (Ze hy))) Jq
   ·exact no h
  ·exact no h
 ·exact no h
theorem EnvOk.del{K:Fg}(h:EnvOk K ad H σ ρ)(i:Nat):EnvOk K ad H (σ.set i none) (ρ.set i none):=by
 refine⟨by rw[cM,cM];exact h.len,fun j e q=>?_⟩
 by_cases z:i=j
 ·subst z
  rw[List.getElem?_set]at q;simp at q
 ·rw[cH z]at q
  obtain⟨w,e1,e2⟩:=h.at_ j e q;exact⟨w,by rw[cH z];exact e1,e2⟩
theorem Zc2(ihE:Zo G F n)(K:CxtS X G F sc N){c:CS}{k:Expr}(h:og (Yf e=false/\ZfG k=false) (o3 (CS.dput 0) (cE G n sc N o) (cE G n sc N k) (cE G n sc N e))=some c):PS X (.Assign [.Subscript o k q] e pos) (tS X.K (ex F c)):=
 ZX h fun hc h=>XZ (P:=fun c=>PS X _ (tS X.K (ex F c))) h fun co ck ce ho hk he=>Zw (ps_asg (ihE X sc N K.toCxt _ ce he).pe (pg_sub (ihE X sc N K.toCxt _ co ho).pe (ihE X sc N K.toCxt _ ck hk).pe set_dK (UD (Ze hk))) (Xc hc.1) U9) Zaz
theorem Zda(ihE:Zo G F n)(K:CxtS X G F sc N){c:CS}{x f:Str}{p:Pos}(h:og (Yf e=false/\YO sc x=true/\fldNames.contains f=true) (o2 (fun i c=>CS.put i (.cst (.str f)) c) (N.idxOf? x) (cE G n sc N e))=some c):PS X (.Assign [.Attribute (.Name x p) f q] e pos) (tS X.K (ex F c)):=
 ZX h fun hc h=>ZM (P:=fun c=>PS X _ (tS X.K (ex F c))) h fun i ce hi he=>Zw (ps_fld (ZdH K.toCxt hc.2.1 hi) (ihE X sc N K.toCxt _ ce he).pe (Yq hc.1)) (Zcr hc.2.2)
theorem Zdd(ihE:Zo G F n)(hA:Y5 G F n)(K:CxtS X G F sc N){c:CS}{x:Str}{p:Pos}(h:o2 CS.set (N.idxOf? x) (cE G n sc N e)=some c):PS X (.Try [.Assign [.Name x p] e q] (h0 :: hs) [] [] pos) (tS X.K (ex F c)):=by
 intro pQ s σ H D I z;have B:=pss_one (Zbu (xk:=xc0) (p:=p) (pos:=q) ihE hA K.nox h);have z0:tS (xk:=xc0) X.K (ex F c) D σ H:=by
  refine ZM (P:=fun c=>tS X.K (ex F c) D σ H->tS (xk:=xc0) X.K (ex F c) D σ H) h (fun i y _ _ z=>?_) z
  obtain⟨ad,ρ,st,r,st',E,S,e,p⟩:=z;refine⟨ad,ρ,st,r,st',E,S,e,?_⟩;have e:YS i (ev F y) ρ st=some (r,st'):=e;unfold YS at e;split at e
  ·cases e;exact p
  ·exact Zb e
 refine wpAny_Try_except (bD (B pQ s σ H D (I.wish _) z0) (fun f s1 hq=>?_) fun e s1 hx=>hx.elim)
 have hq:=hq.unwish;cases f with
 |next=>exact aD hq
 |_=>exact hq
theorem Ze0(ihE:Zo G F n)(K:CxtS X G F sc N){c:CS}(h:(cE G n sc N e).map CS.ret=some c):PS X (.Return (some e) pos) (tS X.K (ex F c)):=
 Xa (P:=fun c=>PS X _ (tS X.K (ex F c))) h fun x q=>Zw (ps_ret (ihE X sc N K.toCxt _ x q).pe) Zcs
theorem ZfX(ihE:Zo G F n)(ihS:ZO G F n)(K:CxtS X G F sc N){c:CS}{a b:Li Stmt}(h:o3 CS.ite (cE G n sc N e) (cSs G n sc N a) (cSs G n sc N b)=some c):PS X (.If e a b pos) (tS X.K (ex F c)):=
 XZ (P:=fun c=>PS X _ (tS X.K (ex F c))) h fun cc ca cb hc ha hb=>Zw (ps_if (ihE X sc N K.toCxt _ cc hc).pt (ihS X sc N K _ ca ha) (ihS X sc N K _ cb hb)) Zcm
theorem Zc5(ihA:ZU G F n)(ihS:ZO G F n)(K:CxtS X G F sc N)(hk:X.calm=true){c:CS}{x:Str}{b:Li Stmt}{p:Pos}(hr:XM G sc it=some as)(h:o3 CS.for3 (N.idxOf? x) (cEs G n sc N as) (cSs G n sc N b)=some c):PS X (.For (.Name x p) it b [] pos) (tS X.K (ex F c)):=by cases hr
theorem Zc3(ihE:Zo G F n)(ihS:ZO G F n)(K:CxtS X G F sc N)(hk:X.calm=true){c:CS}{x:Str}{b:Li Stmt}{p:Pos}(h:(match Yg G sc it with
   |some a=>o3 (fun i c b=>CS.for1 i true c b) (N.idxOf? x) (cE G n sc N a) (cSs G n sc N b)
   |none=>o3 (fun i c b=>CS.for1 i false c b) (N.idxOf? x) (cE G n sc N it) (cSs G n sc N b))=some c):PS X (.For (.Name x p) it b [] pos) (tS X.K (ex F c)):=by
 cases ha:Yg G sc it with
 |some a=>
  rw[ha]at h;refine XZ (P:=fun c=>PS X _ (tS X.K (ex F c))) h fun i ci cb hi q hb=>?_
  obtain⟨hp,pi⟩:=XX K.toCxt ha (Ze q) (ihE X sc N K.toCxt a _ q).pe;exact Zw (ps_for (passes K) hk pi (Yz K hi) (ihS X sc N K _ cb hb) (ZK hp)) ZaE
 |none=>
  rw[ha]at h;refine XZ (P:=fun c=>PS X _ (tS X.K (ex F c))) h fun i ci cb hi q hb=>?_
  exact Zw (ps_for (passes K) hk (pi_list (ihE X sc N K.toCxt _ _ q).pe) (Yz K hi) (ihS X sc N K _ cb hb) (ZK (env:=X.env) (Ze q))) ZaC
theorem XT{s:sH7}{wr:Li Ad}(I:L2.Inv X pQ σ H s)(hf:∀ b∈wr,FpOk X pQ H b)(k:∀ b o,b∉wr->s.heap.get? b=some o->h'.get? b=some o):L2.Inv X pQ σ H { s with heap:=h',toks:=t' }:=by
 have nw:∀ b u,H b=some u->b∉wr:=fun b u e hb=>by have:=(hf b hb).1;rw[e]at this;cases this
 refine I.step (g':=s.gens) (d':=s.drawn) (ch:=wr) (fun b hb=>⟨(hf b hb).2.2.2.1,(hf b hb).2.1,(hf b hb).2.2.2.2.1,(hf b hb).2.2.2.2.2⟩) (fun b o _ _ hc e _=>k b o hc e) (fun b o _ _ hc e _=>⟨o.slots,k b o hc e⟩)
  (fun b o _ e n=>n) (fun b o hc e=>⟨o,k b o hc e⟩) (fun b ys e=>e) (fun b o u e=>e) (fun b ps e=>⟨#[],by rw[e];simp⟩) (fun m hm=>?_) (fun b u e=>?_) I.bare
 ·obtain⟨o,es,ep,ho,r⟩:=hm
  exact⟨o,es,ep,k _ o (fun z=>(hf _ z).2.1 rfl) ho,r⟩
 ·refine(I.hok b u e).stay (fun c v hc q=>k c v ?_ q) (fun c q=>q) fun c ys q=>q
  rcases hc with z|z
  ·rw[z];exact nw b u e
  ·exact nw c _ z
theorem Y1{s:sH7}{wr:Li Ad}{T:Ad}{xs:Li V}(I:L2.Inv X pQ σ H s)(hf:∀ b∈wr,FpOk X pQ H b)(k:∀ b o,b∉wr->s.heap.get? b=some o->h'.get? b=some o)(hT:s.heap.objs.size<=T)(new:ObjOk X.prog X.w (upd H T (.tup xs)) h' T (.tup xs)):L2.Inv X pQ σ (upd H T (.tup xs)) { s with heap:=h',toks:=t' }:=by
 have hn:H T=none:=I.hok.fresh hT;have nT:∀ b u,s.heap.get? b=some u->b≠T:=fun b u e=>aZ (aQ (aI e) hT)
 have nw:∀ b u,H b=some u->b∉wr:=fun b u e hb=>by have:=(hf b hb).1;rw[e]at this;cases this
 refine I.step (g':=s.gens) (d':=s.drawn) (ch:=wr) (fun b hb=>⟨(hf b hb).2.2.2.1,(hf b hb).2.1,(hf b hb).2.2.2.2.1,(hf b hb).2.2.2.2.2⟩) (fun b o _ _ hc e _=>k b o hc e) (fun b o _ _ hc e _=>⟨o.slots,k b o hc e⟩)
  (fun b o _ e n=>by rw[upd_ne (nT b o e)];exact n) (fun b o hc e=>⟨o,k b o hc e⟩) (fun b ys e=>by rw[upd_ne (ne_of_none e hn)];exact e) (fun b o u e=>by rw[upd_ne (ne_of_none e hn)];exact e) (fun b ps e=>⟨#[],by rw[upd_ne (ne_of_none e hn),e];simp⟩) (fun m hm=>?_) (fun b u e=>?_) I.bare
 ·obtain⟨o,es,ep,ho,r⟩:=hm
  exact⟨o,es,ep,k _ o (fun z=>(hf _ z).2.1 rfl) ho,r⟩
 ·by_cases hb:b=T
  ·subst hb;rw[upd_same]at e;cases e;exact new
  ·rw[upd_ne hb]at e
   refine(I.hok b u e).stay (fun c v hc q=>k c v ?_ q) (fun c q=>by rw[upd_ne (ne_of_none q hn)];exact q) fun c ys q=>by rw[upd_ne (ne_of_none q hn)];exact q
   rcases hc with z|z
   ·rw[z];exact nw b u e
   ·exact nw c _ z
theorem QY{s:sH7}{a:Ad}{xs:Li V}(I:L2.Inv X pQ σ H s)(h1:SqL X.K H a xs)(h2:SqL X.K H a ys):ys=xs:=by
 obtain⟨i1,r1,⟨o1,n1,g1,_,_,d1⟩,_⟩:=I.list h1;obtain⟨i2,r2,⟨o2,n2,g2,_,_,d2⟩,_⟩:=I.list h2;rw[g1]at g2;cases g2;rw[d1]at d2;have e:i1.toArray=i2.toArray:=by injection d2
 have e:i1=i2:=by simpa using e
 subst e;exact Vals.inj r2 r1
section
variable {prog:Program}{w:World}{A:Around}{E:vL->sH7->Prop}{s:sH7}
open Sem (wp)
open AutoSeq1 (wpAny_loadPart')
omit [ClsTab] in
theorem Ug{it l:Ad}{i:Nat}{items:Array vL}{Q:vL->sH7->Prop}(hh:A.handled=none)(hit:s.heap.IsTupleIter it l i)(hl:s.heap.IsTuple l items)(hQ:∀ x h',items[i]?=some x->h'.IsTupleIter it l (i+1)->Heap.SameBut it s.heap h'->Q x { s with heap:=h' })(hE:items[i]?=none->∀ h' e,Heap.ExtBut it s.heap h'->(∃ o,h'.get? e=some o/\o.cls=.type "StopIteration")->E (.ref e) { s with heap:=h' }) :
  wpAny (model prog w) A (Builtin.SmallTypes.nextOf (.ref it)) Q E s:=by
 obtain⟨o,ho,hc,hd⟩:=id hit;obtain⟨ol,hol,_,nl,hdl⟩:=hl;unfold Builtin.SmallTypes.nextOf;refine aA (wpAny_callSpecial?_slot (name:=Str.ofString "__next__") hit.typeIs PySem.F.slot_tuple_iterator_next
  (wpAny_call_entry PySem.F.slot_tuple_iterator_next hit.typeIs PySem.F.entry_tuple_iterator_next ?_ (PySem.F.args_tuple_iterator_next_1 _)))
 show wpAny _ _ (field (.ref it) 0 >>= _) _ _ s;refine aA (wpAny_field ho hd (x:=.ref l) rfl ?_);show wpAny _ _ (if (Value.ref l==Value.none)=true then _ else _) _ _ s
 rw[if_neg (show ¬((Value.ref l==Value.none)=true) from Bf)];show wpAny _ _ (field (.ref it) 1 >>= _) _ _ s;refine aA (wpAny_field ho hd (x:=.int i 0) rfl ?_);show wpAny _ _ (seqItems? (.ref l) >>= _) _ _ s;refine aA (wpAny_seqItems hol hdl ?_);cases hx:items[i]? with
 |some x=>
  simp only[bS,hx];refine aA (wpAny_setField ho hd (by simp) (aD ⟨x,rfl,aD (hQ _ _ hx ?_ (Heap.SameBut.update ..))⟩))
  exact⟨_,Heap.get?_update_self _ ho (Obj.isFreed_of_fields (Obj.data_mapFields hd _)),(Obj.cls_mapFields ..).trans hc,by
   rw[Obj.data_mapFields hd];simp[rawInt]⟩
 |none=>
  simp only[bS,hx];refine aA (wpAny_rule (aA (wpAny_setField ho hd (by simp) ?_)))
  show wpAny _ _ (newExc (.type "StopIteration") [] >>= _) _ _ _;refine aA ?_;simp only[newExc,newTuple];refine aA (wpAny_newObj_type ?_ (by size_fits))
  refine aA (m:=firstArgMember _ _) (wpAny_of_eq (a:=Value.none) (by first|rfl | (simp only[firstArgMember];rfl)) ?_)
  refine wpAny_newObj_type ?_ (by size_fits)
  simp only[raiseNew];refine aA (wpAny_handled ?_)
  first|rw[show A.in1.handled=none from hh]|rw[hh]
  refine aA (aD (wpAny_throw ?_));exact hE hx _ _ (((Heap.SameBut.update ..).extBut.push _).push _) ⟨_,bA _ rfl,rfl⟩
end
structure ZD(z TI TO i1 i2:Addr):Prop where
 a:TI≠z
 b:TO≠z
 c:i1≠z
 d:i2≠z
 e:TI≠TO
 f:TI≠i1
 g:TI≠i2
 h:TO≠i1
 i:TO≠i2
 j:i1≠i2
section
variable {prog:Program}{w:World}{A:Around}{s:sH7}{z TI TO i1 i2:Ad}{x y a b:vL}{S1 S2:Heap->Prop}
open Builtin.SmallTypes
def KB(l:Li Ad)(h h':Heap):Prop:=∀ c o,c∉l->h.get? c=some o->h'.get? c=some o
theorem KB.of{l:Li Ad}{p:Ad}(k:Heap.SameBut p h h')(m:p∈l):KB l h h':=fun c o n e=>k.extBut c o (fun q=>n (q ▸ m)) e
theorem KB.trans{l:Li Ad}{h1 h2 h3:Heap}(x:KB l h1 h2)(y:KB l h2 h3):KB l h1 h3:=fun c o n e=>y c o n (x c o n e)
theorem ZfM{TO:Ad}:z∈[z,TO,i1,i2]/\TO∈[z,TO,i1,i2]/\i1∈[z,TO,i1,i2]/\i2∈[z,TO,i1,i2]:=⟨.head _,.tail _ (.head _),.tail _ (.tail _ (.head _)),.tail _ (.tail _ (.tail _ (.head _)))⟩
def Nx(prog:Program)(w:World)(A:Around)(s:sH7)(l:Li Ad)(i:Ad)(x:vL)(S:Heap->Prop):Prop:=
 ∀ (h:Heap) (Q E:vL->sH7->Prop),KB l s.heap h->(∀ h',S h'->Heap.SameBut i h h'->Q x { s with heap:=h' })->wpAny (model prog w) A (nextOf (.ref i)) Q E { s with heap:=h }
def Nz(prog:Program)(w:World)(A:Around)(s:sH7)(l:Li Ad)(i:Ad):Prop:=
 ∀ (h:Heap) (Q E:vL->sH7->Prop),KB l s.heap h->(∀ h' e,Heap.ExtBut i h h'->(∃ o,h'.get? e=some o/\o.cls=.type "StopIteration")->E (.ref e) { s with heap:=h' })->wpAny (model prog w) A (nextOf (.ref i)) Q E { s with heap:=h }
theorem Zdm{Q:vL->sH7->Prop}(d:ZD z TI TO i1 i2)(hz:IsZip s.heap z TI TO .none)(hI:IsPair s.heap TI (.ref i1) (.ref i2))(hO:IsPair s.heap TO a b)(n1:Nx prog w A s [z] i1 x S1)(n2:Nx prog w A s [z,TO,i1] i2 y S2)(k1:∀ h h',S1 h->(∀ o,h.get? i1=some o->h'.get? i1=some o)->S1 h')(k2:∀ h h',S2 h->(∀ o,h.get? i2=some o->h'.get? i2=some o)->S2 h')(hQ:∀ h',IsZip h' z TI TO (rawInt s.heap.objs.size)->IsPair h' TO x y->S1 h'->S2 h'->IsPair h' s.heap.objs.size x y->KB [z,TO,i1,i2] s.heap h'->Q (.ref s.heap.objs.size) { s with heap:=h' }) :
  wpAny (model prog w) A (Builtin.«zip.__next__» ⟨[.ref z],[]⟩) (fun fin s'=>∃ v,fin=.done (.ret v)/\Q v s') E s:=by
 obtain⟨m1,m2,m3,m4⟩:=ZfM (z:=z) (TO:=TO) (i1:=i1) (i2:=i2);show wpAny _ _ (field (.ref z) 2 >>= _) _ _ _;refine aA (wpAny_field hz rfl (x:=.bool false) rfl (aA (wpAny_field hz rfl (x:=.ref TI) rfl (aA (wpAny_seqItems hI rfl ?_)))));show wpAny _ _ (ownedTupleIsFree (.ref z) >>= _) _ _ _;unfold ownedTupleIsFree;refine aA (aA (wpAny_field hz rfl (x:=.none) rfl (aD ?_)))
 simp only[if_true];refine aA (wpAny_rule (aA (wpAny_field hz rfl (x:=.ref TO) rfl (aA (wpAny_setField_rec hz (by simp) fun g1 u1 t1=>aA ?_)))))
 simp only[List.zipIdx_cons,List.zipIdx_nil,eD,List.forIn_nil];refine aA (aA (wpAny_onRaise ?_));show wpAny _ _ (nextOf (.ref i1) >>= _) _ _ _;have K1:KB [z] s.heap g1:=KB.of t1 (.head _);refine aA (n1 g1 _ _ K1 fun g2 v2 t2=>aD ?_)
 have o2:IsPair g2 TO a b:=t2.extBut _ _ d.h (t1.extBut _ _ d.b hO);refine aA (wpAny_seqItems o2 rfl (aA (wpAny_updateSeq_pair o2 fun g3 o3 t3=>aA (wpAny_letGo (aD ?_)))))
 have o3:IsPair g3 TO x b:=o3;refine aA (aA (wpAny_onRaise ?_));show wpAny _ _ (nextOf (.ref i2) >>= _) _ _ _;have K3:KB [z,TO,i1] s.heap g3:=(KB.of t1 (.head _)).trans ((KB.of t2 (.tail _ (.tail _ (.head _)))).trans (KB.of t3 (.tail _ (.head _))));refine aA (n2 g3 _ _ K3 fun g4 v4 t4=>aD ?_)
 have o4:IsPair g4 TO x b:=t4.extBut _ _ d.i o3;refine aA (wpAny_seqItems o4 rfl (aA (wpAny_updateSeq_pair o4 fun g5 o5 t5=>aA (wpAny_letGo (aD (aD ?_))))))
 have o5:IsPair g5 TO x y:=o5;refine aA (wpAny_seqItems o5 rfl (aA (wpAny_newTuple ?_)));have K4:KB [z,TO,i1,i2] s.heap g5:=((KB.of t1 m1).trans ((KB.of t2 m3).trans ((KB.of t3 m2).trans ((KB.of t4 m4).trans (KB.of t5 m2)))));have sz:g5.objs.size=s.heap.objs.size:=by rw[t5.1,t4.1,t3.1,t2.1,t1.1]
 have u5:IsZip g5 z TI TO .ellipsis:=t5.extBut _ _ d.b.symm (t4.extBut _ _ d.d.symm (t3.extBut _ _ d.b.symm (t2.extBut _ _ d.c.symm u1)));have zl:=aI u5;show wpAny _ _ (ownedTupleHandOut (.ref z) (.ref g5.objs.size) >>= _) _ _ _;unfold ownedTupleHandOut;have u6:IsZip (g5.push { cls:=.type "tuple",data:=.seq #[x,y] }) z TI TO .ellipsis:=aO _ u5;refine aA (aA (wpAny_setField_rec u6 (by simp) fun g7 u7 t7=>?_))
 have u7:IsZip g7 z TI TO (rawInt g5.objs.size):=u7;refine wpAny_setField_rec u7 (by simp) fun g8 u8 t8=>aD ⟨_,rfl,?_⟩
 have u8:IsZip g8 z TI TO (rawInt g5.objs.size):=u8;have up:∀ c o,c≠z->g5.get? c=some o->g8.get? c=some o:=fun c o n e=>t8.extBut _ _ n (t7.extBut _ _ n (aO _ e))
 have p8:IsPair g8 g5.objs.size x y:=t8.extBut _ _ (Nat.ne_of_gt zl) (t7.extBut _ _ (Nat.ne_of_gt zl) (bA _ rfl));show Q (.ref g5.objs.size) _;rw[sz]at u8 p8 ⊢;exact hQ g8 u8 (up _ _ d.b o5) (k1 _ _ v2 fun o e=>up _ _ d.c (t5.extBut _ _ d.h.symm (t4.extBut _ _ d.j (t3.extBut _ _ d.h.symm e)))) (k2 _ _ v4 fun o e=>up _ _ d.d (t5.extBut _ _ d.i.symm e)) p8 (K4.trans fun c o n e=>up c o (fun q=>n (q ▸ m1)) e)
theorem ZbN{Q:Fin->sH7->Prop}(d:ZD z TI TO i1 i2)(hz:IsZip s.heap z TI TO .none)(hI:IsPair s.heap TI (.ref i1) (.ref i2))(hO:IsPair s.heap TO a b)(n:Nz prog w A s [z] i1\/∃ x S,Nx prog w A s [z] i1 x S/\Nz prog w A s [z,TO,i1] i2)(hE:∀ h' e,KB [z,TO,i1,i2] s.heap h'->(∃ o,h'.get? e=some o/\o.cls=.type "StopIteration")->E (.ref e) { s with heap:=h' }):wpAny (model prog w) A (Builtin.«zip.__next__» ⟨[.ref z],[]⟩) Q E s:=by
 obtain⟨m1,m2,m3,m4⟩:=ZfM (z:=z) (TO:=TO) (i1:=i1) (i2:=i2);show wpAny _ _ (field (.ref z) 2 >>= _) _ _ _;refine aA (wpAny_field hz rfl (x:=.bool false) rfl (aA (wpAny_field hz rfl (x:=.ref TI) rfl (aA (wpAny_seqItems hI rfl ?_)))));show wpAny _ _ (ownedTupleIsFree (.ref z) >>= _) _ _ _;unfold ownedTupleIsFree;refine aA (aA (wpAny_field hz rfl (x:=.none) rfl (aD ?_)))
 simp only[if_true];refine aA (wpAny_rule (aA (wpAny_field hz rfl (x:=.ref TO) rfl (aA (wpAny_setField_rec hz (by simp) fun g1 u1 t1=>aA ?_)))))
 simp only[List.zipIdx_cons,List.zipIdx_nil,eD,List.forIn_nil];refine aA (aA (wpAny_onRaise ?_));show wpAny _ _ (nextOf (.ref i1) >>= _) _ _ _;have u1:IsZip g1 z TI TO .ellipsis:=u1;have K1:KB [z] s.heap g1:=KB.of t1 (.head _);have out:∀ {g:Heap}{e:Ad},IsZip g z TI TO .ellipsis->KB [z,TO,i1,i2] s.heap g->(∃ o,g.get? e=some o/\o.cls=.type "StopIteration")->∀ g',Heap.SameBut z g g'->E (.ref e) { s with heap:=g' }:=fun {g e} u k ⟨o,ho,hc⟩ g' t=>by
  have ne:e≠z:=fun q=>by subst q;rw[u]at ho;cases ho;simp at hc
  exact hE g' e (k.trans (KB.of t m1)) ⟨o,t.extBut _ _ ne ho,hc⟩
 rcases n with n|⟨x,S,n1,n2⟩
 ·refine aA (n g1 _ _ K1 fun g2 e t2 he=>?_)
  have u2:IsZip g2 z TI TO .ellipsis:=t2 _ _ d.c.symm u1;exact wpAny_setField_rec u2 (by simp) fun g3 _ t3=>out u2 ((KB.of t1 m1).trans fun c o n e=>t2 c o (fun q=>n (q ▸ m3)) e) he g3 t3
 ·refine aA (n1 g1 _ _ K1 fun g2 v2 t2=>aD ?_)
  have o2:IsPair g2 TO a b:=t2.extBut _ _ d.h (t1.extBut _ _ d.b hO);refine aA (wpAny_seqItems o2 rfl (aA (wpAny_updateSeq_pair o2 fun g3 o3 t3=>aA (wpAny_letGo (aD ?_)))))
  refine aA (aA (wpAny_onRaise ?_));show wpAny _ _ (nextOf (.ref i2) >>= _) _ _ _;have K3:KB [z,TO,i1] s.heap g3:=(KB.of t1 (.head _)).trans ((KB.of t2 (.tail _ (.tail _ (.head _)))).trans (KB.of t3 (.tail _ (.head _))));refine aA (n2 g3 _ _ K3 fun g4 e t4 he=>?_)
  have u4:IsZip g4 z TI TO .ellipsis:=t4 _ _ d.d.symm (t3.extBut _ _ d.b.symm (t2.extBut _ _ d.c.symm u1));exact wpAny_setField_rec u4 (by simp) fun g5 _ t5=>out u4 ((KB.of t1 m1).trans ((KB.of t2 m3).trans ((KB.of t3 m2).trans fun c o n e=>t4 c o (fun q=>n (q ▸ m4)) e))) he g5 t5
end
structure ZSt(z TI TO i1 i2 a b:Addr)(i:Nat)(h:Heap):Prop where
 hz:IsZip h z TI TO .none
 hI:IsPair h TI (.ref i1) (.ref i2)
 hO:∃ u v,IsPair h TO u v
 h1:h.IsListIter i1 a i
 h2:h.IsTupleIter i2 b i
theorem Q2{TI TO i1 i2 c:Ad}(h:c∈[z,TO,i1,i2]):c∈[z,TI,TO,i1,i2]:=by
 rcases aG.mp h with rfl|h
 ·exact .head _
 ·exact .tail _ (.tail _ h)
theorem Q3{TI TO i1 i2 a b c:Ad}(st:ZSt z TI TO i1 i2 a b i h)(hc:c∈[z,TI,TO,i1,i2]):∃ o,h.get? c=some o/\∀ v,o.data≠.cell v:=by
 obtain⟨hz,hI,⟨u,v,hO⟩,⟨o1,g1,_,f1⟩,⟨o2,g2,_,f2⟩⟩:=st;simp only[aG,bB,or_false]at hc;rcases hc with rfl|rfl|rfl|rfl|rfl
 ·exact⟨_,hz,fun v q=>by cases (show Data.fields _=Data.cell v from q)⟩
 ·exact⟨_,hI,fun v q=>by cases (show Data.seq _ _=Data.cell v from q)⟩
 ·exact⟨_,hO,fun v q=>by cases (show Data.seq _ _=Data.cell v from q)⟩
 ·exact⟨_,g1,fun v q=>by rw[f1]at q;cases q⟩
 ·exact⟨_,g2,fun v q=>by rw[f2]at q;cases q⟩
theorem Qz{s:sH7}{a c:Ad}(I:L2.Inv X pQ σ H s)(f:FpOk X pQ H c)(h:(∃ o,H a=some o)\/∃ o,X.K.lookup a=some o):a≠c:=fun q=>by
 subst q;rcases h with⟨o,h⟩|⟨o,h⟩
 ·rw[f.1]at h;cases h
 ·have hb:=I.ok.mod.kin a o h
  rcases f.2.2.2.1 with g|g
  ·exact I.ok.noex a o hb g
  ·exact absurd (aI (I.ok.bs a o hb).1) (Nat.not_lt.mpr g)
theorem Ze4{K:Fg}{a:Ad}{xs:Li V}(h:SqT K H a xs):(∃ o,H a=some o)\/∃ o,K.lookup a=some o:=by
 rcases h with(h|⟨o,h⟩)|⟨o,its,n,h,_⟩
 ·exact .inl ⟨_,h⟩
 ·exact .inl ⟨_,h⟩
 ·exact .inr ⟨_,h⟩
theorem U7{K:Fg}{a:Ad}{xs:Li V}(h:SqL K H a xs):(∃ o,H a=some o)\/∃ o,K.lookup a=some o:=by
 rcases h with(h|⟨o,h⟩)|⟨o,its,n,h,_⟩
 ·exact .inl ⟨_,h⟩
 ·exact .inl ⟨_,h⟩
 ·exact .inr ⟨_,h⟩
theorem Uz{s:sH7}{TI TO:Ad}{Q:Ot vL->sH7->Prop}(hz:IsZip s.heap z TI TO .none)(h:∀ {Qf:Fin->sH7->Prop}{Ef:vL->sH7->Prop},(∀ v s',Q (some v) s'->Qf (.done (.ret v)) s')->(∀ e s',(∃ o,s'.heap.get? e=some o/\o.cls=.type "StopIteration")->Q none s'->Ef (.ref e) s')->wpAny (model prog w) A.in1 (Builtin.«zip.__next__» ⟨[.ref z],[]⟩) Qf Ef s):wpAny (model prog w) A (pyNext (.ref z)) Q E s:=by
 have hT:s.TypeIs (.ref z) "zip":=⟨_,hz,rfl⟩;unfold pyNext;refine aA (wpAny_attempt (wpAny_callSpecial?_slot (name:=Str.ofString "__next__") hT F.slot_zip_next (wpAny_call_entry F.slot_zip_next hT F.entry_zip_next (h (fun v s' q=>⟨v,rfl,aD q⟩) fun e s' he q=>?_) (F.args_zip_next_1 _))))
 obtain⟨o,ho,hc⟩:=he;exact aA (wpAny_isInstance (T := "StopIteration") (b:=true) ⟨o,ho,hc⟩ isSubtype_stop (aD q))
section
variable {X:Cx}{z TI TO i1 i2 a b:Ad}{i:Nat}{pQ:Li (Ad×Obj)}{s:sH7}{σ:L2.St}{H:Hp}{E:vL->sH7->Prop}
theorem nl{l:Li Ad}{c:Ad}(h:∀ d∈l,c≠d):c∉l:=fun m=>h c m rfl
theorem ZbO(d:ZD z TI TO i1 i2)(hc:X.calm=true)(I:L2.Inv X pQ σ H s)(hf:∀ c∈[z,TI,TO,i1,i2],FpOk X pQ H c)(st:ZSt z TI TO i1 i2 a b i s.heap){xs:Li V}(sq1:SqL X.K H a xs)(sq2:SqT X.K H b ys){its1 its2:Li vL}(p1:s.heap.IsList a its1.toArray)(p2:s.heap.IsTuple b its2.toArray) :
  (∀ u,its1.toArray[i]?=some u->Nx X.prog X.w X.A.in1 s [z] i1 u fun h=>h.IsListIter i1 a (i+1))/\(its1.toArray[i]?=none->Nz X.prog X.w X.A.in1 s [z] i1)/\(∀ u,its2.toArray[i]?=some u->Nx X.prog X.w X.A.in1 s [z,TO,i1] i2 u fun h=>h.IsTupleIter i2 b (i+1))/\(its2.toArray[i]?=none->Nz X.prog X.w X.A.in1 s [z,TO,i1] i2):=by
 have na:∀ {c},c∈[z,TI,TO,i1,i2]->a≠c:=fun m=>Qz I (hf _ m) (U7 sq1)
 have nb:∀ {c},c∈[z,TI,TO,i1,i2]->b≠c:=fun m=>Qz I (hf _ m) (Ze4 sq2)
 have m1:z∈[z,TI,TO,i1,i2]:=.head _;have e1:∀ h,KB [z] s.heap h->h.IsListIter i1 a i/\h.IsList a its1.toArray:=fun h k=>⟨st.h1.at fun o e=>k _ o (nl fun c m=>by rw[bG.mp m];exact d.c) e,p1.at fun o e=>k _ o (nl fun c m=>by rw[bG.mp m];exact na m1) e⟩
 have e2:∀ h,KB [z,TO,i1] s.heap h->h.IsTupleIter i2 b i/\h.IsTuple b its2.toArray:=fun h k=>⟨st.h2.at fun o e=>k _ o (nl fun c m=>by
   simp only[aG,bB,or_false]at m;rcases m with rfl|rfl|rfl
   ·exact d.d
   ·exact d.i.symm
   ·exact d.j.symm) e,p2.at fun o e=>k _ o (nl fun c m=>nb (by
   simp only[aG,bB,or_false]at m ⊢;rcases m with rfl|rfl|rfl
   ·exact .inl rfl
   ·exact .inr (.inr (.inl rfl))
   ·exact .inr (.inr (.inr (.inl rfl))))) e⟩
 have hh:X.A.in1.handled=none:=I.ok.hd hc;refine⟨fun u eu h Q E k hq=>?_,fun eu h Q E k hq=>?_,fun u eu h Q E k hq=>?_,fun eu h Q E k hq=>?_⟩
 ·obtain⟨f1,f2⟩:=e1 h k
  exact wpAny_nextOf_list_item (s:={ s with heap:=h }) f1 f2 eu fun h2 v t=>hq h2 v t
 ·obtain⟨f1,f2⟩:=e1 h k
  exact wpAny_nextOf_list_end (s:={ s with heap:=h }) hh f1 f2 eu fun h2 e t he=>hq h2 e t he
 ·obtain⟨f1,f2⟩:=e2 h k
  exact Ug (s:={ s with heap:=h }) hh f1 f2 (fun x h2 ex v t=>by rw[eu]at ex;cases ex;exact hq h2 v t) fun ex=>by rw[eu]at ex;cases ex
 ·obtain⟨f1,f2⟩:=e2 h k
  exact Ug (s:={ s with heap:=h }) hh f1 f2 (fun x h2 ex v t=>by rw[eu]at ex;cases ex) fun _ h2 e t he=>hq h2 e t he
theorem ZbM(d:ZD z TI TO i1 i2)(hc:X.calm=true)(I:L2.Inv X pQ σ H s)(hf:∀ c∈[z,TI,TO,i1,i2],FpOk X pQ H c)(st:ZSt z TI TO i1 i2 a b i s.heap)(hg:(Itz X.K a b).go i H) :
  wpAny (model X.prog X.w) X.A (pyNext (.ref z)) (fun r s1=>∃ u,r=some u/\wpAny (model X.prog X.w) X.A (letOwnedTupleGo (.Tuple elts kk pos) (.ref z) u) (fun _ s2=>∃ x H',L2.Inv X pQ σ H' s2/\RelV x u/\(Itz X.K a b).yld i H x H'/\ZSt z TI TO i1 i2 a b (i+1) s2.heap/\∀ c∈[z,TI,TO,i1,i2],H' c=none) E s1) E s:=by
 obtain⟨xs,ys,x,y,sq1,sq2,ex,ey⟩:=hg;obtain⟨its1,r1,p1,_⟩:=I.list sq1;obtain⟨its2,r2,p2,_⟩:=I.tuple sq2;obtain⟨n1,_,n2,_⟩:=ZbO d hc I hf st sq1 sq2 p1.isList p2;obtain⟨u,eu,ru⟩:=r1.get ex;obtain⟨v,ev,rv⟩:=r2.get ey;have eu:its1.toArray[i]?=some u:=by rw[dH];exact eu
 have ev:its2.toArray[i]?=some v:=by rw[dH];exact ev
 obtain⟨oa,ob,hO⟩:=st.hO;refine Uz st.hz fun {Qf Ef} hq _=>bD (Zdm d st.hz st.hI hO (n1 u eu) (n2 v ev) (fun h h' q k=>q.at k) (fun h h' q k=>q.at k) (Q:=fun r s1=>Qf (.done (.ret r)) s1) (E:=Ef) fun g a1 a2 a3 a4 a5 kb=>hq _ _ ⟨_,rfl,?_⟩) (fun r s1 ⟨v,e,q⟩=>by rw[e];exact q) fun _ _ e=>e
 refine wpAny_letOwnedTupleGo_zip (s:={ s with heap:=g }) a1 fun g2 b1 t2=>?_
 have hT:s.heap.objs.size<=s.heap.objs.size:=aE _;have zn:∀ c∈[z,TI,TO,i1,i2],c≠s.heap.objs.size:=fun c hcm q=>by
  obtain⟨o,e,_⟩:=Q3 st hcm;exact absurd (aI e) (by rw[q];exact bM _)
 have kb2:KB [z,TO,i1,i2] s.heap g2:=kb.trans (KB.of t2 (.head _));have tn:s.heap.objs.size≠z:=fun q=>zn z (.head _) q.symm
 have up:∀ c o,c≠z->g.get? c=some o->g2.get? c=some o:=fun c o n e=>t2.extBut c o n e
 have I2:L2.Inv X pQ σ (upd H s.heap.objs.size (.tup [x,y])) { s with heap:=g2,toks:=s.toks }:=Y1 (wr:=[z,TO,i1,i2]) I (fun c hcm=>hf c (Q2 hcm)) (fun c o n e=>kb2 c o n e) hT ⟨show 2<=sizeLine by decide,[u,v],.cons ru (.cons rv .nil),⟨_,up _ _ tn a5,rfl,_,rfl⟩⟩
 have fr:H s.heap.objs.size=none:=I.hok.fresh (aE _);refine⟨.ref s.heap.objs.size,upd H s.heap.objs.size (.tup [x,y]),I2,rfl,⟨_,x,y,rfl,fr,rfl,fun xs' q=>by rw[QY I sq1 q];exact ex,fun ys' q=>by rw[I.tuple_inj q sq2];exact ey⟩,⟨b1,up _ _ d.a (kb _ _ (nl fun c m=>?_) st.hI),⟨_,_,up _ _ d.b a2⟩,a3.at fun o e=>up _ o d.c e,a4.at fun o e=>up _ o d.d e⟩,fun c hcm=>?_⟩
 ·simp only[aG,bB,or_false]at m
  rcases m with rfl|rfl|rfl|rfl
  ·exact d.a
  ·exact d.e
  ·exact d.f
  ·exact d.g
 ·rw[upd_ne (zn c hcm)]
  exact(hf c hcm).1
theorem ZbL(d:ZD z TI TO i1 i2)(hc:X.calm=true)(I:L2.Inv X pQ σ H s)(hf:∀ c∈[z,TI,TO,i1,i2],FpOk X pQ H c)(st:ZSt z TI TO i1 i2 a b i s.heap)(hg:(Itz X.K a b).stop i H) :
  wpAny (model X.prog X.w) X.A (pyNext (.ref z)) (fun r s1=>r=none/\L2.Inv X pQ σ H s1) E s:=by
 obtain⟨xs,ys,sq1,sq2,hle⟩:=hg;obtain⟨its1,r1,p1,_⟩:=I.list sq1;obtain⟨its2,r2,p2,_⟩:=I.tuple sq2;obtain⟨n1,z1,n2,z2⟩:=ZbO d hc I hf st sq1 sq2 p1.isList p2;obtain⟨oa,ob,hO⟩:=st.hO;have l1:=r1.length;have l2:=r2.length;have dn:Nz X.prog X.w X.A.in1 s [z] i1\/∃ x S,Nx X.prog X.w X.A.in1 s [z] i1 x S/\Nz X.prog X.w X.A.in1 s [z,TO,i1] i2:=by
  cases q:its1.toArray[i]? with
  |none=>exact .inl (z1 q)
  |some u=>
   rw[dH,bN]at q;refine .inr ⟨u,_,n1 u (by rw[dH,bN];exact q),z2 ?_⟩
   rw[dH,List.getElem?_eq_none_iff];have:=q.1;omega
 exact Uz st.hz fun {Qf Ef} _ he=>ZbN d st.hz st.hI hO dn fun g e kb hs=>he e _ hs ⟨rfl,XT (t':=s.toks) (wr:=[z,TO,i1,i2]) I (fun c hcm=>hf c (Q2 hcm)) fun c o n e=>kb c o n e⟩
end
theorem ZbD{P:Program}{K:Fg}(z TI TO i1 i2 a b:Ad)(d:ZD z TI TO i1 i2):Turn P w K (.Tuple elts kk pos) (Itz K a b) [z,TI,TO,i1,i2] z (ZSt z TI TO i1 i2 a b) where
 mem:=.head _
 obj:=fun i h st c hc=>Q3 st hc
 keep:=fun i h h' st k=>by
  obtain⟨hz,hI,⟨u,v,hO⟩,h1,h2⟩:=st;exact⟨k z (.head _) _ hz,k TI (.tail _ (.head _)) _ hI,⟨u,v,k TO (.tail _ (.tail _ (.head _))) _ hO⟩,h1.at fun o e=>k i1 (.tail _ (.tail _ (.tail _ (.head _)))) o e,h2.at fun o e=>k i2 (.tail _ (.tail _ (.tail _ (.tail _ (.head _))))) o e⟩
 item:=fun X hP hw hK hc i pQ s σ H E I hf st hg=>by
  subst hP hw hK;exact ZbM d hc I hf st hg
 done:=fun X hP hw hK hc i pQ s σ H E I hf st hg=>by
  subst hP hw hK;exact ZbL d hc I hf st hg
 self:=fun _ _ _ _ _ st h=>wpAny_pyIter_zip st.hz h
theorem Zec:bootBuiltins "zip"=some (.type "zip"):=by decide +kernel
theorem UU(l1 l2:Ad)(xs ys:Array vL) :
  Meets (Builtin.«zip.__new__» ⟨[.type "zip",.ref l1,.ref l2],[]⟩) (fun _ R s=>s.heap.IsList l1 xs/\s.heap.IsTuple l2 ys/\∀ h',h'=((((s.heap.push { cls:=.type "list_iterator",data:=.fields #[.ref l1,.int 0 0] }).push { cls:=.type "tuple_iterator",data:=.fields #[.ref l2,.int 0 0] }).push { cls:=.type "tuple",data:=.seq #[.ref s.heap.objs.size,.ref (s.heap.push { cls:=.type "list_iterator",data:=.fields #[.ref l1,.int 0 0] }).objs.size] }).push { cls:=.type "tuple",data:=.seq #[.none,.none] })->
   R (.ok (.ret (.ref h'.objs.size))) { s with heap:=h'.push { cls:=.type "zip",data:=.fields #[.none,.bool false,.bool false,.ref ((s.heap.push { cls:=.type "list_iterator",data:=.fields #[.ref l1,.int 0 0] }).push { cls:=.type "tuple_iterator",data:=.fields #[.ref l2,.int 0 0] }).objs.size,.ref (((s.heap.push { cls:=.type "list_iterator",data:=.fields #[.ref l1,.int 0 0] }).push { cls:=.type "tuple_iterator",data:=.fields #[.ref l2,.int 0 0] }).push { cls:=.type "tuple",data:=.seq #[.ref s.heap.objs.size,.ref (s.heap.push { cls:=.type "list_iterator",data:=.fields #[.ref l1,.int 0 0] }).objs.size] }).objs.size] } }):=
 .of_wp fun prog w A R s h=>by
  obtain⟨hp,g,d,tk,os⟩:=s;obtain⟨hl1,hl2,h⟩:=h;have hsub:=sub_zip;have hL1:Heap.IsList (Shared.heap ⟨hp,g,d,tk,os⟩) l1 xs:=hl1;have hL2:Heap.IsTuple (Shared.heap ⟨hp.push { cls:=.type "list_iterator",data:=.fields #[.ref l1,.int 0 0] },g,d,tk,os⟩) l2 ys:=hl2.at fun o e=>aO _ e
  wp_walk using wpAny_pyIter_list hL1,wpAny_pyIter_tuple hL2
  exact⟨_,rfl,h _ rfl⟩
theorem Je{s:sH7}{l1 l2:Ad}{xs ys:Array vL}{Q:vL->sH7->Prop}(hl1:s.heap.IsList l1 xs)(hl2:s.heap.IsTuple l2 ys)(h:∀ h',ZSt (s.heap.objs.size+4) (s.heap.objs.size+2) (s.heap.objs.size+3) s.heap.objs.size (s.heap.objs.size+1) l1 l2 0 h'->(∀ c o,s.heap.get? c=some o->h'.get? c=some o)->Q (.ref (s.heap.objs.size+4)) { s with heap:=h' }) :
  wpAny (model prog w) A (call (.type "zip") [.ref l1,.ref l2]) Q E s:=by
 refine callType_new F.called_zip (by decide) (F.typeCall_zip_2 _ _) (F.newCall_zip_2 _ _) (fun obj=>F.args_object_init_3 obj _ _) F.entry_zip_new (UU l1 l2 xs ys) ⟨hl1,hl2,fun h' e=>?_⟩
 have z0:∀ (g:Heap) (o:Obj),(g.push o).objs.size=g.objs.size+1:=fun g o=>Heap.size_push ..
 generalize hg1:s.heap.push { cls:=.type "list_iterator",data:=.fields #[.ref l1,.int 0 0] }=g1 at e;generalize hg2:g1.push { cls:=.type "tuple_iterator",data:=.fields #[.ref l2,.int 0 0] }=g2 at e;generalize hg3:g2.push { cls:=.type "tuple",data:=.seq #[.ref s.heap.objs.size,.ref g1.objs.size] }=g3 at e;have s1:g1.objs.size=s.heap.objs.size+1:=by rw[<-hg1,z0]
 have s2:g2.objs.size=s.heap.objs.size+2:=by rw[<-hg2,z0,s1]
 have s3:g3.objs.size=s.heap.objs.size+3:=by rw[<-hg3,z0,s2]
 have s4:h'.objs.size=s.heap.objs.size+4:=by rw[e,z0,s3]
 have q1:g1.get? s.heap.objs.size=some { cls:=.type "list_iterator",data:=.fields #[.ref l1,.int 0 0] }:=by rw[<-hg1];exact bA _ rfl
 have q2:g2.get? (s.heap.objs.size+1)=some { cls:=.type "tuple_iterator",data:=.fields #[.ref l2,.int 0 0] }:=by rw[<-hg2,<-s1];exact bA _ rfl
 have q3:IsPair g3 (s.heap.objs.size+2) (.ref s.heap.objs.size) (.ref (s.heap.objs.size+1)):=by rw[<-hg3,<-s2,<-s1];exact bA _ rfl
 have q4:IsPair h' (s.heap.objs.size+3) .none .none:=by rw[e,<-s3];exact bA _ rfl
 have u2:∀ c o,g1.get? c=some o->g2.get? c=some o:=fun c o x=>by rw[<-hg2];exact aO _ x
 have u3:∀ c o,g2.get? c=some o->g3.get? c=some o:=fun c o x=>by rw[<-hg3];exact aO _ x
 have u4:∀ c o,g3.get? c=some o->h'.get? c=some o:=fun c o x=>by rw[e];exact aO _ x
 have u5:∀ {c:Ad}{o:Obj} (ob:Obj),h'.get? c=some o->(h'.push ob).get? c=some o:=fun ob x=>aO _ x
 have u1:∀ c o,s.heap.get? c=some o->g1.get? c=some o:=fun c o x=>by rw[<-hg1];exact aO _ x
 show _/\_;rw[s2,s3];have q5:IsZip (h'.push { cls:=.type "zip",data:=.fields #[.none,.bool false,.bool false,.ref (s.heap.objs.size+2),.ref (s.heap.objs.size+3)] }) (s.heap.objs.size+4) (s.heap.objs.size+2) (s.heap.objs.size+3) .none:=by rw[<-s4];exact bA _ rfl
 rw[s4];exact⟨⟨_,q5,rfl⟩,h _ ⟨q5,u5 _ (u4 _ _ q3),⟨_,_,u5 _ q4⟩,⟨_,u5 _ (u4 _ _ (u3 _ _ (u2 _ _ q1))),rfl,rfl⟩,⟨_,u5 _ (u4 _ _ (u3 _ _ q2)),rfl,rfl⟩⟩ fun c o x=>u5 _ (u4 _ _ (u3 _ _ (u2 _ _ (u1 _ _ x))))⟩
theorem Zbh{x y:Expr}{ta:TA}{p:Pos}(hg:Gl X "zip")(hm:X.mg "zip"=none)(ha:PA X [x,y] ta)(hp:[x,y].all Zf=true):PI X (.Tuple elts kk tp) (.Call (.Name "zip" p) [x,y] [] pos) (Zeo X.K ta):=by
 intro pQ s σ H R I h;rw[bK,bK,Ba,Ba]at hp;have hs2:starEach [y] X.env=[(false,eval y X.env)]:=Zd hp.2.1;have hs:starEach [x,y] X.env=[(false,eval x X.env),(false,eval y X.env)]:=by rw[Zd hp.1,hs2]
 refine Call_ (ld_blt I hg hm Zec (PyProof.Rows.callWith_type1 (thn (ha pos pQ s σ H _ I h) fun us s1 ⟨vs,H1,I1,r1,q1⟩=>?_) (by rw[hs,hs2]) (by rw[hs2];rfl)))
 obtain⟨a,b,rfl,⟨xs,sq1⟩,⟨ys,sq2⟩,q⟩:=q1;cases r1 with
 |cons r rr=>
  cases rr with
  |cons r' rr=>
   cases rr;cases r;cases r';obtain⟨its1,_,p1,_⟩:=I1.list sq1;obtain⟨its2,_,p2,_⟩:=I1.tuple sq2;have ne:∀ {i j:Nat},i≠j->(s1.heap.objs.size+i:Nat)≠s1.heap.objs.size+j:=fun h z=>h (Nat.add_left_cancel z)
   refine Je p1.isList (show s1.heap.IsTuple b its2.toArray from p2) fun h' st k=>wpAny_pyIter_zip st.hz ?_
   refine⟨s1.heap.objs.size+4,[s1.heap.objs.size+4,s1.heap.objs.size+2,s1.heap.objs.size+3,s1.heap.objs.size,s1.heap.objs.size+1],_,_,H1,rfl,I1.kept (t':=s1.toks) k,ZbD _ _ _ _ _ a b ⟨ne (i:=2) (j:=4) (by decide),ne (i:=3) (j:=4) (by decide),ne (i:=0) (j:=4) (by decide),ne (i:=1) (j:=4) (by decide),ne (i:=2) (j:=3) (by decide),ne (i:=2) (j:=0) (by decide),ne (i:=2) (j:=1) (by decide),ne (i:=3) (j:=0) (by decide),ne (i:=3) (j:=1) (by decide),ne (i:=0) (j:=1) (by decide)⟩,st,fun c hcm=>?_,q⟩
   have hc:s1.heap.objs.size<=c:=by
    simp only[aG,bB,or_false]at hcm;rcases hcm with rfl|rfl|rfl|rfl|rfl
    ·exact dP _ _
    ·exact dP _ _
    ·exact dP _ _
    ·exact aE _
    ·exact dP _ _
   exact I1.fpOk hc (I1.hok.fresh hc)
section
variable {prog:Program}{w:World}{A:Around}{E:vL->sH7->Prop}{s:sH7}
open AutoSeq1 (wpAny_loadPart')
theorem Zcw{T:String}{self:vL}{rest:Li vL}(hl:typeLookup (.type T) "__init__"=pure (some (.builtin "object.__init__")))(hm:Bind.madeBy (.type T)=pure (some newId))(hne:(some newId != some "object.__new__")=true)(hk:(!rest.isEmpty||!kw.isEmpty)=true) :
  Meets (Builtin.«object.__init__» ⟨self :: rest,kw⟩) (fun _ R s=>s.TypeIs self T/\R (.ok (.ret .none)) s):=by
 refine Meets.of_wp fun prog w A R s hs=>?_
 obtain⟨hT,hq⟩:=hs
 repeat (any_goals (first|assumption|wp_step))
 exact⟨_,rfl,hq⟩
theorem Zf6{T:String}{Bn:Builtin}{args:Li vL}{S:PySem.Spec}{Q:vL->sH7->Prop}(ft:TypeCalled T newId "object.__init__")(hne:(some newId != some "object.__new__")=true)(hk:(!args.isEmpty||!kw.isEmpty)=true)(hct:checkTypeCall T ⟨args,kw⟩=pure ())(hcn:checkBuiltinCall newId ⟨.type T :: args,kw⟩=pure ())(hok:∀ obj,argsOk "object.__init__" ⟨obj :: args,kw⟩)(eN:entryFor table newId=some Bn)(g:Meets (Bn ⟨.type T :: args,kw⟩) S)(h:S A.in1 (wants (fun obj s₁=>s₁.TypeIs obj T/\Q obj s₁) E) s):wpAny (model prog w) A (call (.type T) args kw) Q E s:=by
 obtain⟨c,tl,hmro⟩:=ft.mro;have hmade:=ft.made;have hsub:=ft.sub;refine wpAny_call (codeAny_of_tree (show wpAny _ _ (callAny (.type T) _) _ _ _ from aD ⟨Code.quiet_builtin _ (by decide +kernel),codeAny_builtin F.entry_type_call ?_⟩))
 rw[Around.under_plain (weight_type_call_type T args kw) (units_type_call_type T args kw)];have h1:=ft.notType;have h2:=ft.canCreate
 repeat (any_goals (first|assumption|wp_step))
 refine codeAny_mono (codeAny_call_builtin ft.plain eN (wpAny_of_eq hcn (g prog w A.in1 _ s h))) fun r t hr=>?_
 cases r with
 |error e=>exact hr
 |ok fl=>
  cases fl with
  |ret obj=>
   have hli:=ft.init.lookup;have hbi:=ft.init.bind obj;have hT:=hr.1
   repeat (any_goals (first|assumption|wp_step))
   refine codeAny_mono (codeAny_call_builtin ft.init.plain F.entry_object_init (ft.init.check _ _ _ _ _ _ _ _ hT (hok obj) ((Zcw hli hmade hne hk) prog w A.in1 (wants (fun r s₂=>r=.none/\Q obj s₂) E) t ⟨hT,rfl,hr.2⟩))) fun r u hu=>?_
   cases r with
   |error e=>exact hu
   |ok fl=>
    cases fl with
    |ret r=>
     obtain⟨rfl,hq⟩:=hu
     repeat (any_goals (first|assumption|wp_step))
    |_=>exact hu.elim
  |_=>exact hr.elim
theorem Zdh(a v:vL):checkTypeCall "enumerate" ⟨[a],[("start",v)]⟩=pure ():=by kernel_rfl
theorem ZcD(a v:vL):checkBuiltinCall "enumerate.__new__" ⟨[.type "enumerate",a],[("start",v)]⟩=pure ():=by kernel_rfl
theorem ZbW(o a v:vL):argsOk "object.__init__" ⟨[o,a],[("start",v)]⟩:=by
 unfold argsOk;rw[signature?_of (id := "object.__init__") (n:=['_','_','t','i','n','i','_','_']) (o:=['t','c','e','j','b','o']) (by kernel_rfl) F.owner_object];kernel_rfl
theorem Ud(l:Ad)(items:Array vL)(n:Nat)(dct:Ot Ad)(sl:Array (Ot vL))(t:Tok) :
  Meets (Builtin.«enumerate.__new__» ⟨[.type "enumerate",.ref l],[("start",.int 1 t)]⟩) (fun _ R s=>s.heap.get? l=some { cls:=.type "list",dict:=dct,data:=.seq items n,slots:=sl } /\
   R (.ok (.ret (.ref (s.heap.push { cls:=.type "list_iterator",data:=.fields #[.ref l,.int 0 0] }).objs.size)))
    { s with heap:=(s.heap.push { cls:=.type "list_iterator",data:=.fields #[.ref l,.int 0 0] }).push { cls:=.type "enumerate",data:=.fields #[.none,.bool false,.ref s.heap.objs.size,rawInt 1,.none,.none] } }):=
 .of_wp fun prog w A R s h=>by
  obtain⟨hp,g,d,tk,os⟩:=s;obtain⟨hl,h⟩:=h;have hsub:=sub_enumerate;have hL:Heap.IsList (Shared.heap ⟨hp,g,d,tk,os⟩) l items:=⟨_,hl,rfl,n,rfl⟩
  wp_walk using wpAny_loadPart' hl
  refine wpAny_stack_any fun st=>aD ?_
  split
  ·rename_i c _ _ _ _ _
   cases (c==Value.type "enumerate")
   ·wp_walk using wpAny_loadPart' hl,wpAny_pyIter_list hL
    exact⟨_,rfl,h⟩
   ·wp_walk using wpAny_loadPart' hl,wpAny_pyIter_list hL
    exact⟨_,rfl,h⟩
  ·wp_walk using wpAny_loadPart' hl,wpAny_pyIter_list hL
   exact⟨_,rfl,h⟩
end
theorem Zfr{M:Model}{s:sH7}{T:String}{args:Li (Bool×Sem vL)}{keywords:Li (Ot Str×Sem vL)}{Q:vL->sH7->Prop}(hplain:args.any (·.1)=false)(hkw:keywords.any (·.1.isNone)=false)(h:wpAny M A (evalArgs (.type T) true args keywords) (fun a t=>wpAny M A (call (.type T) a.pos a.kw) Q E t) E s):wpAny M A (callWith pos (.type T) [] args keywords) Q E s:=by
 unfold callWith;refine aA (wpAny_holding (bD h (fun a t h1=>aA (wpAny_standAt ?_)) fun _ _ x=>x))
 simp only[hplain,hkw,cW];exact aA (aD (aA (bD h1 (fun r u hr=>aA (wpAny_holding (wpAny_point (aD hr)))) fun _ _ x=>x)))
noncomputable def Ite(sq:Hp->Li V->Prop):It:=
 ⟨fun i H=>∃ xs x,sq H xs/\xs[i]?=some x,fun i H v H'=>∃ T x,v=.ref T/\H T=none/\H'=upd H T (.tup [.int ((i+1:Nat):Int),x])/\∀ xs,sq H xs->xs[i]?=some x,fun i H=>∃ xs,sq H xs/\xs.length=i⟩
noncomputable def Zdx(K:Fg)(te:TE):TI:=fun σ H R=>te σ H fun v H1=>∃ a,v=.ref a/\(∃ xs,SqL K H1 a xs)/\R (Ite fun H=>SqL K H a) H1
def shP(P:Nat->vL->Prop):Nat->vL->Prop
 |0,_=>False
 |k+1,v=>P k v
def shS(S:Nat->Heap->Prop):Nat->Heap->Prop
 |0,_=>False
 |k+1,h=>S k h
omit [ClsTab] in
theorem VW{prog:Program}{w:World}{A:Around}{it:Ad}{fp:Li Ad}{n:Nat}{P:Nat->vL->Prop}{S:Nat->Heap->Prop}(D:Draws prog w A it fp n P S):Draws prog w A it fp (n+1) (shP P) (shS S) where
 live:=fun i h st=>by
  cases i with
  |zero=>exact st.elim
  |succ k=>exact D.live k h st
 frame:=fun i h h' st k=>by
  cases i with
  |zero=>exact st.elim
  |succ j=>exact D.frame j h h' st k
 item:=fun i s Q E hi st hQ=>by
  cases i with
  |zero=>exact st.elim
  |succ k=>exact D.item k s Q E (Nat.lt_of_succ_lt_succ hi) st fun x h' tk p q sb=>hQ x h' tk p q sb
 done:=fun s Q E st hE=>D.done s Q E st hE
theorem JF{P:Program}{K:Fg}(e it a:Ad)(d:e≠it) :
  Turn P w K (.Tuple elts kk pos) (Ite fun H=>SqL K H a) [e,it] e (fun i h=>(∃ old,IsEnum h e it ((i+1:Nat):Int) old)/\h.IsListIter it a i) where
 mem:=by simp
 obj:=fun i h st c hc=>by
  obtain⟨⟨old,he⟩,⟨o,g,_,f⟩⟩:=st;simp only[aG,bB,or_false]at hc;rcases hc with rfl|rfl
  ·exact⟨_,he,fun v q=>by cases (show Data.fields _=Data.cell v from q)⟩
  ·exact⟨o,g,fun v q=>by rw[f]at q;cases q⟩
 keep:=fun i h h' st k=>by
  obtain⟨⟨old,he⟩,h1⟩:=st;exact⟨⟨old,k e (by simp) _ he⟩,h1.at fun o g=>k it (by simp) o g⟩
 item:=by
  intro X hP hw hK hc i pQ s σ H E I hf st hg;subst hP hw hK;obtain⟨xs,x,hs,ex⟩:=hg;obtain⟨its,r,p,_⟩:=I.list hs;have na:∀ {c},c∈[e,it]->a≠c:=fun m=>Qz I (hf _ m) (U7 hs)
  have D:=VW (Draws.list (prog:=X.prog) (w:=X.w) (show X.A.in1.handled=none from I.ok.hd hc) it a (na (.tail _ (.head _))) its.toArray);have W:=WalksT.enumerateD D e d (by simp only[aG,bB,or_false];exact fun q=>q.elim d fun q=>na (.head _) q.symm) (by simp)
  have l1:=r.length;have ix:i < xs.length:=(bN.mp ex).1;refine W.item (i+1) s _ _ (by simp;omega) ⟨st.1,st.2,p.isList⟩ fun T vals h' tk hv hT tup mid k1=>?_
  obtain⟨t,u,eu,rfl⟩:=hv;refine⟨.ref T,rfl,W.go elts kk pos (i+1) T _ _ _ mid fun h2' st2 k2=>?_⟩
  have nT:=W.apart (i+1) T h' mid;have ru:RelV x u:=by
   obtain⟨u',e1,e2⟩:=r.get ex;have eu:its.toArray[i]?=some u:=eu;have:its[i]?=some u:=by simpa using eu
   rw[this]at e1;cases e1;exact e2
  have tup2:h2'.IsTuple T #[.int ((i+1:Nat):Int) t,u]:=tup.at fun o g=>k2 T o nT g
  have I2:L2.Inv X pQ σ (upd H T (.tup [.int ((i+1:Nat):Int),x])) { s with heap:=h2',toks:=tk }:=Y1 (wr:=[e,it]) I hf (fun c o hcn g=>k2 c o hcn (k1 c o hcn g)) hT ⟨show 2<=sizeLine by decide,[.int ((i+1:Nat):Int) t,u],.cons ⟨t,rfl⟩ (.cons ru .nil),tup2⟩
  refine⟨.ref T,_,I2,rfl,⟨T,x,rfl,I.hok.fresh hT,rfl,fun xs' q=>by rw[QY I hs q];exact ex⟩,⟨st2.1,st2.2.1⟩,fun c hcm=>?_⟩
  have:c≠T:=fun q=>by
   have lt:∀ {o},s.heap.get? c=some o->False:=fun g=>absurd (aI g) (Nat.not_lt.mpr (by rw[q];exact hT))
   obtain⟨⟨_,he⟩,⟨_,g,_⟩⟩:=st;simp only[aG,bB,or_false]at hcm;rcases hcm with rfl|rfl
   ·exact lt he
   ·exact lt g
  rw[upd_ne this];exact(hf c hcm).1
 done:=by
  intro X hP hw hK hc i pQ s σ H E I hf st hg;subst hP hw hK;obtain⟨xs,hs,hle⟩:=hg;obtain⟨its,r,p,_⟩:=I.list hs;have na:∀ {c},c∈[e,it]->a≠c:=fun m=>Qz I (hf _ m) (U7 hs)
  have D:=VW (Draws.list (prog:=X.prog) (w:=X.w) (show X.A.in1.handled=none from I.ok.hd hc) it a (na (.tail _ (.head _))) its.toArray);have W:=WalksT.enumerateD D e d (by simp only[aG,bB,or_false];exact fun q=>q.elim d fun q=>na (.head _) q.symm) (by simp)
  have l1:=r.length;have e1:i=its.toArray.size:=by simp;omega
  subst e1;exact W.done s _ _ ⟨st.1,st.2,p.isList⟩ fun h' tk k=>⟨rfl,XT (wr:=[e,it]) I hf k⟩
 self:=fun _ _ _ _ _ st h=>let ⟨⟨_,he⟩,_⟩:=st;wpAny_pyIter_enum he h
theorem Zb3:bootBuiltins "enumerate"=some (.type "enumerate"):=by decide +kernel
theorem ZcJ{x:Expr}{te:TE}{p kp:Pos}{ck:Nat}(hg:Gl X "enumerate")(hm:X.mg "enumerate"=none)(hp:Zf x=true)(he:PE X x te):PI X (.Tuple elts kk tp) (.Call (.Name "enumerate" p) [x] [⟨some "start",.Constant (.int 1) ck cp,kp⟩] pos) (Zdx X.K te):=by
 intro pQ s σ H R I h;have hs:starEach [x] X.env=[(false,eval x X.env)]:=Zd hp;refine wpAny_Call_Name_kw (ld_blt I hg hm Zb3 (Zfr (by rw[hs];rfl) rfl ?_))
 rw[hs];refine evalArgs_kwB rfl (Calls.spliced_cons (thn (he pQ s σ H _ I h) fun u s1 ⟨v,H1,I1,rv,a,ea,⟨xs,sq⟩,q⟩=>Calls.spliced_nil ?_))
 subst ea;cases (show u=Value.ref a from rv)
 refine kws_cons (thn (pe_int pQ s1 σ H1 (fun v H=>v=.int 1/\H=H1) I1 ⟨rfl,rfl⟩) fun u2 s2 ⟨v2,H2,I2,r2,e2,e3⟩=>kws_nil ?_)
 subst e2;subst e3
 obtain⟨t,rfl⟩:=r2;obtain⟨its,_,p1,_⟩:=I2.list sq;obtain⟨⟨c,dct,dt,sl⟩,hl,hc,n,hd⟩:=id p1.isList;replace hc:c=.type "list":=hc;replace hd:dt=.seq its.toArray n:=hd;subst hc hd;refine Zf6 F.called_enumerate (by decide) rfl (Zdh _ _) (ZcD _ _) (fun obj=>ZbW obj _ _) F.entry_enumerate_new (Ud a its.toArray n dct sl t) ⟨hl,?_⟩
 have z1:(s2.heap.push { cls:=.type "list_iterator",data:=.fields #[.ref a,.int 0 0] }).objs.size=s2.heap.objs.size+1:=Heap.size_push ..;generalize hg1:s2.heap.push { cls:=.type "list_iterator",data:=.fields #[.ref a,.int 0 0] }=g1 at z1 ⊢;generalize hg2:g1.push { cls:=.type "enumerate",data:=.fields #[.none,.bool false,.ref s2.heap.objs.size,rawInt 1,.none,.none] }=g2
 have q1:IsEnum g2 (s2.heap.objs.size+1) s2.heap.objs.size ((0+1:Nat):Int) .none:=by rw[<-hg2,<-z1];exact bA _ rfl
 have q0:g2.IsListIter s2.heap.objs.size a 0:=by
  refine⟨{ cls:=.type "list_iterator",data:=.fields #[.ref a,.int 0 0] },?_,rfl,rfl⟩;rw[<-hg2,<-hg1];exact aO _ (bA _ rfl)
 have k2:∀ b o,s2.heap.get? b=some o->g2.get? b=some o:=fun b o e=>by rw[<-hg2,<-hg1];exact aO _ (aO _ e)
 show _/\_;rw[z1];refine⟨⟨_,q1,rfl⟩,wpAny_pyIter_enum q1 ?_⟩;refine⟨s2.heap.objs.size+1,[s2.heap.objs.size+1,s2.heap.objs.size],_,_,H2,rfl,I2.kept (t':=s2.toks) k2,JF _ _ a (Nat.succ_ne_self _),⟨⟨_,q1⟩,q0⟩,fun c hcm=>?_,q⟩
 have hc:s2.heap.objs.size<=c:=by
  simp only[aG,bB,or_false]at hcm;rcases hcm with rfl|rfl
  ·exact dP _ _
  ·exact aE _
 exact I2.fpOk hc (I2.hok.fresh hc)
theorem WP:∀ {xs:Li D}{k i:Nat}{x:D},xs[i]?=some x->(XR k xs)[i]?=some (.int ((k+i:Nat):Int),x)
 |[],_,_,_,h=>nomatch h
 |x :: xs,k,0,_,h=>by cases h;rfl
 |x :: xs,k,i+1,y,h=>by
  show(XR (k+1) xs)[i]?=_;rw[WP (show xs[i]?=some y from h),show k+1+i=k+(i+1) by omega]
theorem XE:∀ {xs:Li D}{k:Nat},(XR k xs).length=xs.length
 |[],_=>rfl
 |x :: xs,k=>congrArg (·+1) XE
theorem ZaB{K:Fg}{fi:Ev}{f:Ex}(E:Ends)(σ:L2.St)(H:Hp)(h:tS K (VZ i j fi f) E σ H):tFor (Zdx K (tE K fi)) (gTup K 2 (gCons (gName i) (gCons (gName j) gNil))) (tS K f) E σ H:=by
 obtain⟨ad,ρ,st,r,st',En,S,e,p⟩:=ZJ h;unfold VZ at e;split at e
 ·rename_i x st1 q1
  split at e
  ·rename_i xs ok hw
   cases x with
   |lst l=>
    have hw:(match st1[l]? with
     |some c=>some (c.2,fun s=>s[l]?=some c)
     |none=>none)=some (xs,ok):=hw
    cases hc:st1[l]? with
    |none=>rw[hc]at hw;cases hw
    |some c=>
    rw[hc]at hw;cases hw;refine⟨ad,ρ,st,.lst l,st1,En,S,q1,fun v ad1 H1 x1 S1 d1=>?_⟩
    obtain⟨a,rfl,ha⟩:=d1.ofLst;obtain⟨vs,rv,sq⟩:=S1.list ha (show st1[l]?=some (c.1,c.2) from hc);refine⟨a,rfl,⟨vs,sq⟩,_,⟨_,.mk (Good:=fun ad H=>LA ad H l a) (cZ _) (En.mono x1) S1 ha e (p.later x1)⟩,Wv (fun _ _ _ _ x g=>g.mono x) (fun ad H st g S o=>?_) fun k ad H st q g S o hq=>?_⟩
    ·obtain⟨vs,rv,sq⟩:=S.list g (show st[l]?=some (c.1,c.2) from o)
     exact⟨vs,sq,by rw[rv.length,XE]⟩
    ·obtain⟨vs,rv,sq⟩:=S.list g (show st[l]?=some (c.1,c.2) from o)
     have hk:k < c.2.length:=by rw[<-XE (k:=1)];exact(bN.mp hq).1
     have hg:=Lg hk;rw[WP (k:=1) hg]at hq;cases hq;obtain⟨w,ew,dw⟩:=rv.get hg;exact⟨.int ((1+k:Nat):Int),w,⟨vs,w,sq,ew⟩,.int _,dw,fun x H' ⟨pt,y1,e1,e2,e3,hy⟩=>⟨pt,e1,e2,by have z:=hy vs sq;rw[ew]at z;cases z;rw[e3,Nat.add_comm]⟩⟩
   |_=>exact Zb hw
  ·exact Zb e
 ·exact Zb e
theorem UF(K:Cxt X G F sc N)(h:Xl G sc it=some e):∃ p pos kp cp ck,it=.Call (.Name "enumerate" p) [e] [⟨some "start",.Constant (.int 1) ck cp,kp⟩] pos/\Gl X "enumerate"/\X.mg "enumerate"=none:=by
 obtain⟨⟨g,as,ks⟩,e1,h⟩:=aW.mp h;obtain⟨f,e2,h⟩:=aW.mp h;obtain⟨x,e3,h⟩:=aW.mp h;obtain⟨k,e4,h⟩:=aW.mp h;obtain⟨c,e5,h⟩:=aW.mp h;refine ZX h fun hc h2=>?_
 obtain⟨⟨h1,h3⟩,h4,hg,hb⟩:=hc
 injection h2 with h2
 obtain⟨p,q2⟩:=Y8 e2;obtain⟨pos,q1⟩:=Qn e1;obtain⟨ck,cp,q5⟩:=Zcx e5;obtain⟨ka,kv,kp⟩:=k;unfold ZdA at h1;split at h1
 ·have h1:=of_decide_eq_true h1
  rw[h4]at hg hb q2;refine⟨p,pos,kp,cp,ck,by rw[q1,show g=_ from q2,show as=_ from YE e3,show ks=_ from YE e4,show ka=_ from h3,show kv=_ from q5,h1,h2],K.glb _ hg,?_⟩
  unfold WT at hb;split at hb
  ·rename_i q;exact K.gl _ _ q
  ·cases hb
 ·cases h1
theorem WJ(K:Cxt X G F sc N)(h:Xw G sc it=some as):∃ p pos a b,it=.Call (.Name "zip" p) [a,b] [] pos/\as=[a,b]/\Gl X "zip"/\X.mg "zip"=none:=by
 obtain⟨bs,h1,h2⟩:=aW.mp h;obtain⟨p,pos,rfl,hg,hm⟩:=UH K h1;refine ZX h2 fun hl h3=>?_
 cases h3;cases as with
 |nil=>cases hl
 |cons a as=>cases as with
  |nil=>cases hl
  |cons b as=>cases as with
   |nil=>exact⟨p,pos,_,_,rfl,rfl,hg,hm⟩
   |cons _ _=>cases hl

theorem Zc9(ihA:ZU G F n)(ihS:ZO G F n)(K:CxtS X G F sc N)(hk:X.calm=true){c:CS}{x y:Str}{b:Li Stmt}{p:Pos}(hi:N.idxOf? x=some i)(hj:N.idxOf? y=some j)(hz:Xw G sc it=some as)(h:o2 (CS.forP i j) (cEs G n sc N as) (cSs G n sc N b)=some c):PS X (.For (.Tuple [.Name x p,.Name y p2] ctx tp) it b [] pos) (tS X.K (ex F c)):=by
 refine ZM (P:=fun c=>PS X _ (tS X.K (ex F c))) h fun ci cb hc hb=>?_
 obtain⟨p1,p3,a,b',rfl,rfl,hg,hm⟩:=WJ K.toCxt hz;obtain⟨A,_,pl,_⟩:=ihA X sc N K.toCxt _ ci hc;exact Zw (ps_for (passes K) hk (Zbh hg hm A pl) (pg_tup hk (pgs_cons (Yz K hi) (pgs_cons (Yz K hj) pgs_nil))) (ihS X sc N K _ cb hb) (ZK rfl)) ZaD
theorem Zc8(ihE:Zo G F n)(ihS:ZO G F n)(K:CxtS X G F sc N)(hk:X.calm=true){c:CS}{x y:Str}{b:Li Stmt}{p:Pos}(hi:N.idxOf? x=some i)(hj:N.idxOf? y=some j)(hz:Xl G sc it=some e)(h:o2 (CS.forE i j) (cE G n sc N e) (cSs G n sc N b)=some c):PS X (.For (.Tuple [.Name x p,.Name y p2] ctx tp) it b [] pos) (tS X.K (ex F c)):=by
 refine ZM (P:=fun c=>PS X _ (tS X.K (ex F c))) h fun ci cb hc hb=>?_
 obtain⟨p3,p4,p5,p6,ck,rfl,hg,hm⟩:=UF K.toCxt hz;exact Zw (ps_for (passes K) hk (ZcJ hg hm (Ze hc) (ihE X sc N K.toCxt _ ci hc).pe) (pg_tup hk (pgs_cons (Yz K hi) (pgs_cons (Yz K hj) pgs_nil))) (ihS X sc N K _ cb hb) (ZK rfl)) ZaB
theorem Zc6(ihE:Zo G F n)(ihS:ZO G F n)(K:CxtS X G F sc N)(hk:X.calm=true){c:CS}{x y z:Str}{b:Li Stmt}{p:Pos}(h:o3 (fun(p:Nat×Nat) (q:Nat×CE) b=>CS.for4 p.1 p.2 q.1 q.2 b) (o2 Prod.mk (N.idxOf? x) (N.idxOf? y)) (o2 Prod.mk (N.idxOf? z) (cE G n sc N it)) (cSs G n sc N b)=some c):PS X (.For (.Tuple [.Name x p,.Name y p2,.Name z p3] ctx tp) it b [] pos) (tS X.K (ex F c)):=
 XZ (P:=fun c=>PS X _ (tS X.K (ex F c))) h fun u v cb hu hv hb=>ZM (P:=fun u:Nat×Nat=>PS X _ (tS X.K (ex F (.for4 u.1 u.2 v.1 v.2 cb)))) hu fun i j hi hj=>ZM (P:=fun v:Nat×CE=>PS X _ (tS X.K (ex F (.for4 i j v.1 v.2 cb)))) hv fun l ci hl hc=>
  psN fun _ _=>rfl
theorem Zc4(ihE:Zo G F n)(ihS:ZO G F n)(K:CxtS X G F sc N)(hk:X.calm=true){c:CS}{x y:Str}{b:Li Stmt}{p:Pos}(hi:N.idxOf? x=some i)(hj:N.idxOf? y=some j)(h:o2 (CS.for2 i j) (cE G n sc N it) (cSs G n sc N b)=some c):PS X (.For (.Tuple [.Name x p,.Name y p2] ctx tp) it b [] pos) (tS X.K (ex F c)):=by
 refine ZM (P:=fun c=>PS X _ (tS X.K (ex F c))) h fun ci cb hc hb=>?_
 exact Zw (ps_for (passes K) hk (pi_list (ihE X sc N K.toCxt _ ci hc).pe) (pg_tup hk (pgs_cons (Yz K hi) (pgs_cons (Yz K hj) pgs_nil))) (ihS X sc N K _ cb hb) (ZK (env:=X.env) (Ze hc))) ZaA
theorem ZeZ(ihE:Zo G F n)(K:CxtS X G F sc N){c:CS}{x:Str}{p:Pos}(h:Zd4 sc N x m ap cp (cE G n sc N e)=some c):PS X (.Expr (.Call (.Attribute (.Name x p) m ap) [e] [] cp) pos) (tS X.K (ex F c)):=by
 refine ZX h fun hc h=>?_
 by_cases e1:m = "append"
 ·subst e1
  rw[if_pos rfl]at h;exact ZM (P:=fun c=>PS X _ (tS X.K (ex F c))) h fun i y hi hx=>Zw (ps_expr (pe_bm PySem.F.plainAttrs_list PySem.F.slot_list_append PySem.F.type_list_append mt_append (ZdH K.toCxt hc.1 hi) (pa1 (Ze hx) (ihE X sc N K.toCxt _ y hx).pe) rfl (by rw[Zd (Ze hx)];rfl) hc.2 (Zd (Ze hx)) rfl) rfl) Zch
 ·rw[if_neg e1]at h;cases h
theorem Zdf(ihA:ZU G F n)(K:CxtS X G F sc N){c:CS}{g:Str}{a:Expr}{gp ep:Pos}(h:Zf3 G sc N (WM G sc (cEs G n sc N) g (a :: as)) h0=some c):PS X (.Try [.Expr (.Call (.Name g gp) (a :: as) [] cp) ep] [h0] [] [] pos) (tS X.K (ex F c)):=by
 have h':=aW.mp h;clear h;obtain⟨⟨x,y,z,f,y'⟩,hq,h⟩:=h';dsimp only at h;obtain⟨xp,zp,fp,yp,fcp,ap,hp,rfl⟩:=Zdj hq
 ·split at h
  ·rename_i i l hGx
   split at h
   ·rename_i j hGf
    refine ZX h fun hc h=>XZ (P:=fun c=>PS X _ (tS X.K (ex F c))) h fun ni m ce hn hm hx=>?_
    obtain⟨⟨gx,gf⟩,yl,rfl,ly⟩:=hc;obtain⟨mx,_,hxs,_⟩:=K.gl x _ hGx;obtain⟨f0,fd0,pn0,F0,r0,m0,k0,b0⟩:=K.gl f _ hGf;unfold WM at hx;split at hx
    ·rename_i gi ps ds hG
     refine ZX hx fun hl hx=>Xa (P:=fun x=>PS X _ (tS X.K (ex F (.whl (.compT l (.var ni) x .nop) (.set m (.call j (.aC (.var ni) .aN) [])))))) hx fun cs hcs=>?_
     obtain⟨k,fa,fd,pn,Fk,hr,hmg,hk,hb⟩:=K.gl g _ hG;obtain⟨dvs,us,hd,hv,hbn⟩:=hb ((a :: as).length+ds.length - ps) (by omega)
     obtain⟨PAs,_,hp',_⟩:=ihA X.nox sc N (CxtS.toCxt (xk:=xc0) K.nox) (a :: as) cs hcs;rw[bK,Ba]at hp';intro pQ s σ H D I q;obtain⟨ad,ρ,st,r,st',E,S,e,p⟩:=ZJ q;have e:(match Zm (ev F cs) (VP (F gi) (ds.drop ((a :: as).length+ds.length - ps))) ρ st with
      |some (.dct [_] [.int c,.int k],st1)=>if (0<=k/\c.toNat < 1000)/\l.contains c.toNat=true/\exNums.contains c.toNat=true then (match YS m (ev F (.call j (.aC (.var ni) .aN) [])) (Zj ρ ni (.obj (c.toNat+1000 * k.toNat))) st1 with
       |some (.nx ρ',st2)=>some (Fl.nx (ρ'.set ni none),st2)
       |_=>none) else none
      |_=>none)=some (r,st'):=e
     split at e
     ·rename_i ky c kk st1 q1
      split at e
      ·rename_i cd
       split at e
       ·rename_i ρ' st2 q2
        cases e;unfold Zm at q1;split at q1
        ·rename_i u0 st0 q0
         cases u0 with
         |tup xs=>
          have q1:F gi (xs++ds.drop ((a :: as).length+ds.length - ps)) st0=some (.dct [ky] [.int c,.int kk],st1):=q1;obtain⟨em,xg⟩:=hxs _ (cC.mp cd.2.1);have hi:ni < ρ.length:=by
           rw[<-E.len,I.len,K.hN];exact(bN.mp (Ye hn)).1
          unfold YS at q2;split at q2
          ·rename_i d st2 q3
           cases q2;have q3:(match Zn (ZA ni) (evC (.tup [])) Ym (Zj ρ ni (.obj (c.toNat+1000 * kk.toNat))) st1 with
            |some (x,st1)=>Xd (F j) [] x st1
            |none=>none)=some (d,st'):=q3
           have q4:Zn (ZA ni) (evC (.tup [])) Ym (Zj ρ ni (.obj (c.toNat+1000 * kk.toNat))) st1=some (.tup [.obj (c.toNat+1000 * kk.toNat)],st1):=by
            unfold Zn ZA Zj;rw[cG hi];rfl
           rw[q4]at q3;obtain⟨q3,xp⟩:=ZdG (show YY (F j [.obj (c.toNat+1000 * kk.toNat)] st1)=_ from q3);refine ps_try (X:=X) (C0:=ClsTab.ca c.toNat) (ni:=ni) (ts:=tAsg (tCall (spD X.K (F j)) [] E0 (tCons (tVar ni) tNil)) (gName m)) K.st (by rw[K.hN];exact K.nd) Fk hr (K.glb g hl.1) hmg hk hbn hv PAs (K.glb x gx) mx em (by rw[K.hN];exact Ye hn) ?_ (fun ev=>pss_one ?_) (ZI hl.1) (ZI gx) (Zd hp'.1) (Ya hp'.2) pQ s σ H D I ?_
           ·exact K.sce _ yl
           ·have r1:Room 1 (Xm X ev).nox.A:=⟨fun z=>absurd z (by decide),r0.dp,r0.un⟩
            exact ps_set (X:=(Xm X ev).nox) (by show X.N.Nodup;rw[K.hN];exact K.nd) (show X.N[m]?=_ by rw[K.hN];exact Ye hm) (K.loc _ (X2 hm)) (pe_call (X:=(Xm X ev).nox) F0 r1 (K.glb f gf) m0 k0 b0 .nil QO (pa_cons (pe_var (show X.N[ni]?=_ by rw[K.hN];exact Ye hn) (K.vis _ ly) (Xq ly).1 (Xq ly).2) pa_nil) (ZI gf)) (Yq rfl) (.inl (K.fn _))
           ·have hk0:((kk.toNat:Nat):Int)=kk:=bJ cd.1.1
            have h1:(c.toNat+1000 * kk.toNat) % 1000=c.toNat:=by omega
            have h2:(c.toNat+1000 * kk.toNat) / 1000=kk.toNat:=by omega
            refine⟨ad,ρ,st,xs,st0,E,S,q0,fun vs ad1 H1 x1 S1 d1=>⟨fun v o H'=>v=.ref (ClsTab.ca c.toNat)/\∃ dx ad',o=some dx/\Ext ad1 H1 ad' H'/\StOk X.K ad' H' st1/\H' dx=some (.xd [("line",.int kk)]),⟨ad1,_,st0,_,st1,S1,d1.append (hd _ _),q1,fun v ad' H' _ _ z=>(by cases z),fun ad' H' dx x' S' h=>⟨rfl,dx,ad',rfl,x',S',h⟩⟩,fun ea C dx H' he hE=>?_⟩⟩
            obtain⟨hC,dx',ad',hdx,x',S',hx'⟩:=hE;cases hC;cases hdx;refine⟨rfl,.ref ea,cG (by rw[E.len];exact hi),?_⟩
            have den:Den X.K ad' H' (.ref ea) (.obj (c.toNat+1000 * kk.toNat)):=.obj (dx:=dx) (by rw[h1];exact⟨xg,cC.mp cd.2.2⟩) (by rw[h1];exact he) (by rw[h2,hk0];exact hx')
            refine⟨ad',[.obj (c.toNat+1000 * kk.toNat)],st1,d,st',S',.cons den .nil,q3,fun v ad2 H2 x2 S2 d2=>?_,xp _ _ _ _⟩
            exact p _ ad2 H2 (x1.trans (x'.trans x2)) S2 (((((E.mono x1).mono x').set ni den).mono x2).set m d2 |>.del ni)
          ·exact Zb q2
         |_=>exact Zb q1
        ·exact Zb q1
       ·exact Zb e
      ·exact Zb e
     ·exact Zb e
    ·exact Zb hx
   ·exact Zb h
  ·exact Zb h
theorem Zde(ihE:Zo G F n)(ihA:ZU G F n)(hA:Y5 G F n)(K:CxtS X G F sc N){c:CS}{b:Li Stmt}(h:Zf2 G sc N (cE G n sc N) (cEs G n sc N) b h0 hs=some c):PS X (.Try b (h0 :: hs) [] [] pos) (tS X.K (ex F c)):=by
 have h':=aW.mp h;clear h;obtain⟨s,h1,h⟩:=h';cases YE h1
 split at h
 ·rename_i p hp
  obtain⟨p1,p2⟩:=p;obtain⟨x,h2,h5⟩:=aW.mp h;obtain⟨x,h3,h6⟩:=aW.mp h5;obtain⟨q,rfl⟩:=Qm hp;cases YE h2
  obtain⟨q2,rfl⟩:=Y8 h3;exact Zdd ihE hA K h6
 ·obtain⟨e,h2,h5⟩:=aW.mp h
  obtain⟨⟨g,as⟩,h3,h6⟩:=aW.mp h5;obtain⟨q,rfl⟩:=Zce h2;obtain⟨q1,q2,rfl⟩:=Vf h3;split at h6
  ·rename_i hh
   cases hs with
   |nil=>cases as with
    |nil=>cases hh.2
    |cons _ _=>exact Zdf ihA K h6
   |cons _ _=>cases hh.1
  ·exact Zb h6
theorem Zc1(ihE:Zo G F n)(hA:Y5 G F n)(K:CxtS X G F sc N){c:CS}(h:Zfj G N tg e (cE G n sc N e)=some c):PS X (.Assign [tg] e pos) (tS X.K (ex F c)):=by
 have no:∀ {P:Prop},(none:Ot CS)=some c->P:=fun z=>nomatch z
 cases tg with
 |Name x p=>exact Zbu ihE hA K h
 |Tuple es ctx tp=>cases es with
  |nil=>exact no h
  |cons a es=>cases a with
   |Name _ _=>cases es with
    |nil=>exact no h
    |cons b es=>cases b with
     |Name _ _=>cases es with
      |nil=>exact Zdb ihE K h
      |cons c2 es=>cases c2 with
       |Name _ _=>cases es with
        |nil=>exact Zdc ihE K h
        |cons _ _=>exact no h
       |_=>exact no h
     |_=>exact no h
   |_=>exact no h
 |_=>exact no h
theorem Zc7(ihE:Zo G F n)(ihA:ZU G F n)(ihS:ZO G F n)(K:CxtS X G F sc N)(hk:X.calm=true){c:CS}{b:Li Stmt}(h:Zen G sc N (cE G n sc N) (cEs G n sc N) tg it (cSs G n sc N b)=some c):PS X (.For tg it b [] pos) (tS X.K (ex F c)):=by
 have no:∀ {P:Prop},(none:Ot CS)=some c->P:=fun z=>nomatch z
 cases tg with
 |Name x p=>
  unfold Zen at h;cases hr:XM G sc it with
  |some as=>
   rw[hr]at h;exact Zc5 ihA ihS K hk hr h
  |none=>
   rw[hr]at h;exact Zc3 ihE ihS K hk h
 |Tuple es ctx tp=>cases es with
  |nil=>exact no h
  |cons a es=>cases a with
   |Name x p=>cases es with
    |nil=>exact no h
    |cons b2 es=>cases b2 with
     |Name y p2=>cases es with
      |nil=>
       replace h:((o2 (fun i j=>og (i≠j) (some (i,j))) (N.idxOf? x) (N.idxOf? y)).join.bind fun p=>(match Xw G sc it with
        |some as=>o2 (CS.forP p.1 p.2) (cEs G n sc N as) (cSs G n sc N b)
        |none=>match Xl G sc it with
         |some e=>o2 (CS.forE p.1 p.2) (cE G n sc N e) (cSs G n sc N b)
         |none=>o2 (CS.for2 p.1 p.2) (cE G n sc N it) (cSs G n sc N b)))=some c:=h
       refine b_e h fun q hq h=>j_e hq fun hq=>ZM (P:=fun o=>o=some q->PS X _ (tS X.K (ex F c))) hq (fun i j hi hj e=>ZX e fun _ e=>?_) rfl
       cases e;cases hz:Xw G sc it with
       |some as=>
        rw[hz]at h;exact Zc9 ihA ihS K hk hi hj hz h
       |none=>
        rw[hz]at h;dsimp only at h;cases he:Xl G sc it with
        |some e=>
         rw[he]at h;exact Zc8 ihE ihS K hk hi hj he h
        |none=>
         rw[he]at h;exact Zc4 ihE ihS K hk hi hj h
      |cons c2 es=>cases c2 with
       |Name _ _=>cases es with
        |nil=>exact Zc6 ihE ihS K hk h
        |cons _ _=>exact no h
       |_=>exact no h
     |_=>exact no h
   |_=>exact no h
 |_=>exact no h
theorem Zc0(ihE:Zo G F n)(K:CxtS X G F sc N){c:CS}{k:Str}{p:Pos}(h:og (m = "append"/\(ap.endLine==cp.line)=true) (o2 CS.app2 (cE G n sc N (.Attribute o k p)) (cE G n sc N e))=some c):PS X (.Expr (.Call (.Attribute (.Attribute o k p) m ap) [e] [] cp) pos) (tS X.K (ex F c)):=by
 refine ZX h fun hc h'=>?_
 obtain⟨e1,hl⟩:=hc;subst e1;exact ZM (P:=fun c=>PS X _ (tS X.K (ex F c))) h' fun z y hz hx=>Zw (ps_expr (pe_bm PySem.F.plainAttrs_list PySem.F.slot_list_append PySem.F.type_list_append mt_append (ihE X sc N K.toCxt _ z hz).pe (pa1 (Ze hx) (ihE X sc N K.toCxt _ y hx).pe) rfl (by rw[Zd (Ze hx)];rfl) hl (Zd (Ze hx)) rfl) rfl) Zaw
theorem ZcZ(ihE:Zo G F n)(ihA:ZU G F n)(K:CxtS X G F sc N){c:CS}{v:Expr}(h:Zfh G sc N (cE G n sc N) (cEs G n sc N) v=some c):PS X (.Expr v pos) (tS X.K (ex F c)):=by
 have no:∀ {P:Prop},(none:Ot CS)=some c->P:=fun z=>nomatch z
 cases v with
 |Call f as kw cp=>cases f with
  |Attribute o m ap=>cases o with
   |Name x p=>
    replace h:(if m = "append" then (match (generalizing:=false) as,kw with
     |[e],[]=>Zd4 sc N x m ap cp (cE G n sc N e)
     |_,_=>none) else og (kw.isEmpty=true/\(ap.endLine==cp.line)=true/\as.length < 20) (o2 (fun o c=>CS.act (.meth (Yp m as.length G) o c)) (cE G n sc N (.Name x p)) (cEs G n sc N as)))=some c:=h
    split at h
    ·split at h
     ·exact ZeZ ihE K h
     ·exact no h
    ·refine ZX h fun hc h=>ZM (P:=fun c=>PS X _ (tS X.K (ex F c))) h fun o cs ho hcs=>?_
     cases kw with
     |cons _ _=>cases hc.1
     |nil=>exact Zw (ps_expr (Uo (pass_x K.xs) K.toCxt hc.2.1 hc.2.2 (ihE X sc N K.toCxt _ o ho).pe (ihA X sc N K.toCxt as cs hcs)) rfl) QC
   |Attribute o k p=>cases as with
    |nil=>exact no h
    |cons e es=>cases es with
     |nil=>cases kw with
      |nil=>exact Zc0 ihE K h
      |cons _ _=>exact no h
     |cons _ _=>exact no h
   |_=>exact no h
  |Name f fp=>cases kw with
   |nil=>exact ZeY ihA K h
   |cons _ _=>exact no h
  |_=>exact no h
 |_=>exact no h
omit xk
theorem Uu(ihE:Zo G F n)(ihA:ZU G F n)(ihS:ZO G F n)(hA:Y5 G F n):UC G F (n+1):=by
 intro xk X sc N K s c h;have no:∀ {P:Prop},(none:Ot CS)=some c->P:=fun z=>nomatch z
 cases s with
 |Assign tgs e pos=>cases tgs with
  |nil=>exact no h
  |cons t ts=>cases ts with
   |cons _ _=>cases t with
    |Attribute o k p=>cases o<;>exact no h
    |_=>exact no h
   |nil=>cases t with
    |Subscript o k p=>exact Zc2 ihE K h
    |Attribute o k p=>cases o with
     |Name x q=>exact Zda ihE K h
     |_=>exact no h
    |_=>exact Zc1 ihE hA K h
 |Try b hs oe fb pos=>cases hs with
  |nil=>exact no h
  |cons h0 hs=>cases oe with
   |cons _ _=>exact no h
   |nil=>cases fb with
    |cons _ _=>exact no h
    |nil=>exact Zde ihE ihA hA K h
 |Return e pos=>cases e with
  |none=>exact no h
  |some e=>exact Ze0 ihE K h
 |If e a b pos=>exact ZfX ihE ihS K h
 |For t it b oe pos=>cases oe with
  |cons _ _=>exact no h
  |nil=>exact ZX h fun hl h=>Zc7 ihE ihA ihS K (K.calm hl) h
 |Expr v pos=>exact ZcZ ihE ihA K h
 |Pass pos=>
  cases (show some CS.skip=some c from h)
  exact Zw ps_pass V5
 |Break pos=>
  cases (show some CS.brk=some c from h)
  exact Zw ps_break Zci
 |Raise a b pos=>exact Zbv ihE K h
 |Continue pos=>
  cases (show some CS.cont=some c from h)
  exact Zw ps_continue Zax
 |_=>exact no h
theorem VC(ihS:UC G F n)(ihSs:ZO G F n):ZO G F (n+1):=by
 intro xk X sc N K s c h;cases s with
 |nil=>
  simp only[cSs]at h;cases h;exact QQ pss_nil V5
 |cons s r=>
  exact ZM (P:=fun c=>PSs X _ (tS X.K (ex F c))) (show o2 CS.seq (cS G n sc N s) (cSs G n sc N r)=some c from h) fun a b ha hb=>QQ (pss_cons (ihS X sc N K s a ha) (ihSs X sc N K r b hb)) Zct
end
variable [ClsTab]
def YA(G:Gs)(F:Nat->Fn):Prop:=∀ n,Zo G F n->(∀ X sc N,Cxt X G F sc N->∀ elt gens sc2 pos c,cE G (n+1) sc N (.ListComp elt gens sc2 pos)=some c->SE X F (.ListComp elt gens sc2 pos) c)/\Y5 G F (n+1)
theorem W1{G:Gs}{F:Nat->Fn}(hc:YA G F):∀ n,(Zo G F n/\ZU G F n/\Vc G F n)/\UC G F n/\ZO G F n/\Y5 G F n
 |0=>⟨⟨fun X sc N K e c h=>(nomatch (show(none:Ot CE)=some c from h)),fun X sc N K e c h=>(nomatch (show(none:Ot CE)=some c from h)),fun X sc N K e c h=>(nomatch (show(none:Ot CE)=some c from h))⟩,fun X sc N K e c h=>(nomatch (show(none:Ot CS)=some c from h)),fun X sc N K e c h=>(nomatch (show(none:Ot CS)=some c from h)),fun X sc N K x i p elt gens sc2 epos pos c _ h=>(nomatch (show(none:Ot CE)=some c from h))⟩
 |n+1=>by
  obtain⟨⟨hE,hA,hO⟩,hS,hSs,hCA⟩:=W1 hc n;exact⟨⟨U6 hE hA hO (hc n hE).1,Us hE hA,Ut hE⟩,Uu hE hA hSs hCA,VC hS hSs,(hc n hE).2⟩
def JO(K:Fg)(G:Gs)(T:Nat->Ot FD)(x y:Str)(i:Nat)(f:Ad)(fd:FuncData)(pn N:Li Str):Prop:=∃ (st:Stmt) (oc:vL) (od:Ot Ad) (dV kV doc pm:vL) (an:Ot Ad) (cdv ct:vL) (osl:Array (Ot vL)) (code:CS),
  fd=PySem.W.fnOf x y (defArgs st) (defBody st) (defScope st) dV kV doc pm an cdv ct/\K.lookup f=some ⟨oc,od,.func fd,osl⟩/\PySem.W.codeIn K cdv y=true/\FnScope N pn (defScope st)/\(∀ y∈N,Loc (defScope st) y) /\
  cSs G 60 (defScope st) N (defBody st)=some code/\T i=some ⟨pn.length,N.length,code⟩
structure DefOk(K:Fg)(mg:Str->Option Value)(G:Gs)(T:Nat->Option FD)(x:Str)(i:Nat)(ds:List D)(f:Addr)(fd:FuncData)(pn N:List Str):Prop where
 ob:JO K G T x x i f fd pn N
 kp:PySem.W.keepIn K (.ref f)=true
 at_:mg x=some (.ref f)
 bn:∀ m,m<=ds.length->∃ dvs us,(∀ ad H,Dens K ad H dvs (ds.drop m))/\Vals dvs us/\Binds K fd pn us
def Qj(K:Fg)(mg:Str->Ot vL)(x:Str)(i:Nat)(l:Li Nat):Prop:=mg x=some (.ref (ClsTab.ca i))/\(∀ c∈exNums,PySem.W.kitOne K (.ref (ClsTab.ca c)) (.ref (ClsTab.ca i))=some (l.contains c))/\(∀ c∈l,PySem.W.exmOne K (.ref (ClsTab.ca c)) (.ref (ClsTab.ca i))=some true/\XG K (ClsTab.ca c)) /\
 (i∈exNums->∃ (fI:Ad) (fd:FuncData) (pn:Li Str),XCls K (ClsTab.ca i) fI "line"/\(∀ P w base,FnOk P w K mg base CX0 1 fI fd pn (spI (ClsTab.ca i) "line"))/\Binds K fd pn [])
structure MethOk(K:Fg)(G:Gs)(T:Nat->Option FD)(C:Addr)(x y:Str)(i:Nat)(f:Addr)(fd:FuncData)(pn N:List Str):Prop where
 ob:JO K G T x y i f fd pn N
 mt:Meth K C x f
 bn:Binds K fd pn []
structure Text(Pm:Params)(K:Fg)(mg:Str->Option Value)(G:Gs)(T:Nat->Option FD):Prop where
 cst:∀ x d,G.lookup x=some (.cst d)->∃ v u,mg x=some u/\RelV v u/\∀ ad H,Den K ad H v d
 blt:∀ x,G.lookup x=some .blt->mg x=none
 dct:∀ x ks ds,G.lookup x=some (.dct ks ds)->Qi Pm K mg x ks ds
 fn:∀ x i ps ds,G.lookup x=some (.fn i ps ds)->∃ f fd pn N,DefOk K mg G T x i ds f fd pn N
 exc:∀ x i l,G.lookup x=some (.exc i l)->Qj K mg x i l
 fnq:∀ x i,G.lookup x=some (.fnq i)->∃ f fd pn N,DefOk K mg (ZY G) T x i [] f fd pn N
 cls:∀ x i ms subs,G.lookup x=some (.cls i ms subs)->(mg x=some (.ref (ClsTab.ca i))/\NewOk K (ClsTab.ca i)) /\
  ∀ m j ps,ms.lookup m=some (j,ps)->∃ y f fd pn N,MethOk K G T (ClsTab.ca i) m y j f fd pn N
variable{F:Nat->Fn}{pn:Li Str}
section
variable {P:Program}{w:World}{K:Fg}{mg:Str->Ot vL}{base:Heap}{G:Gs}{T:Nat->Ot FD}
theorem ZbH{x:Str}(h:YO sc x=true):Vis sc x:=by
 unfold YO at h;rw[Ba]at h;have h:=h.2;split at h
 ·rename_i q;exact .inl q
 ·rename_i q;exact .inr (.inl q)
 ·rename_i q;exact .inr (.inr q)
 ·cases h
theorem QA{x:Str}(h:Zq sc x=true):sc.names.lookup x=some .globalImplicit:=by
 unfold Zq at h;rw[Ba]at h;have h:=h.2;split at h
 ·rename_i q;exact q
 ·cases h
theorem Qo{x:Str}(h:Wr sc x=true):sc.names.lookup x=some .cell\/sc.names.lookup x=some .free:=by
 unfold Wr at h;split at h
 ·rename_i q;exact .inl q
 ·rename_i q;exact .inr q
 ·cases h
theorem Jo(h:Dens K ad H vs ds)(hl:ds.length<=N.length):EnvOk K ad H (L2.start N vs) (ds.map some++List.replicate (N.length - ds.length) none):=by
 have e:=h.length;refine⟨by unfold L2.start;simp[e],fun i d q=>?_⟩
 by_cases hi:i < ds.length
 ·rw[bU (by simpa using hi),aU,Lg hi]at q
  have q':ds[i]=d:=by simpa using q
  have g:ds[i]?=some d:=by rw[Lg hi,q']
  obtain⟨v,e1,e2⟩:=h.get g;refine⟨v,?_,e2⟩;unfold L2.start;rw[bU (by simpa[e] using hi),aU,e1]
  rfl
 ·rw[bV (by simpa using hi),eI]at q
  split at q<;>cases q
theorem Zaq{k:Nat}(hk:3<=k\/ZN G=false)(hc:YA G F)(gl:∀ A,Room k A->∀ y g,G.lookup y=some g->GOk P w K mg base A F y g){x y:Str}{f:Ad}{fd:FuncData}{g:Fn}(hg:∀ c,T i=some c->g=fnD F c)(ob:JO K G T x y i f fd pn N):FnOk P w K mg base (CX1 P w) (k+1) f fd pn (spD K g):=by
 obtain⟨st,oc,od,dV,kV,doc,pm,an,cdv,ct,osl,code,rfl,lk,hcd,S,hloc,hcode,hT⟩:=ob;have hrun:g=fnD F ⟨pn.length,N.length,code⟩:=hg _ hT;refine fn_of (k:=k) lk hcd S (fun vs H Q E h=>?_) (fun A outer s H vs Q E hr h=>?_)
 ·obtain⟨ad,es,st,d,st',_,hd,e,_⟩:=h
  rw[hrun]at e;unfold fnD at e;split at e
  ·rename_i hl
   rw[hd.length];exact hl
  ·exact Zb e
 ·obtain⟨ad,es,s0,d,st',S0,hd,e,p⟩:=h
  rw[hrun]at e;unfold fnD at e;split at e
  ·rename_i hl
   have lo:ZN G=true->3<=k:=fun z=>hk.elim id fun w=>by rw[z]at w;cases w
   have C:CxtS (xk:=⟨E⟩) (cxOf (CX1 P w) P w K mg base N y (defScope st) f cdv A outer s H E) G F (defScope st) N:=CxtS.mk (xk:=⟨E⟩) {
    hN:=rfl
    vis:=fun y hy=>ZbH hy
    glb:=fun y hy=>QA hy
    calm:=fun z=>Option.isNone_iff_eq_none.mpr (hr.hd (lo z))
    hu:=hr.units
    gl:=gl _ hr
    cel:=fun y hy=>Qo hy } S.nd hloc (fun _=>rfl) PassesOwn.leaving (fun _ _ _ _ z=>xs_leave z) (fun z=>hr.mono (by have:=lo z;omega)) ⟨rfl,rfl⟩ (fun _ z=>z)
   have B:PSs (cxOf (CX1 P w) P w K mg base N y (defScope st) f cdv A outer s H E) (defBody st) (tS (xk:=⟨E⟩) K (ex F code)):=by
    letI:XcK:=⟨E⟩
    exact(W1 hc 60).2.2.1 _ _ _ C _ _ hcode
   have hpl:pn.length<=N.length:=by have:=congrArg List.length S.pre;rw[bF]at this;omega
   have E0':=Jo (N:=N) hd (by rw[show es.length=pn.length from hl];exact hpl)
   refine⟨_,B,?_⟩;split at e
   ·rename_i d' st1 q
    cases e;exact Yr (xk:=⟨E⟩) E0' S0 q p
   ·rename_i ρ st1 q
    cases e;exact Yr (xk:=⟨E⟩) E0' S0 q fun σ1 ad1 H1 x1 S1 E1=>(p.1.later x1).at S1 .non
   ·exact Zb e
  ·exact Zb e
theorem Za7{k:Nat}{f:Ad}{fd:FuncData}:FnOk P w K mg base (CX1 P w) k f fd pn (spD K (run T 0 i)):=by
 refine⟨fun vs H Q E h=>?_,fun A outer s H args us vs Q E _ _ _ _ h=>?_⟩
 ·obtain⟨_,_,_,_,_,_,_,e,_⟩:=h;cases e
 ·obtain⟨_,_,_,_,_,_,_,e,_⟩:=h;cases e
theorem Zbp(c:FD)(h:T i=some c):run T (n+1) i=fnD (run T n) c:=by
 show(match T i with|some f=>fnD (run T n) f|none=>fun _ _=>none)=_
 rw[h]
theorem Zbn{x:Str}{g:GV}(h:(ZY G).lookup x=some g):G.lookup x=some g/\(g=.blt\/∃ i l,g=.exc i l):=by
 obtain⟨y,_,hy⟩:=dW.mp (mem_of_lookup h);split at hy
 ·rename_i q;cases hy;exact⟨q,.inl rfl⟩
 ·rename_i q;cases hy;exact⟨q,.inr ⟨_,_,rfl⟩⟩
 ·exact Zb hy
theorem Zak{x:Str}(h:Qj K mg x i l):GOk P w K mg base A F x (.exc i l):=⟨h.1,h.2.1,h.2.2.1,fun hi=>let ⟨fI,fd,pn,a,b,c⟩:=h.2.2.2 hi;⟨fI,fd,pn,a,b P w base,c⟩⟩
variable (hc:∀ n,YA G (run T n)) (hq:∀ n,YA (ZY G) (run T n)) (hl:ZN (ZY G)=false)
include hc hq hl
theorem JS(X:Text w.params K mg G T):∀ (n:Nat) {x y:Str}{i:Nat}{f:Ad}{fd:FuncData}{pn N:Li Str},JO K G T x y i f fd pn N->FnOk P w K mg base (CX1 P w) (2 * n+2) f fd pn (spD K (run T n i))
 |0,_,_,_,_,_,_,_,_=>Za7
 |n+1,_,_,_,_,_,_,_,ob=>Zaq (k:=2 * n+3) (.inl (by omega)) (hc n) (fun A hr y g hg=>by
  have ih:=fun {x y:Str}{i:Nat}{f:Ad}{fd:FuncData}{pn N:Li Str} (ob:JO K G T x y i f fd pn N)=>JS X n ob
  cases g with
  |cst d=>exact X.cst y d hg
  |blt=>exact X.blt y hg
  |dct ks ds=>exact X.dct y ks ds hg
  |exc i l=>exact Zak (X.exc y i l hg)
  |fnq i=>
   obtain⟨f,fd,pn,N,Dk⟩:=X.fnq y i hg;obtain⟨dvs,us,h1,h2,h3⟩:=Dk.bn 0 (bH _);refine⟨f,fd,pn,?_,hr.mono (by omega),Dk.at_,Dk.kp,?_⟩
   ·cases n with
    |zero=>exact Za7
    |succ n=>exact Zaq (k:=0) (.inr hl) (hq n) (fun A hr y g hg=>by
      obtain⟨h1,rfl|⟨i,l,rfl⟩⟩:=Zbn hg
      ·exact X.blt y h1
      ·exact Zak (X.exc y i l h1)) (fun c h=>Zbp c h) Dk.ob
   ·have e:dvs=[]:=by
     have:=(h1 [] (fun _=>none)).length
     simpa using this
    subst e;cases h2;exact h3
  |fn j qs es=>
   obtain⟨f,fd,pn,N,Dk⟩:=X.fn y j qs es hg;exact⟨2 * n+2,f,fd,pn,ih Dk.ob,hr.mono (by omega),Dk.at_,Dk.kp,Dk.bn⟩
  |cls i ms subs=>
   obtain⟨⟨h1,h2⟩,h4⟩:=X.cls y i ms subs hg;refine⟨h1,h2,fun m j ps hm=>?_⟩
   obtain⟨z,f,fd,pn,N,Mk⟩:=h4 m j ps hm;exact⟨2 * n+2,f,fd,pn,ih Mk.ob,hr,Mk.mt,Mk.bn⟩) (fun c h=>Zbp c h) ob
end
variable [ClsTab]
section
variable {ad:Li Ad}{H:Hp}{p:Ad}{xs ys:Li V}
theorem Vq(hp:H p=some (.lst xs)){a:Ad}:Z2 H a↔Z2 (upd H p (.lst ys)) a:=Qc (Vu hp rfl) rfl
theorem UQ{K:Fg}(hp:H p=some (.lst xs)):Keeps K ad ad H (upd H p (.lst ys)):=⟨fun h=>h.upd hp (by intro xs z;cases z),fun h=>⟨h,Vq hp⟩,fun m h=>by rw[upd_ne (ne_of h hp (by intro z;rw[z]at m;cases m))];exact h⟩
theorem Den.wr{K:Fg}(hp:H p=some (.lst xs)){v:V}(h:Den K ad H v d):Den K ad (upd H p (.lst ys)) v d:=h.map (UQ hp)
theorem Dens.wr{K:Fg}(hp:H p=some (.lst xs))(h:Dens K ad H vs ds):Dens K ad (upd H p (.lst ys)) vs ds:=h.map (UQ hp)
theorem EnvOk.wr{K:Fg}(hp:H p=some (.lst xs))(h:EnvOk K ad H σ ρ):EnvOk K ad (upd H p (.lst ys)) σ ρ:=⟨h.len,fun i d e=>let ⟨v,e1,e2⟩:=h.at_ i d e;⟨v,e1,e2.wr hp⟩⟩
theorem StOk.wr{K:Fg}(S:StOk K ad H st)(hp:H p=some (.lst xs))(hn:p∉ad):StOk K ad (upd H p (.lst ys)) st:=
 S.wrG (UQ hp) hn
theorem Ext.wr{ad0:Li Ad}{H0:Hp}(x:Ext ad0 H0 ad H)(hp:H p=some (.lst xs))(h0:H0 p=none):Ext ad0 H0 ad (upd H p (.lst ys)):=by
 refine⟨x.pre,fun b u m h=>?_,fun b o h n=>?_,x.new,fun i a h=>(x.kd i a h).trans (Vq hp)⟩
 ·rw[upd_ne (ne_of_none h h0)];exact x.tup b u m h
 ·rw[upd_ne (ne_of_none h h0)];exact x.keep b o h n
end
theorem Wu{c:Str->NameKind->Bool}:∀ {l:Li (Str×NameKind)}{y:Str},(l.map fun(n,k)=>if c n k=true then (n,NameKind.cell) else (n,k)).lookup y=(l.lookup y).map fun k=>if c y k=true then NameKind.cell else k
 |[],_=>rfl
 | (n,k) :: r,y=>by
  have ih:=@Wu c r y;rw[aT];have e:(if c n k=true then (n,NameKind.cell) else (n,k))=(n,if c n k=true then NameKind.cell else k):=by split<;>rfl
  show List.lookup y ((if c n k=true then (n,NameKind.cell) else (n,k)) :: _)=_
  rw[e,bL,bL];cases q:y==n with
  |true=>rw[beq_iff_eq.mp q];rfl
  |false=>exact ih
theorem Yh{env:PySem.Env}{y:Str}:(relabel sc env).names.lookup y=(sc.names.lookup y).map fun k=>if (k==NameKind.free&&env.scope.kind==.function&&env.kindOf y==some .cell)=true then NameKind.cell else k:=
 Wu (c:=fun n k=>k==NameKind.free&&env.scope.kind==.function&&env.kindOf n==some .cell)
theorem Yt{y:Str}{k:NameKind}(h:sc.names.lookup y=some k)(hk:k≠.free):(relabel sc env).names.lookup y=some k:=by
 rw[Yh,h];have:(k==NameKind.free)=false:=by simpa using hk
 show some (if (k==NameKind.free&&_&&_)=true then NameKind.cell else k)=some k
 rw[this,dL,dL,if_neg Bf]
theorem YF{y:Str}(h:sc.names.lookup y=some .free):(relabel sc env).names.lookup y=some .cell\/(relabel sc env).names.lookup y=some .free:=by
 rw[Yh,h];show(some (if _ then NameKind.cell else NameKind.free))=_\/(some (if _ then NameKind.cell else NameKind.free))=_
 split
 ·exact .inl rfl
 ·exact .inr rfl
theorem Vz{sc:Scope}{y:Str}(hc:∀ p∈sc.names,p.2≠.cell)(h:(relabel sc env).names.lookup y=some .cell\/(relabel sc env).names.lookup y=some .free):sc.names.lookup y=some .free:=by
 rw[Yh]at h;cases q:sc.names.lookup y with
 |none=>rw[q]at h;rcases h with h|h<;>cases h
 |some k=>
  rw[q]at h;cases k with
  |free=>rfl
  |cell=>
   have:∀ {l:Li (Str×NameKind)},l.lookup y=some .cell->∃ p∈l,p.2=.cell:=fun {l} e=>by
    induction l with
    |nil=>exact Zb e
    |cons a l ih=>
     obtain⟨n,k⟩:=a;rw[bL]at e;split at e
     ·cases e;exact⟨_,lQ7,rfl⟩
     ·obtain⟨p,hp,e'⟩:=ih e;exact⟨p,Lm _ hp,e'⟩
   obtain⟨p,hp,e⟩:=this q;exact absurd e (hc p hp)
  |_=>rcases h with h|h<;>simp at h
theorem Y7{env:PySem.Env}:∀ (l:Li (Str×NameKind)) (acc:Li (Str×Ad)),(∀ p∈l,p.2=.free->∃ c,env.cells.lookup p.1=some c)->
  ∃ cl,(forIn l acc fun(x:Str×NameKind) (r:Li (Str×Ad))=>(do
   if (x.2==NameKind.free)=true then
    let a <-cellOf env x.1
    pure (ForInStep.yield ((x.1,a) :: r))
   else pure (ForInStep.yield r):Sem (ForInStep (Li (Str×Ad)))))=pure cl /\
   (∀ y c,cl.lookup y=some c->acc.lookup y=some c\/((y,NameKind.free)∈l/\env.cells.lookup y=some c))/\(∀ y,(y,NameKind.free)∈l\/(acc.lookup y).isSome->(cl.lookup y).isSome)
 |[],acc,_=>⟨acc,by simp only[List.forIn_nil],fun y c h=>.inl h,fun y h=>by simpa using h⟩
 | (n,k) :: l,acc,h=>by
  by_cases hk:k=.free
  ·subst hk
   obtain⟨c0,hc0⟩:=h (n,.free) lQ7 rfl;obtain⟨cl,e,h1,h2⟩:=Y7 (env:=env) l ((n,c0) :: acc) fun p hp=>h p (Lm _ hp)
   refine⟨cl,?_,fun y c q=>?_,fun y q=>?_⟩
   ·rw[eD]
    simp only[beq_self_eq_true,if_true];have:cellOf env n=pure c0:=by unfold cellOf;rw[hc0]
    simp only[this,pure_bind];exact e
   ·rcases h1 y c q with z|⟨z1,z2⟩
    ·rw[bL]at z
     split at z
     ·rename_i hy
      cases z;rw[beq_iff_eq.mp hy];exact .inr ⟨lQ7,hc0⟩
     ·exact .inl z
    ·exact .inr ⟨Lm _ z1,z2⟩
   ·refine h2 y ?_
    rcases q with q|q
    ·rcases aG.mp q with z|z
     ·cases z
      exact .inr (by rw[bL];simp)
     ·exact .inl z
    ·refine .inr ?_
     rw[bL];split
     ·rfl
     ·exact q
  ·obtain⟨cl,e,h1,h2⟩:=Y7 (env:=env) l acc fun p hp=>h p (Lm _ hp)
   refine⟨cl,?_,fun y c q=>?_,fun y q=>?_⟩
   ·rw[eD]
    have:(k==NameKind.free)=false:=by simpa using hk
    simp only[this,Bool.false_eq_true,if_false,pure_bind];exact e
   ·rcases h1 y c q with z|⟨z1,z2⟩
    ·exact .inl z
    ·exact .inr ⟨Lm _ z1,z2⟩
   ·refine h2 y ?_
    rcases q with q|q
    ·rcases aG.mp q with z|z
     ·cases z;exact absurd rfl hk
     ·exact .inl z
    ·exact .inr q
theorem VR{sc:Scope}(h:∀ p∈sc.names,p.2=.free->∃ c,env.cells.lookup p.1=some c):∃ cl,closureFor sc env=pure cl/\(∀ y c,cl.lookup y=some c->env.cells.lookup y=some c)/\∀ y,(y,NameKind.free)∈sc.names->(cl.lookup y).isSome:=by
 obtain⟨cl,e,h1,h2⟩:=Y7 (env:=env) sc.names [] h;refine⟨cl,?_,fun y c q=>?_,fun y q=>h2 y (.inl q)⟩
 ·unfold closureFor
  rw[show(fun(x:Str×NameKind) (r:Li (Str×Ad))=>_)=_ from rfl]at e
  first|exact(by simp only[e,pure_bind]) | (simp only[bind_pure]at *;exact e)|exact e
 ·rcases h1 y c q with z|⟨_,z⟩
  ·exact Zb z
  ·exact z
variable [ClsTab]
variable{iter:Expr}{ifs:Li Expr}
theorem VS{R:Result->sH7->Prop}{s:sH7}{target:Expr}{scope:Scope}{it acc:vL}(I:Nat->sH7->Prop)(turn:∀ n s,I n s->wpAny (model prog w) A (pyNext it) (fun r s₁=>match r with
   |none=>R (.ok .next) s₁
   |some v=>wpAny (model prog w) A (letOwnedTupleGo target it v) (fun _ s₁'=>wpAny (model prog w) A (assign target env v) (fun _ s₂=>
     wpAny (model prog w) A (forIn ifs true fun c r=>if r=true then do let ok <-isTrue c env (eval c env);pure (ForInStep.yield ok) else pure (ForInStep.yield r)) (fun ok s₃=>
      if ok=true then wpAny (model prog w) A (eval elt env) (fun x s₄=>
       wpAny (model prog w) A (call (.builtin "list.append") [acc,x]) (fun _ s₅=>∃ m,m < n/\I m s₅) (notedBy (model prog w) A env fun e s'=>R (.error e) s') s₄) (notedBy (model prog w) A env fun e s'=>R (.error e) s') s₃
      else ∃ m,m < n/\I m s₃) (notedBy (model prog w) A env fun e s'=>R (.error e) s') s₂) (notedBy (model prog w) A env fun e s'=>R (.error e) s') s₁') (notedBy (model prog w) A env fun e s'=>R (.error e) s') s₁) (notedBy (model prog w) A env fun e s'=>R (.error e) s') s)(n:Nat)(h:I n s):codeAny (model prog w) A (.compLoop (.ListComp elt [⟨target,iter,ifs,0⟩] scope pos) 0 it acc env) R s:=by
 refine codeAny_loop rfl I (fun n s hI=>?_) n h
 show wpAny _ A ((compTurn (.ListComp elt [⟨target,iter,ifs,0⟩] scope pos) 0 it acc env).onRaise (fun x=>do noteFrame x env;theTreesLotGoes x)) _ _ s
 refine wpAny_noted ?_;rw[compTurn_list];refine aA (wpAny_standAt (aA (bD (turn n s hI) (fun r s₁ h₁=>?_) fun _ _ h'=>h')))
 cases r with
 |none=>exact aD h₁
 |some v=>
  refine aA (bD h₁ (fun _ s₁' h₁=>?_) fun _ _ h'=>h')
  refine aA (bD h₁ (fun _ s₂ h₂=>aA (bD h₂ (fun ok s₃ h₃=>?_) fun _ _ h'=>h')) fun _ _ h'=>h')
  cases ok with
  |false=>exact aD ⟨rfl,h₃⟩
  |true=>
   exact aA (aA (bD h₃ (fun x s₄ h₄=>aA (bD h₄ (fun _ s₅ h₅=>aD (aD ⟨rfl,h₅⟩)) fun _ _ h'=>h')) fun _ _ h'=>h'))
noncomputable def cxC(X:Cx)(N:Li Str)(env:PySem.Env)(s3:sH7)(H3:Hp)(fp:Li Ad)(pQ:Li (Ad×Obj)):Cx:=
 { X with N:=N,s₀:=s3,H₀:=H3,env:=env,outer:=X.stack,ex:=fp,fn:=fun _=>false,pn:=X.pn++pQ,xe:=fun _ _=>False }
variable{m0:Str->Ot vL}{σ':L2.St}
section
variable {X:Cx}{pQ:Li (Ad×Obj)}{σ:L2.St}{H H3:Hp}{s3:sH7}{sc2:Scope}{cl:Li (Str×Ad)}{fp:Li Ad}{N:Li Str}
theorem ZaN(I3:L2.Inv X pQ σ H3 s3){h4:Heap}{tk:Nat}(hk:sc2.kind=.function)(hcell:∀ p∈sc2.names,p.2≠.cell)(hns:h4.Ns s3.heap.objs.size m0)(up:∀ b u,s3.heap.get? b=some u->h4.get? b=some u)(c1:∀ y c,cl.lookup y=some c->X.env.cells.lookup y=some c)(c2:∀ y,sc2.names.lookup y=some .free->(cl.lookup y).isSome)(f3:∀ b∈fp,FpOk X pQ H3 b)(fb:∀ b∈fp,b < s3.heap.objs.size)(hσ:∀ (i:Nat) (y:Str) (v:V),N[i]?=some y->σ'[i]?=some (some v)->∃ j:Nat,X.N[j]?=some y/\σ[j]?=some (some v)/\sc2.names.lookup y=some .free/\(X.env.scope.names.lookup y=some .cell\/X.env.scope.names.lookup y=some .free))(hl:σ'.length=N.length) :
  L2.Inv (cxC X N (compEnvC sc2 cl s3.heap.objs.size X.env) s3 H3 fp pQ) [] σ' H3 { s3 with heap:=h4,toks:=tk } where
 ok:={
  mod:=I3.ok.mod
  kind:=hk
  glob:=I3.ok.glob
  blt:=I3.ok.blt
  above:=aE _
  inj:=fun x y c e e'=>I3.ok.inj x y c (c1 _ _ e) (c1 _ _ e')
  has:=fun x h=>by
   have e:=Vz (env:=X.env) hcell h;have:=c2 x e;cases q:cl.lookup x with
   |none=>rw[q]at this;cases this
   |some c=>exact⟨c,q⟩
  cab:=fun x c h=>nomatch h
  hd:=I3.ok.hd
  frames:=I3.ok.frames
  stk:=.inl rfl
  exf:=fun b hb=>⟨aZ (fb b hb),fun x c e=>(f3 b hb).2.2.2.2.1 x c (c1 _ _ e)⟩
  bs:=I3.bs
  bsz:=aH I3.ok.bsz I3.sz
  noex:=fun b o e hb=>by
   rcases (f3 b hb).2.2.2.1 with z|z
   ·exact I3.ok.noex b o e z
   ·exact absurd (aQ (aI e) (aH I3.ok.bsz z)) (bM _)
  exfs:=fun b hb hs=>by
   rcases aG.mp (I3.stkSub b hs) with z|z
   ·exact(f3 b hb).2.1 z
   ·exact(f3 b hb).2.2.1 z
  funs:=I3.stack
  frf:=I3.stkFree }
 os:=rfl
 bare:=I3.bare
 base:=Un.kept up
 loc:=⟨m0,hns,fun i y v e1 e2 e3=>by
  obtain⟨j,g1,g2,g3,g4⟩:=hσ i y v e1 e2;obtain⟨m,hn,hl'⟩:=I3.loc;obtain⟨u,r,l⟩:=hl' j y v g1 g2 (.inr g4);refine⟨u,r,.inr ⟨YF g3,?_⟩⟩;rcases l with⟨z,_⟩|⟨_,c,e,z⟩
  ·have z':X.env.scope.names.lookup y=some .local:=z
   rcases g4 with w|w<;>(rw[z']at w;cases w)
  ·have q:=c2 y g3
   cases q':cl.lookup y with
   |none=>rw[q']at q;cases q
   |some c'=>
    have:=c1 _ _ q';rw[e]at this;cases this
    obtain⟨o,ho,hd⟩:=z;exact⟨c,q',o,up c o ho,hd⟩⟩
 cell:=fun y c e=>by
  obtain⟨v,o,ho,hd⟩:=I3.cell y c (c1 _ _ e);exact⟨v,o,up c o ho,hd⟩
 free:=I3.hok.fresh (aE _)
 freeC:=fun y c e=>I3.freeC y c (c1 _ _ e)
 pin:=fun p hp=>by
  have hp':p∈X.pn++pQ:=by simpa[cxC] using hp
  obtain⟨e,n,ne,nf,d⟩:=I3.pin p hp';refine⟨up _ _ e,n,aZ (aI e),fun hs=>?_,d⟩
  rcases aG.mp (I3.stkSub _ hs) with z|z
  ·exact ne z
  ·exact nf z
 hok:=I3.hok.kept up
 len:=hl
theorem ZaM(I3:L2.Inv X pQ σ H3 s3){pins':Li (Ad×Obj)}{H':Hp}{s':sH7}(hC:env.locals=s3.heap.objs.size)(I':L2.Inv (cxC X N env s3 H3 fp pQ) pins' σ' H' s')(sb:Heap.SameBut s3.heap.objs.size s'.heap h')(f3:∀ b∈fp,FpOk X pQ H3 b):L2.Inv X pQ σ H' { s' with heap:=h' }:=by
 have u:Un (frs X.stack) fp H3 H' s3.heap s'.heap:=I'.base;have ne:∀ b o,s3.heap.get? b=some o->b≠s3.heap.objs.size:=fun b o e=>aZ (aI e)
 have fr:H' s3.heap.objs.size=none:=by have:=I'.free;rw[show(cxC X N env s3 H3 fp pQ).env.locals=s3.heap.objs.size from hC]at this;exact this
 refine I3.call' (s':={ s' with heap:=h' }) (ch:=fp) I'.os ⟨fun b o e n hb hx=>?_,fun b o e n hb hx=>?_,u.free,fun b o e hx=>?_,u.tups,u.frzs,u.tbls⟩ (fun b ob e=>?_) I'.bare (fun b hb=>?_)
 ·exact(sb.2 b (ne b o e)).trans (u.keep b o e n hb hx)
 ·obtain⟨sl,e1⟩:=u.slot b o e n hb hx
  exact⟨sl,(sb.2 b (ne b o e)).trans e1⟩
 ·obtain⟨o',e1⟩:=u.there b o e hx
  exact⟨o',(sb.2 b (ne b o e)).trans e1⟩
 ·refine(I'.hok b ob e).stay (fun c w' hc q=>(sb.2 c ?_).trans q) (fun _ q=>q) fun _ _ q=>q
  rintro rfl
  rcases hc with rfl|hc
  ·rw[fr]at e;cases e
  ·rw[fr]at hc;cases hc
 ·exact⟨(f3 b hb).2.2.2.1,(f3 b hb).2.1,(f3 b hb).2.2.2.2.1,(f3 b hb).2.2.2.2.2⟩
end
variable [ClsTab]
theorem Wy{N:Li Str}:∀ {l:Li Str}{fr:Li Nat},YR N l=some fr->fr.length=l.length/\∀ (i:Nat) (k:Nat),fr[i]?=some k->∃ y,l[i]?=some y/\N[k]?=some y
 |[],fr,h=>by cases h;exact⟨rfl,fun i k e=>by simp at e⟩
 |x :: r,fr,h=>by
  unfold YR at h;split at h
  ·rename_i a as e1 e2
   cases h;obtain⟨h1,h2⟩:=Wy e2;refine⟨by simp[h1],fun i k e=>?_⟩
   cases i with
   |zero=>simp at e;subst e;exact⟨x,rfl,Ye e1⟩
   |succ i=>exact h2 i k (by simpa using e)
  ·exact Zb h
theorem StOk.lt{s:sH7}{a:Ad}(I:L2.Inv X pQ σ H s)(S:StOk X.K ad H st)(h:a∈ad):a < s.heap.objs.size:=by
 obtain⟨i,hi,e⟩:=List.getElem_of_mem h;rcases S.has (show ad[i]?=some a by rw[Lg hi,e]) with⟨o,q⟩|⟨o,q⟩
 ·exact I.hok.lt q
 ·exact aI (I.kIn a o q)
variable{fr:Li Nat}
theorem Zaj{K:Fg}{bs:L2.St}{b:D->Li (Ot D)}(E:EnvOk K ad H σ ρ)(hd:EnvOk K ad H bs (b d)):EnvOk K ad H (bs++fr.map fun i=>(σ[i]?).join) (Ys b ρ fr d):=by
 refine⟨by simp[Ys,hd.len],fun i e h=>?_⟩
 unfold Ys at h;by_cases hi:i < (b d).length
 ·rw[bU hi]at h
  rw[bU (by rw[hd.len];exact hi)]
  exact hd.at_ i e h
 ·have hi:(b d).length<=i:=dX hi
  rw[bV hi,aU]at h;rw[bV (by rw[hd.len];exact hi),aU,hd.len]
  cases q:fr[i - (b d).length]? with
  |none=>rw[q]at h;cases h
  |some k=>
   rw[q]at h;have h:(ρ[k]?).join=some e:=by simpa using h
   have h2:ρ[k]?=some (some e):=by
    cases z:ρ[k]? with
    |none=>rw[z]at h;cases h
    |some o=>rw[z]at h;rw[show o=some e from h]
   obtain⟨w,e1,e2⟩:=E.at_ k e h2;exact⟨w,by simp[e1],e2⟩
def Xx(K:Fg)(tg:Expr)(xs:Li Str)(b:D->Li (Ot D))(ds:Li D):Prop:=
 ∀ X:Cx,X.K=K->X.calm=true->X.N.Nodup->(∀ (i:Nat) x,xs[i]?=some x->X.N[i]?=some x)->(∀ y∈xs,X.env.scope.names.lookup y=some .local)->∀ (pQ:Li (Ad×Obj)) (s:sH7) (os fv:L2.St) (H:Hp) (ad:Li Ad) (v:V) (u:vL) (d:D),os.length=xs.length->L2.Inv X pQ (os++fv) H s->RelV v u->Den K ad H v d->d∈ds->
  wpAny (model X.prog X.w) X.A (assign tg X.env u) (fun _ s'=>∃ bs,bs.length=xs.length/\EnvOk K ad H bs (b d)/\L2.Inv X pQ (bs++fv) H s') X.xe s
variable{px:Pos}
theorem VM{K:Fg}{x:Str}:Xx K (.Name x px) [x] one ds:=by
 intro X hK hc hN hx hl pQ s os fv H ad v u d ho I r dv _;obtain⟨o,rfl⟩:∃ o,os=[o]:=by match os,ho with|[o],_=>exact⟨o,rfl⟩
 have lx:=hl x lQ7;have pg:PG X (.Name x px) (gName 0):=pg_name hN (hx 0 x rfl) (.inl lx) (.inr lx);refine thn (pg pQ s _ H v u (fun σ' H'=>σ'=[some v]++fv/\H'=H) I r ⟨rfl,rfl⟩) fun _ s' ⟨σ',H',I',e,e'⟩=>?_
 subst e;subst e'
 exact⟨[some v],rfl,⟨rfl,fun i e h=>by
  cases i with
  |zero=>cases h;exact⟨v,rfl,dv⟩
  |succ i=>exact nomatch (show(none:Ot (Ot D))=some (some e) from h)⟩,I'⟩
theorem JV{K:Fg}{x y:Str}{py:Pos}{k:Nat}{ds:Li D}(hds:∀ d∈ds,∃ a b,d=.tup [a,b]):Xx K (.Tuple [.Name x px,.Name y py] k tp) [x,y] two ds:=by
 intro X hK hc hN hx hl pQ s os fv H ad v u d ho I r dv hd;obtain⟨o,o',rfl⟩:∃ o o',os=[o,o']:=by match os,ho with|[o,o'],_=>exact⟨o,o',rfl⟩
 obtain⟨a,b,rfl⟩:=hds d hd;have lx:=hl x lQ7;have ly:=hl y (Lm _ lQ7);have g1:PG X (.Name x px) (gName 0):=pg_name hN (hx 0 x rfl) (.inl lx) (.inr lx);have g2:PG X (.Name y py) (gName 1):=pg_name hN (hx 1 y rfl) (.inl ly) (.inr ly);have pg:PG X (.Tuple [.Name x px,.Name y py] k tp) _:=pg_tup hc (pgs_cons g1 (pgs_cons g2 pgs_nil))
 obtain⟨p,vs,rfl,ha,rv⟩:=dv.ofTup;cases rv with
 |cons da rv=>cases rv with
  |cons db rv=>
   cases rv;rename_i va vb;refine thn (pg pQ s _ H _ u (fun σ' H'=>σ'=[some va,some vb]++fv/\H'=H) I r ⟨p,[va,vb],rfl,by rw[hK];exact ha.sq,rfl,va,[vb],rfl,vb,[],rfl,rfl,rfl,rfl⟩) fun _ s' ⟨σ',H',I',e,e'⟩=>?_
   subst e;subst e'
   exact⟨[some va,some vb],rfl,⟨rfl,fun i e h=>by
    cases i with
    |zero=>cases h;exact⟨va,rfl,da⟩
    |succ i=>cases i with
     |zero=>cases h;exact⟨vb,rfl,db⟩
     |succ i=>exact nomatch (show(none:Ot (Ot D))=some (some e) from h)⟩,I'⟩
variable{cl:Li (Str×Ad)}{s3 s2:sH7}{ce cc:CE}{bd:D->Li (Ot D)}{J:It}{tn:Nat->Heap->Prop}{Good:Li Ad->Hp->Prop}{ad2:Li Ad}{H2:Hp}{use:Ot (vL->Sem Unit)}{R0:vL->sH7->Prop}{st1:Za}
section
variable {X:Cx}{G:Gs}{F:Nat->Fn}{sc sc2:Scope}{N xs:Li Str}
theorem Z8(h:YJ sc sc2 xs=true):sc2.kind=.function/\(∀ p∈sc2.names,p.2≠.cell)/\(∀ x∈xs,sc2.names.lookup x=some .local)/\(∀ p∈sc2.names,p.2=.local->sc2.names.lookup p.1=some .local)/\(xs++ZE sc2).Nodup/\∀ y∈ZE sc2,Wr sc y=true/\sc2.names.lookup y=some .free:=by
 unfold YJ at h;simp only[Ba,bE,bP,dG,dF,decide_eq_false_iff_not]at h;obtain⟨⟨⟨⟨⟨h1,h2⟩,h3⟩,h4⟩,h5⟩,h6⟩:=h;exact⟨h1,h2,h3,fun p hp e=>(h4 p hp).elim (fun z=>absurd e z) id,h5,h6⟩
theorem mem_frees{y:Str}:y∈ZE sc2↔(y,NameKind.free)∈sc2.names:=by
 unfold ZE;rw[bC];constructor
 ·rintro⟨⟨n,k⟩,h,rfl⟩
  rw[cP]at h;have:k=.free:=of_decide_eq_true h.2;rw[<-this];exact h.1
 ·intro h
  exact⟨(y,.free),cP.mpr ⟨h,by simp⟩,rfl⟩
theorem mem_of_lookup{y:Str}{k:NameKind}:∀ {l:Li (Str×NameKind)},l.lookup y=some k->(y,k)∈l
 |[],h=>by cases h
 | (n,q) :: l,h=>by
  rw[bL]at h;split at h
  ·rename_i e
   cases h;rw[beq_iff_eq.mp e];exact lQ7
  ·exact Lm _ (mem_of_lookup h)
theorem Zac(Kx:Cxt X G F sc N)(hsc:YJ sc sc2 xs=true){C:Ad}{H3:Hp}{fp:Li Ad}:Cxt (cxC X (xs++ZE sc2) (compEnvC sc2 cl C X.env) s3 H3 fp pQ) G F sc2 (xs++ZE sc2):=by
 obtain⟨h1,h2,h3,h4,h5,h6⟩:=Z8 hsc;exact {
  hN:=rfl
  vis:=fun y hy=>by
   rcases ZbH hy with z|z|z
   ·exact .inl (Yt z (by intro q;cases q))
   ·exact absurd rfl (h2 _ (mem_of_lookup z))
   ·rcases YF (env:=X.env) z with w|w
    ·exact .inr (.inl w)
    ·exact .inr (.inr w)
  glb:=fun y hy=>Yt (QA hy) (by intro q;cases q)
  calm:=Kx.calm
  hu:=Kx.hu
  gl:=Kx.gl
  cel:=fun y hy=>by
   rcases Qo hy with z|z
   ·exact absurd rfl (h2 _ (mem_of_lookup z))
   ·exact YF z
  }
theorem Zaa{ok:Za->Prop}{f c:D->Za->Res}{xs:Li D}{r:Li D×Za}(h:Z7 ok f c xs st=some r):ok st:=by
 unfold Z7 at h;split at h
 ·split at h
  ·assumption
  ·exact Zb h
 ·split at h
  ·assumption
  ·exact Zb h
noncomputable def evB(F:Nat->Fn)(c:CE)(b:D->Li (Ot D))(ρ:Env)(fr:Li Nat):D->Za->Res:=fun d s=>ev F c (Ys b ρ fr d) s
inductive CI(X:Cx)(tn:Nat->Heap->Prop)(fp:List Addr)(fv σ:L2.St)(ρ:Env)(w:Nat)(ds:List D)(go:List D->Za->Option (List D×Za))(Good:List Addr->Hp->Prop)(dd:Addr)(ad2:List Addr)(H2:Hp)(st':Za)(ys:List D)(m:Nat)(s:Shared):Prop
 |mk (i:Nat) (o0:L2.St) (H:Hp) (ad:List Addr) (st:Za) (vs:List V) (es zs:List D) (him:i+m=ds.length) (hol:o0.length=w) (I:L2.Inv X [] (o0++fv) H s) (ti:tn i s.heap) (fi:∀ b∈fp,H b=none) (En:EnvOk X.K ad H σ ρ) (S:StOk X.K ad H st) (Gd:Good ad H) (nd:dd∉ad) (hv:H dd=some (.lst vs)) (rv:Dens X.K ad H vs es) (hel:es.length<=i)
  (hcp:go (ds.drop i) st=some (zs,st')) (hys:es++zs=ys) (ex:Ext ad2 H2 ad H):CI X tn fp fv σ ρ w ds go Good dd ad2 H2 st' ys m s
theorem Ji(hlo:ZN G=true)(Kx:Cxt X G F sc2 N)(ihE:Zo G F n)(hce:cE G n sc2 N elt=some ce)(hcc:(ifs=[]/\cc=.cst (.bl true))\/∃ e,ifs=[e]/\cE G n sc2 N e=some cc){fp:Li Ad}{it:Ad}{ok:Za->Prop}(gm:∀ ad H ad' H',Ext ad H ad' H'->Good ad H->Good ad' H')(gw:∀ ad H p xs ys,H p=some (.lst xs)->Good ad H->Good ad (upd H p (.lst ys)))(go:∀ i ad H st,Good ad H->StOk X.K ad H st->ok st->i < ds.length->J.go i H)(stop:∀ i ad H st,Good ad H->StOk X.K ad H st->ok st->ds.length=i->J.stop i H)(yl:∀ i ad H st v H',Good ad H->StOk X.K ad H st->ok st->J.yld i H v H'->i < ds.length->Ext ad H ad H'/\StOk X.K ad H' st/\∃ d,ds[i]?=some d/\Den X.K ad H' v d)(T:Turn X.prog X.w X.K tg J fp it tn)(B:Xx X.K tg xs bd ds)(hN:X.N.Nodup)(hx:∀ (i:Nat) x,xs[i]?=some x->X.N[i]?=some x)(hl:∀ y∈xs,X.env.scope.names.lookup y=some .local)(exx:X.xe=fun _ _=>False)(fpk:∀ {H:Hp},(∀ b∈fp,H b=none)->∀ b∈fp,FpOk X [] H b){fv:L2.St}(ec:∀ {ad H bs d},EnvOk X.K ad H σ ρ->EnvOk X.K ad H bs (bd d)->EnvOk X.K ad H (bs++fv) (Ys bd ρ fr d)){dd:Ad}{ys:Li D}(D0:H2 dd=none)(hz:ds.length<=1000){R:Result->sH7->Prop}(done:∀ s5 σ5 H ad vs,L2.Inv X [] σ5 H s5->StOk X.K ad H st'->dd∉ad->H dd=some (.lst vs)->Dens X.K ad H vs ys->Ext ad2 H2 ad H->R (.ok .next) s5){s:sH7}{m:Nat}(h0:CI X tn fp fv σ ρ xs.length ds (Z7 ok (evB F ce bd ρ fr) (evB F cc bd ρ fr)) Good dd ad2 H2 st' ys m s) :
  codeAny (model X.prog X.w) X.A (.compLoop (.ListComp elt [⟨tg,iter,ifs,0⟩] sc2 pos) 0 (.ref it) (.ref dd) X.env) R s:=by
 refine VS _ (fun m s h=>?_) m h0
 cases h with
 |mk i o0 H ad st vs es zs him hol I ti fi En S Gd nd hv rv hel hcp hys ex=>
 have oks:=Zaa hcp;have none_of:∀ {E:vL->sH7->Prop}{α:Type}{t:Sem α}{R:α->sH7->Prop}{s0:sH7},wpAny (model X.prog X.w) X.A t R X.xe s0->wpAny (model X.prog X.w) X.A t R E s0:=fun h=>by
  rw[exx]at h;exact bD h (fun _ _ q=>q) fun _ _ q=>q.elim
 by_cases hi:i < ds.length
 ·refine thn (T.item X rfl rfl rfl (Kx.calm hlo) i [] s _ H _ I (fpk fi) ti (go i ad H st Gd S oks hi)) fun r s5 ⟨u,hr,h5'⟩=>?_
  subst hr;refine thn h5' fun _ s6 ⟨v,H',I6,r6,y6,t6,f6⟩=>?_
  obtain⟨x6,S6,d,ed,dv⟩:=yl i ad H st v H' Gd S oks y6 hi;have hd:ds.drop i=d :: ds.drop (i+1):=by
   rw[cN hi];rw[Lg hi]at ed;cases ed;rfl
  refine thn (none_of (B X rfl (Kx.calm hlo) hN hx hl _ s6 o0 _ H' ad v u _ hol (I6.pinned (fpk f6) (T.obj _ _ t6)) r6 dv (aV ed))) fun _ s7 ⟨bs,lb,Eb,I7⟩=>?_
  have En6:=En.mono x6;have En7:=ec En6 Eb
  -- behind the item's turn
  have again:∀ {H9:Hp}{s9:sH7}{ad9:Li Ad}{st9:Za}{vs9:Li V}{es9 zs9:Li D},L2.Inv X ([]++pinsAt fp s6.heap) (bs++fv) H9 s9->StOk X.K ad9 H9 st9->Good ad9 H9->dd∉ad9->H9 dd=some (.lst vs9)->Dens X.K ad9 H9 vs9 es9->es9.length<=i+1->
    Z7 ok (evB F ce bd ρ fr) (evB F cc bd ρ fr) (ds.drop (i+1)) st9=some (zs9,st')->es9++zs9=ys->Ext ad2 H2 ad9 H9->EnvOk X.K ad9 H9 σ ρ->
    ∃ m',m' < m/\CI X tn fp fv σ ρ xs.length ds (Z7 ok (evB F ce bd ρ fr) (evB F cc bd ρ fr)) Good dd ad2 H2 st' ys m' s9:=
   fun I9 S9 G9 n9 v9 r9 l9 c9 y9 x9 e9=>
    have pk:=fun b hb o e=>I9.pin (b,o) (bZ _ (bZ _ (mem_pinsAt hb e)))
    ⟨m - 1,by omega,.mk (i+1) bs _ _ _ _ _ _ (by omega) lb I9.unpinned (T.keep _ _ _ t6 fun b hb o e=>(pk b hb o e).1) (fun b hb=>let ⟨o,e,_⟩:=T.obj _ _ t6 b hb;(pk b hb o e).2.1) e9 S9 G9 n9 v9 r9 l9 c9 y9 x9⟩
  -- the tests
  have tests:∀ {k:Bool}{st2:Za},evB F cc bd ρ fr d st=some (.bl k,st2)->∀ {R:Bool->sH7->Prop}{E:vL->sH7->Prop},(∀ s8 H8 ad8,L2.Inv X ([]++pinsAt fp s6.heap) (bs++fv) H8 s8->Ext ad H' ad8 H8->StOk X.K ad8 H8 st2->R k s8)->
    wpAny (model X.prog X.w) X.A (forIn ifs true fun c r=>if r=true then do let ok <-isTrue c X.env (eval c X.env);pure (ForInStep.yield ok) else pure (ForInStep.yield r)) R E s7:=fun {k st2} q {R E} hR=>by
   rcases hcc with⟨rfl,rfl⟩|⟨e,rfl,he⟩
   ·cases q
    exact wpAny_tests_nil (hR s7 H' ad I7 (Ext.refl _ _) S6)
   ·refine wpAny_tests_one (thn (none_of ((ihE X sc2 _ Kx e cc he).pt _ s7 _ H' (fun k' H8=>k'=k/\∃ ad8,Ext ad H' ad8 H8/\StOk X.K ad8 H8 st2) I7 ⟨ad,Ys bd ρ fr d,st,k,st2,En7,S6,q,fun ad' H' x S'=>⟨rfl,ad',x,S'⟩⟩)) fun k' s8 ⟨H8,I8,e8,ad8,x8,S8⟩=>?_)
    subst e8;exact hR s8 H8 ad8 I8 x8 S8
  have n8:∀ {ad8 H8},Ext ad H' ad8 H8->dd∉ad8:=fun x8 z=>((x6.trans x8).new dd z).elim nd fun w=>by rw[hv]at w;cases w
  have v8:∀ {ad8 H8},Ext ad H' ad8 H8->H8 dd=some (.lst vs):=fun x8=>(x6.trans x8).keep dd _ hv nd
  have rv6:=rv.mono x6;have ex6:=ex.trans x6;have G6:=gm _ _ _ _ x6 Gd;clear x6 En Eb ex Gd S I hv rv;rw[hd]at hcp;unfold Z7 at hcp;rw[if_pos oks]at hcp;split at hcp
  ·rename_i st2 q1
   split at hcp
   ·rename_i y st3 q2
    split at hcp
    ·rename_i zs' st4 q3
     cases hcp;refine tests q1 fun s8 H8 ad8 I8 x8 S8=>?_
     rw[if_pos rfl];refine thn (none_of ((ihE X sc2 _ Kx elt ce hce).pe _ s8 _ H8 (fun v8 H9=>∃ ad9,Ext ad8 H8 ad9 H9/\StOk X.K ad9 H9 st3/\Den X.K ad9 H9 v8 y) I8 ⟨ad8,Ys bd ρ fr d,st2,y,st3,En7.mono x8,S8,q2,fun v8 ad' H' x S' dn=>⟨ad',x,S',dn⟩⟩)) fun u9 s9 ⟨v9,H9,I9,r9,ad9,x9,S9,d9⟩=>?_
     have x89:=x8.trans x9;have hv9:=v8 x89;have hlen:vs.length=es.length:=rv6.length;refine thn (none_of (mt_append (X:=X) _ s9 _ H9 (.ref dd) [v9] (.ref dd) [u9] (fun _ H10=>H10=upd H9 dd (.lst (vs++[v9]))) I9 rfl (.cons r9 .nil) ⟨dd,vs,v9,rfl,rfl,hv9,Nat.lt_of_le_of_lt (show vs.length<=1000 by omega) (by decide),rfl⟩)) fun u10 s10 ⟨v10,H10,I10,r10,e10⟩=>?_
     subst e10;have nd9:=n8 x89;exact again (vs9:=vs++[v9]) (es9:=es++[y]) (zs9:=zs') I10 (S9.wr hv9 nd9) (gw _ _ _ _ _ hv9 (gm _ _ _ _ x89 G6)) nd9 upd_same (((rv6.mono x89).append (.cons d9 .nil)).wr hv9) (by rw[aK,eJ];omega) q3 (by rw[<-hys,aM];rfl) ((ex6.trans x89).wr hv9 D0) ((En6.mono x89).wr hv9)
    ·exact Zb hcp
   ·exact Zb hcp
  ·rename_i st2 q1
   refine tests q1 fun s8 H8 ad8 I8 x8 S8=>?_
   rw[if_neg Bf];exact again I8 S8 (gm _ _ _ _ x8 G6) (n8 x8) (v8 x8) (rv6.mono x8) (by omega) hcp hys (ex6.trans x8) (En6.mono x8)
  ·exact Zb hcp
 ·refine thn (T.done X rfl rfl rfl (Kx.calm hlo) i [] s _ H _ I (fpk fi) ti (stop i ad H st Gd S oks (by omega))) fun r s5 ⟨hr,I5⟩=>?_
  subst hr;rw[dE (dX hi)]at hcp;unfold Z7 at hcp;rw[if_pos oks]at hcp;cases hcp;rw[aP]at hys;subst hys;exact done s5 _ H ad vs I5 S nd hv rv ex
theorem UE(hlo:ZN G=true)(Kx:Cxt X G F sc N)(ihE:Zo G F n)(hsc:YJ sc sc2 xs=true)(hfr:YR N (ZE sc2)=some fr)(hce:cE G n sc2 (xs++ZE sc2) elt=some ce)(hcc:(ifs=[]/\cc=.cst (.bl true))\/∃ e,ifs=[e]/\cE G n sc2 (xs++ZE sc2) e=some cc)(c1:∀ y c,cl.lookup y=some c->X.env.cells.lookup y=some c)(c2:∀ y,(y,NameKind.free)∈sc2.names->(cl.lookup y).isSome){fp:Li Ad}{it:Ad}{ok:Za->Prop}(gm:∀ ad H ad' H',Ext ad H ad' H'->Good ad H->Good ad' H')(gw:∀ ad H p xs ys,H p=some (.lst xs)->Good ad H->Good ad (upd H p (.lst ys)))(go:∀ i ad H st,Good ad H->StOk X.K ad H st->ok st->i < ds.length->J.go i H)(stop:∀ i ad H st,Good ad H->StOk X.K ad H st->ok st->ds.length=i->J.stop i H)(yl:∀ i ad H st v H',Good ad H->StOk X.K ad H st->ok st->J.yld i H v H'->i < ds.length->Ext ad H ad H'/\StOk X.K ad H' st/\∃ d,ds[i]?=some d/\Den X.K ad H' v d){dd:Ad}{h₁:Heap}{tk:Nat}{ys:Li D}(B:Xx X.K tg xs bd ds)(T:Turn X.prog X.w X.K tg J fp it tn)(t2:tn 0 s2.heap)(f2:∀ b∈fp,FpOk X pQ H2 b)(fb:∀ b∈fp,b < dd)(E2:EnvOk X.K ad2 H2 σ ρ)(S2:StOk X.K ad2 H2 st1)(g2:Good ad2 H2)(hcomp:Z7 ok (fun d s=>ev F ce (Ys bd ρ fr d) s) (fun d s=>ev F cc (Ys bd ρ fr d) s) ds st1=some (ys,st'))(hz:ds.length<=1000)(hp:Post X.K ad2 H2 (.lst st'.length) (st'++[(true,ys)]) Q)(hend:∀ C dd s5 H5 m',s5.heap.Ns C m'->(∀ h',Heap.SameBut C s5.heap h'->L2.Inv X pQ σ H5 { s5 with heap:=h' })->FpOk X pQ H5 C->Q (.ref dd) H5->compPost (model X.prog X.w) X.A X.xe use R0 (.ref dd) C (.ok .next) s5)  (D0:H2 dd=none) (I3:L2.Inv X pQ σ (upd H2 dd (.lst [])) s3) (z3:s3.heap.objs.size=dd+1) (nad:dd∉ad2) (hns₁:h₁.Ns s3.heap.objs.size m0) (up:∀ b u,s3.heap.get? b=some u->h₁.get? b=some u) (up0:∀ b u,s2.heap.get? b=some u->s3.heap.get? b=some u) :
  codeAny (model X.prog X.w) X.A (.compStart (.ListComp elt [⟨tg,iter,ifs,0⟩] sc2 pos) 0 (.ref it) (.ref dd) (compEnvC sc2 cl s3.heap.objs.size X.env)) (compPost (model X.prog X.w) X.A X.xe use R0 (.ref dd) s3.heap.objs.size) { s3 with heap:=h₁,toks:=tk }:=by
 obtain⟨h1,h2,h3,h4,h5,h6⟩:=Z8 hsc;have f3:∀ b∈fp,FpOk X pQ (upd H2 dd (.lst [])) b:=fun b hb=>⟨by rw[upd_ne (aZ (fb b hb))];exact(f2 b hb).1,(f2 b hb).2⟩
 obtain⟨fl,fg⟩:=Wy hfr;have I4:=ZaN (N:=xs++ZE sc2) (cl:=cl) (fp:=fp) (tk:=tk) (σ':=List.replicate xs.length none++fr.map fun i=>(σ[i]?).join) I3 h1 h2 hns₁ up c1 (fun y e=>c2 y (mem_of_lookup e)) f3 (fun b hb=>by rw[z3];exact Nat.lt_succ_of_lt (fb b hb)) (fun i y v e1 e2=>by
  by_cases hi:i < xs.length
  ·rw[bU (by simpa using hi),eI,if_pos hi]at e2;cases e2
  ·have hi:xs.length<=i:=dX hi
   rw[bV (by simpa using hi),aU,cV]at e2
   rw[bV hi]at e1;cases q:fr[i - xs.length]? with
   |none=>rw[q]at e2;cases e2
   |some k=>
    rw[q]at e2;have e2:(σ[k]?).join=some v:=by simpa using e2
    have e3:σ[k]?=some (some v):=by
     cases w:σ[k]? with
     |none=>rw[w]at e2;cases e2
     |some o=>rw[w]at e2;rw[show o=some v from e2]
    obtain⟨y',g1,g2⟩:=fg _ k q;rw[e1]at g1;cases g1
    obtain⟨k1,k2⟩:=h6 y (aV e1);exact⟨k,by rw[Kx.hN];exact g2,e3,k2,Kx.cel y k1⟩) (by simp[fl])
 have K':=Zac (cl:=cl) (C:=s3.heap.objs.size) (s3:=s3) (H3:=upd H2 dd (.lst [])) (fp:=fp) (pQ:=pQ) Kx hsc;have loop:=Ji (R:=compPost (model X.prog X.w) X.A X.xe use R0 (.ref dd) s3.heap.objs.size) (pos:=pos) (iter:=iter) hlo K' ihE hce hcc gm gw go stop yl T B h5 (fun i x e=>by show(xs++ZE sc2)[i]?=some x;rw[bU (bN.mp e).1];exact e) (fun y hy=>Yt (h3 y hy) (by intro q;cases q)) rfl (fun {H} hn b hb=>⟨hn b hb,by
  show b≠s3.heap.objs.size;rw[z3];exact aZ (Nat.lt_succ_of_lt (fb b hb)),fun hs=>(aG.mp (I3.stkSub b hs)).elim (f2 b hb).2.1 (f2 b hb).2.2.1,.inl hb,fun y c e=>(f2 b hb).2.2.2.2.1 y c (c1 _ _ e),fun p hp=>(f2 b hb).2.2.2.2.2 p (by simpa[cxC] using hp)⟩) (σ:=σ) (ρ:=ρ) (fr:=fr) (fun a b=>Zaj a b) (dd:=dd) (ad2:=ad2) (H2:=H2) (st':=st') (ys:=ys) D0 hz (fun s5 σ5 H ad vs I5 S nd hv rv ex=>by
   obtain⟨m',hn,_⟩:=I5.loc;refine hend s3.heap.objs.size dd s5 H m' hn (fun h' sb=>ZaM I3 rfl I5 sb f3) (I3.fpOk (aE _) I5.free) (hp (.ref dd) (ad++[dd]) H ⟨fun j a e=>YU (ex.pre j a e),ex.tup,ex.keep,fun b hb=>?_,ex.kd⟩ (S.adopt hv nd rv) (.lst ⟨by rw[<-S.len];exact ZB,Vu hv rfl⟩))
   rcases aS.mp hb with z|z
   ·exact ex.new b z
   ·rw[bG.mp z];exact .inr D0)
  (.mk 0 (List.replicate xs.length none) (upd H2 dd (.lst [])) ad2 st1 [] [] ys (cZ _) (cV ..) I4 (T.keep _ _ _ t2 fun b _ o e=>up b o (up0 b o e)) (fun b hb=>(f3 b hb).1) (E2.mono (Ext.laid D0)) (S2.laid D0) (gm _ _ _ _ (Ext.laid D0) g2) nad upd_same .nil (aE _) hcomp rfl (Ext.laid D0))
 exact codeAny_compStart_list loop (T.self X.A 0 _ _ _ (T.keep _ _ _ t2 fun b _ o e=>up b o (up0 b o e)) loop)
theorem Jh(hlo:ZN G=true)(Kx:Cxt X G F sc N)(ihE:Zo G F n)(hsc:YJ sc sc2 xs=true)(hfr:YR N (ZE sc2)=some fr)(hce:cE G n sc2 (xs++ZE sc2) elt=some ce)(hcc:(ifs=[]/\cc=.cst (.bl true))\/∃ e,ifs=[e]/\cE G n sc2 (xs++ZE sc2) e=some cc)(c1:∀ y c,cl.lookup y=some c->X.env.cells.lookup y=some c)(c2:∀ y,(y,NameKind.free)∈sc2.names->(cl.lookup y).isSome){fp:Li Ad}{it:Ad}{ok:Za->Prop}(Good:Li Ad->Hp->Prop)(gm:∀ ad H ad' H',Ext ad H ad' H'->Good ad H->Good ad' H')(gw:∀ ad H p xs ys,H p=some (.lst xs)->Good ad H->Good ad (upd H p (.lst ys)))(go:∀ i ad H st,Good ad H->StOk X.K ad H st->ok st->i < ds.length->J.go i H)(stop:∀ i ad H st,Good ad H->StOk X.K ad H st->ok st->ds.length=i->J.stop i H)(yl:∀ i ad H st v H',Good ad H->StOk X.K ad H st->ok st->J.yld i H v H'->i < ds.length->Ext ad H ad H'/\StOk X.K ad H' st/\∃ d,ds[i]?=some d/\Den X.K ad H' v d){ys:Li D}(I2:L2.Inv X pQ σ H2 s2)(B:Xx X.K tg xs bd ds)(T:Turn X.prog X.w X.K tg J fp it tn)(t2:tn 0 s2.heap)(f2:∀ b∈fp,FpOk X pQ H2 b)(E2:EnvOk X.K ad2 H2 σ ρ)(S2:StOk X.K ad2 H2 st1)(g2:Good ad2 H2)(hcomp:Z7 ok (fun d s=>ev F ce (Ys bd ρ fr d) s) (fun d s=>ev F cc (Ys bd ρ fr d) s) ds st1=some (ys,st'))(hz:ds.length<=1000)(hp:Post X.K ad2 H2 (.lst st'.length) (st'++[(true,ys)]) Q)(hend:∀ C dd s5 H5 m',s5.heap.Ns C m'->(∀ h',Heap.SameBut C s5.heap h'->L2.Inv X pQ σ H5 { s5 with heap:=h' })->FpOk X pQ H5 C->Q (.ref dd) H5->compPost (model X.prog X.w) X.A X.xe use R0 (.ref dd) C (.ok .next) s5) :
  wpAny (model X.prog X.w) X.A (newList []) (fun acc s₃=>wpAny (model X.prog X.w) X.A (newFunctionEnv sc2 X.env.globals cl [] X.env.qual none .none (some X.env)) (fun cenv s₄=>
   codeAny (model X.prog X.w) X.A (.compStart (.ListComp elt [⟨tg,iter,ifs,0⟩] sc2 pos) 0 (.ref it) acc { cenv with scope:=relabel sc2 X.env }) (compPost (model X.prog X.w) X.A X.xe use R0 acc cenv.locals) s₄) X.xe s₃) X.xe s2:=by
 obtain⟨h1,h2,h3,h4,h5,h6⟩:=Z8 hsc;have fb:∀ b∈fp,b < s2.heap.objs.size:=fun b hb=>let ⟨o,e,_⟩:=T.obj 0 _ t2 b hb;aI e
 refine wpAny_newObj_type (wpAny_newFunctionEnv h2 (by intro y hy;simp at hy) (fun h₁ hns₁ hsb₁=>?_) h1)
 dsimp only at hns₁ hsb₁ ⊢;have I3:L2.Inv X pQ σ (upd H2 s2.heap.objs.size (.lst [])) { s2 with heap:=s2.heap.push { cls:=.type "list",dict:=none,data:=.seq ([]:Li vL).toArray } }:=I2.lnew (its:=[]) (t':=s2.toks) .nil (bH _)
 have e3:s2.heap.push { cls:=.type "list",dict:=none,data:=.seq ([]:Li vL).toArray }=({ s2 with heap:=s2.heap.push { cls:=.type "list",dict:=none,data:=.seq ([]:Li vL).toArray } }:sH7).heap:=rfl
 exact UE hlo Kx ihE hsc hfr hce hcc c1 c2 gm gw go stop yl B T t2 f2 fb E2 S2 g2 hcomp hz hp hend (I2.hok.fresh (aE _)) I3 (Heap.size_push ..) (fun z=>absurd (S2.lt I2 z) (bM _)) hns₁ (fun b u e=>hsb₁.extBut b u (aZ (aI e)) (aO _ e)) (fun b u e=>aO _ e)
end
variable [ClsTab]
def Q4(X:Cx)(σ:L2.St)(ρ:Env)(ds:Li D)(ok:Za->Prop)(st1 st2:Za)(ys:Li D)(Q:VK)(J:It)(H1:Hp):Prop:=
 ∃ (ad1:Li Ad) (Good:Li Ad->Hp->Prop),(∀ ad H ad' H',Ext ad H ad' H'->Good ad H->Good ad' H')/\(∀ ad H p xs ys,H p=some (.lst xs)->Good ad H->Good ad (upd H p (.lst ys))) /\
  (∀ i ad H st,Good ad H->StOk X.K ad H st->ok st->i < ds.length->J.go i H)/\(∀ i ad H st,Good ad H->StOk X.K ad H st->ok st->ds.length=i->J.stop i H)/\(∀ i ad H st v H',Good ad H->StOk X.K ad H st->ok st->J.yld i H v H'->i < ds.length->Ext ad H ad H'/\StOk X.K ad H' st/\∃ d,ds[i]?=some d/\Den X.K ad H' v d) /\
  EnvOk X.K ad1 H1 σ ρ/\StOk X.K ad1 H1 st1/\Good ad1 H1/\Post X.K ad1 H1 (.lst st2.length) (st2++[(true,ys)]) Q
variable{st2:Za}
theorem J7{ys:Li D}{f:Ev}(E:EnvOk X.K ad H σ ρ)(S:StOk X.K ad H st)(q:f ρ st=some (.tup ds,st1))(p:Post X.K ad H (.lst st2.length) (st2++[(true,ys)]) Q) :
  iTup X.K (tE X.K f) σ H (Q4 X σ ρ ds (fun _=>True) st1 st2 ys Q):=by
 refine⟨ad,ρ,st,.tup ds,st1,E,S,q,fun v ad1 H1 x1 S1 d1=>?_⟩
 obtain⟨a,vs,rfl,ha,rv⟩:=d1.ofTup;refine⟨a,rfl,⟨vs,(ha).sq⟩,ad1,fun ad H=>TupAt X.K H a vs/\Dens X.K ad H vs ds,fun _ _ _ _ x g=>⟨g.1.mono x,g.2.mono x⟩,fun _ H p xs ys hp g=>⟨g.1.upd hp (by intro xs z;cases z),g.2.wr hp⟩,fun i ad H st g _ _ hi=>?_,fun i ad H st g _ _ hi=>⟨vs,(g.1).sq,by rw[g.2.length];exact cU hi⟩,
  fun i ad H st v H' g S _ y hi=>?_,E.mono x1,S1,⟨ha,rv⟩,p.later x1⟩
 ·obtain⟨v,e,_⟩:=g.2.get (Lg hi)
  exact⟨vs,v,(g.1).sq,e⟩
 ·obtain⟨w,e,dw⟩:=g.2.get (Lg hi)
  have:=y.2 vs ((g.1).sq);rw[e]at this;cases this
  cases y.1;exact⟨Ext.refl _ _,S,_,Lg hi,dw⟩
theorem J5{n:Int}{ys:Li D}{f:Ev}(hn:n < 2 ^ 62/\-(2 ^ 62)<=n)(E:EnvOk X.K ad H σ ρ)(S:StOk X.K ad H st)(q:f ρ st=some (.int n,st1))(p:Post X.K ad H (.lst st2.length) (st2++[(true,ys)]) Q) :
  iRng1 (tCons (tE X.K f) tNil) σ H (Q4 X σ ρ ((List.range n.toNat).map fun(k:Nat)=>D.int (k:Int)) (fun _=>True) st1 st2 ys Q):=by
 refine⟨ad,ρ,st,.int n,st1,E,S,q,fun v ad1 H1 x1 S1 d1=>?_⟩
 cases d1.ofInt;refine⟨n,rfl,hn.2,hn.1,ad1,fun _ _=>True,fun _ _ _ _ _ _=>trivial,fun _ _ _ _ _ _ _=>trivial,fun i ad H st _ _ _ hi=>(show i < n.toNat by simpa using hi),fun i ad H st _ _ _ hi=>(show n.toNat<=i by simpa using cU hi),fun i ad H st v H' _ S _ y hi=>?_,E.mono x1,S1,trivial,p.later x1⟩
 cases y.1;have hi':i < n.toNat:=by simpa using hi
 refine⟨Ext.refl _ _,S,.int (i:Int),?_,?_⟩
 ·rw[aU,dQ hi'];rfl
 ·rw[y.2,Int.zero_add];exact .int _
theorem J4{l:Nat}{c:Yb}{ys:Li D}{f:Ev}(E:EnvOk X.K ad H σ ρ)(S:StOk X.K ad H st)(q:f ρ st=some (.lst l,st1))(hc:st1[l]?=some c)(p:Post X.K ad H (.lst st2.length) (st2++[(true,ys)]) Q) :
  iList X.K (tE X.K f) σ H (Q4 X σ ρ c.2 (fun s=>s[l]?=some c) st1 st2 ys Q):=by
 refine⟨ad,ρ,st,.lst l,st1,E,S,q,fun v ad1 H1 x1 S1 d1=>?_⟩
 obtain⟨a,rfl,ha⟩:=d1.ofLst;obtain⟨vs,rv,sq⟩:=S1.list ha (show st1[l]?=some (c.1,c.2) from hc);refine⟨a,rfl,⟨vs,sq⟩,ad1,fun ad H=>LA ad H l a,fun _ _ _ _ x g=>g.mono x,fun _ _ _ _ _ e g=>⟨g.1,fun z=>g.2 ((Vq e).mpr z)⟩,fun i ad H st g S e hi=>?_,fun i ad H st g S e hi=>?_,fun i ad H st v H' g S e y hi=>?_,E.mono x1,S1,ha,p.later x1⟩
 ·obtain⟨vs,rv,sq⟩:=S.list g (show st[l]?=some (c.1,c.2) from e)
  obtain⟨v,e,_⟩:=rv.get (Lg hi);exact⟨vs,v,sq,e⟩
 ·obtain⟨vs,rv,sq⟩:=S.list g (show st[l]?=some (c.1,c.2) from e)
  exact⟨vs,sq,by rw[rv.length];exact cU hi⟩
 ·obtain⟨vs,rv,sq⟩:=S.list g (show st[l]?=some (c.1,c.2) from e)
  obtain⟨w,e,dw⟩:=rv.get (Lg hi);have:=y.2 vs sq;rw[e]at this;cases this
  cases y.1;exact⟨Ext.refl _ _,S,_,Lg hi,dw⟩
theorem J6{z:Str}{ys:Li D}{f:Ev}(ha:z.cps.all (fun c=>decide (c < 128))=true)(E:EnvOk X.K ad H σ ρ)(S:StOk X.K ad H st)(q:f ρ st=some (.str z,st1))(p:Post X.K ad H (.lst st2.length) (st2++[(true,ys)]) Q) :
  ZfE (tE X.K f) σ H (Q4 X σ ρ ((chS z).map D.str) (fun _=>True) st1 st2 ys Q):=by
 refine⟨ad,ρ,st,.str z,st1,E,S,q,fun v ad1 H1 x1 S1 d1=>?_⟩
 cases d1;have hl:((chS z).map D.str).length=z.cps.size:=by simp[chS]
 refine⟨z,rfl,ha,ad1,fun _ _=>True,fun _ _ _ _ _ _=>trivial,fun _ _ _ _ _ _ _=>trivial,fun i ad H st _ _ _ hi=>(show i < z.cps.size by omega),fun i ad H st _ _ _ hi=>(show z.cps.size<=i by omega),fun i ad H st v H' _ S _ y hi=>?_,E.mono x1,S1,trivial,p.later x1⟩
 obtain⟨rfl,c,hc,rfl⟩:=y;refine⟨Ext.refl _ _,S,.str ⟨#[c]⟩,?_,.str _⟩;unfold chS;rw[aU,aU,Array.getElem?_toList,hc];rfl
theorem Uy{xs ys:Li D}(h:i < (Qe xs ys).length):∃ a b,xs[i]?=some a/\ys[i]?=some b/\(Qe xs ys)[i]?=some (.tup [a,b]):=by
 unfold Qe at h ⊢
 rw[aJ,dA]at h;have h1:i < xs.length:=by omega
 have h2:i < ys.length:=by omega
 refine⟨xs[i],ys[i],Lg h1,Lg h2,?_⟩;rw[aU,Lg (by rw[dA];omega),List.getElem_zip]
 rfl
theorem ZbK{xs ys:Li D}:∀ d∈Qe xs ys,∃ a b,d=.tup [a,b]:=fun d h=>by
 obtain⟨p,_,rfl⟩:=bC.mp h;exact⟨_,_,rfl⟩
theorem J8{x:D}{ok:Za->Prop}{ys:Li D}{f:Ev}(E:EnvOk X.K ad H σ ρ)(S:StOk X.K ad H st)(q:f ρ st=some (x,st1))(hw:W6 x st1=some (ds,ok))(p:Post X.K ad H (.lst st2.length) (st2++[(true,ys)]) Q) :
  Zeo X.K (tA X.K f) σ H (Q4 X σ ρ ds ok st1 st2 ys Q):=by
 unfold W6 at hw;split at hw
 ·rename_i l zs
  split at hw
  ·rename_i c hc
   cases hw;refine⟨ad,ρ,st,_,st1,E,S,q,fun vs ad1 H1 x1 S1 d1=>?_⟩
   obtain⟨v1,v2,rfl,dv1,dv2⟩:∃ v1 v2,vs=[v1,v2]/\Den X.K ad1 H1 v1 (.lst l)/\Den X.K ad1 H1 v2 (.tup zs):=by
    cases d1 with
    |cons h1 d1=>
     cases d1 with
     |cons h2 d1=>cases d1;exact⟨_,_,rfl,h1,h2⟩
   obtain⟨a,rfl,ha⟩:=dv1.ofLst;obtain⟨b,ws,rfl,hb,rw0⟩:=dv2.ofTup;obtain⟨us,ru,squ⟩:=S1.list ha (show st1[l]?=some (c.1,c.2) from hc);refine⟨a,b,rfl,⟨us,squ⟩,⟨ws,hb.sq⟩,ad1,fun ad H=>LA ad H l a/\TupAt X.K H b ws/\Dens X.K ad H ws zs,fun _ _ _ _ x g=>⟨g.1.mono x,g.2.1.mono x,g.2.2.mono x⟩,fun _ _ _ _ _ e g=>⟨⟨g.1.1,fun z=>g.1.2 ((Vq e).mpr z)⟩,g.2.1.upd e (by intro xs z;cases z),g.2.2.wr e⟩,fun i ad H st g S e hi=>?_,fun i ad H st g S e hi=>?_,fun i ad H st v H' g S e y hi=>?_,E.mono x1,S1,⟨ha,hb,rw0⟩,p.later x1⟩
   ·obtain⟨us,ru,squ⟩:=S.list g.1 (show st[l]?=some (c.1,c.2) from e)
    obtain⟨p1,p2,e1,e2,_⟩:=Uy hi;obtain⟨w1,f1,_⟩:=ru.get e1;obtain⟨w2,f2,_⟩:=g.2.2.get e2;exact⟨us,ws,w1,w2,squ,g.2.1.sq,f1,f2⟩
   ·obtain⟨us,ru,squ⟩:=S.list g.1 (show st[l]?=some (c.1,c.2) from e)
    refine⟨us,ws,squ,g.2.1.sq,?_⟩;rw[ru.length,g.2.2.length,<-hi];unfold Qe;rw[aJ,dA];exact aE _
   ·obtain⟨us,ru,squ⟩:=S.list g.1 (show st[l]?=some (c.1,c.2) from e)
    obtain⟨p1,p2,e1,e2,e3⟩:=Uy hi;obtain⟨w1,f1,g1⟩:=ru.get e1;obtain⟨w2,f2,g2⟩:=g.2.2.get e2;obtain⟨T,y1,y2,rfl,hT,rfl,h1,h2⟩:=y;have z:=h1 us squ;rw[f1]at z;cases z
    have z:=h2 ws g.2.1.sq;rw[f2]at z;cases z
    exact⟨Ext.laid hT,S.laid hT,_,e3,.tup (.inl upd_same) (.cons (g1.mono (Ext.laid hT)) (.cons (g2.mono (Ext.laid hT)) .nil))⟩
  ·exact Zb hw
 ·exact Zb hw
theorem JG{x:D}{ds:Li D}{ok:Za->Prop}(h:W6 x st=some (ds,ok)):∀ d∈ds,∃ a b,d=.tup [a,b]:=by
 unfold W6 at h;split at h
 ·split at h
  ·cases h;exact ZbK
  ·exact Zb h
 ·exact Zb h
theorem JE{xs:Li Str}(h:tgN tg=some xs):(∃ x px,tg=.Name x px/\xs=[x])\/∃ x y px py k tp,tg=.Tuple [.Name x px,.Name y py] k tp/\xs=[x,y]:=by
 unfold tgN at h;split at h
 ·cases h;exact .inl ⟨_,_,rfl,rfl⟩
 ·rename_i es k tp
  have nm:∀ {e:Expr}{x:Str},nmE e=some x->∃ p,e=.Name x p:=Y8;cases es with
  |nil=>exact Zb h
  |cons a es=>cases es with
   |nil=>exact Zb h
   |cons b es=>cases es with
    |cons _ _=>exact Zb h
    |nil=>
     refine ZM (P:=fun xs=>_\/∃ x y px py k' tp',Expr.Tuple [a,b] k tp=.Tuple [.Name x px,.Name y py] k' tp'/\xs=[x,y]) h fun x y hx hy=>?_
     obtain⟨px,rfl⟩:=nm hx;obtain⟨py,rfl⟩:=nm hy;exact .inr ⟨x,y,px,py,k,tp,rfl,rfl⟩
 ·exact Zb h
inductive CSh(G:Gs)(n:Nat)(sc:Scope)(N:List Str)(elt:Expr)(sc2:Scope):List Comprehension->CE->Prop
 |mk {tg it:Expr}{ifs:List Expr}{xs:List Str}{fr:List Nat}{r:Option (Option Bool)}{ci ce cc:CE} (htg:tgN tg=some xs) (hsc:YJ sc sc2 xs=true) (hfr:YR N (ZE sc2)=some fr) (hi:itC G sc it (cE G n sc N) xs=some (r,ci)) (hce:cE G n sc2 (xs++ZE sc2) elt=some ce) (hcc:(ifs=[]/\cc=.cst (.bl true))\/∃ e,ifs=[e]/\cE G n sc2 (xs++ZE sc2) e=some cc):CSh G n sc N elt sc2 [⟨tg,it,ifs,0⟩] (mkC r fr ci ce cc)
theorem Zca{G:Gs}{c:CE}(h:cE G (n+1) sc N (.ListComp elt gens sc2 pos)=some c):CSh G n sc N elt sc2 gens c:=by
 replace h:=ZX (show og (ZN G=true) (Qq G sc sc2 N (cE G n sc N) (cE G n sc2) elt gens)=some c from h) fun _ z=>z
 replace h:Qq G sc sc2 N (cE G n sc N) (cE G n sc2) elt gens=some c:=h;have no:∀ {P:Prop},(none:Ot CE)=some c->P:=fun z=>nomatch z
 cases gens with
 |nil=>exact no h
 |cons g gs=>
  obtain⟨tg,it,ifs,k⟩:=g;cases k with
  |negSucc _=>cases gs<;>exact no h
  |ofNat m=>cases m with
   |succ _=>cases gs<;>exact no h
   |zero=>cases gs with
    |cons _ _=>exact no h
    |nil=>
     replace h:(match tgN tg with
      |none=>none
      |some xs=>og (YJ sc sc2 xs=true) (o3 (fun fr p (q:CE×CE)=>mkC p.1 fr p.2 q.1 q.2) (YR N (ZE sc2)) (itC G sc it (cE G n sc N) xs) (o2 Prod.mk (cE G n sc2 (xs++ZE sc2) elt) (ifC (cE G n sc2 (xs++ZE sc2)) ifs))))=some c:=h
     cases htg:tgN tg with
     |none=>rw[htg]at h;cases h
     |some xs=>
      rw[htg]at h;refine ZX h fun hsc h=>XZ (P:=CSh G n sc N elt sc2 _) h fun fr p q hfr hi hq=>ZM (P:=fun q:CE×CE=>CSh G n sc N elt sc2 _ (mkC p.1 fr p.2 q.1 q.2)) hq fun ce cc hce hcc=>.mk htg hsc hfr hi hce ?_
      cases ifs with
      |nil=>cases hcc;exact .inl ⟨rfl,rfl⟩
      |cons a l=>cases l with
       |nil=>exact .inr ⟨a,rfl,hcc⟩
       |cons _ _=>exact Zb hcc
inductive CR(b:D->List (Option D))(w:D->Za->Option (List D×(Za->Prop)))(fr:List Nat)(fi fe fc:Ev)(ρ:Env)(st:Za):D->Za->Prop
 |mk {x:D}{st1 st2:Za}{ds ys:List D}{ok:Za->Prop} (q1:fi ρ st=some (x,st1)) (q2:w x st1=some (ds,ok)) (hz:ds.length<=1000) (q3:Z7 ok (fun d s=>fe (Ys b ρ fr d) s) (fun d s=>fc (Ys b ρ fr d) s) ds st1=some (ys,st2)):CR b w fr fi fe fc ρ st (.lst st2.length) (st2++[(true,ys)])
theorem XC{b:D->Li (Ot D)}{w:D->Za->Ot (Li D×(Za->Prop))}{fi:Ev}(e:WN b w fr fi fe fc ρ st=some (d,st')):CR b w fr fi fe fc ρ st d st':=by
 unfold WN at e;split at e
 ·split at e
  ·split at e
   ·split at e
    ·cases e;exact .mk ‹_› ‹_› ‹_› ‹_›
    ·exact Zb e
   ·exact Zb e
  ·exact Zb e
 ·exact Zb e
inductive CIt(X:Cx)(pQ:List (Addr×Obj))(s:Shared)(σ:L2.St)(ρ:Env)(tg it:Expr)(xs:List Str)(F:Nat->Fn)(fr:List Nat)(ce cc:CE)(Q:VK):Prop
 |mk {bd:D->List (Option D)}{ds:List D}{ok:Za->Prop}{st1 st2:Za}{ys:List D} (B:Xx X.K tg xs bd ds) (hz:ds.length<=1000) (q3:Z7 ok (fun d s=>ev F ce (Ys bd ρ fr d) s) (fun d s=>ev F cc (Ys bd ρ fr d) s) ds st1=some (ys,st2)) (hp:Zf it=true) (pi:wpAny (model X.prog X.w) X.A (eval it X.env) (fun v s1=>wpAny (model X.prog X.w) X.A (pyIter v) (PIE X pQ σ tg (Q4 X σ ρ ds ok st1 st2 ys Q)) X.xe s1) X.xe s):CIt X pQ s σ ρ tg it xs F fr ce cc Q
theorem Vs{f:α->β}{o:Ot α}{b:β}(h:o.map f=some b):∃ a,o=some a/\f a=b:=by
 cases o with
 |none=>exact Zb h
 |some a=>exact⟨a,rfl,by cases h;rfl⟩
theorem Zb9{G:Gs}(ihE:Zo G F n)(Kx:Cxt X G F sc N){xs:Li Str}{r:Ot (Ot Bool)}{ci:CE}(htg:tgN tg=some xs)(hi:itC G sc it (cE G n sc N) xs=some (r,ci)){s:sH7}(I:L2.Inv X pQ σ H s)(E:EnvOk X.K ad H σ ρ)(S:StOk X.K ad H st)(e:ev F (mkC r fr ci ce cc) ρ st=some (d,st'))(p:Post X.K ad H d st' Q):CIt X pQ s σ ρ tg it xs F fr ce cc Q:=by
 rcases JE htg with⟨x,px,rfl,rfl⟩|⟨x,y,px,py,k,tp,rfl,rfl⟩
 ·replace hi:(match Yg G sc it with
   |some a=>(cE G n sc N a).map fun c=>(some (some true),c)
   |none=>(cE G n sc N it).map fun c=>(some (some false),c))=some (r,ci):=hi
  split at hi
  ·rename_i a ha
   obtain⟨ca,q,hi⟩:=Vs hi;cases hi;obtain⟨hp,pi⟩:=XX (tg:=.Name x px) Kx ha (Ze q) (ihE X sc N Kx a _ q).pe;cases XC e with
   |@mk x0 st1 st2 ds ys ok q1 q2 hz q3=>
    refine .mk VM hz q3 hp (pi pQ s σ H _ I ?_);cases x0 with
    |int k=>
     have q2:(match (if k < 2 ^ 62/\-(2 ^ 62)<=k then some ((List.range k.toNat).map fun(k:Nat)=>D.int (k:Int)) else none) with
      |some xs=>some (xs,fun _=>True)
      |none=>none)=some (ds,ok):=q2
     by_cases hk:k < 2 ^ 62/\-(2 ^ 62)<=k
     ·rw[if_pos hk]at q2
      cases q2;exact J5 hk E S q1 p
     ·rw[if_neg hk]at q2
      cases q2
    |_=>exact Zb q2
  ·obtain⟨ca,q,hi⟩:=Vs hi
   cases hi;cases XC e with
   |@mk x0 st1 st2 ds ys ok q1 q2 hz q3=>
    refine .mk VM hz q3 (Ze q) ?_;cases x0 with
    |tup xs=>cases q2;exact pi_tup (ihE X sc N Kx it _ q).pe pQ s σ H _ I (J7 E S q1 p)
    |lst l=>
     have q2:(match st1[l]? with
      |some c=>some (c.2,fun s=>s[l]?=some c)
      |none=>none)=some (ds,ok):=q2
     cases q4:st1[l]? with
     |none=>rw[q4]at q2;cases q2
     |some c0=>
      rw[q4]at q2;cases q2;exact pi_list (ihE X sc N Kx it _ q).pe pQ s σ H _ I (J4 E S q1 q4 p)
    |str z=>
     have q2:(if z.cps.all (fun c=>decide (c < 128))=true then some ((chS z).map D.str,fun _=>True) else none)=some (ds,ok):=q2
     by_cases ha:z.cps.all (fun c=>decide (c < 128))=true
     ·rw[if_pos ha]at q2
      cases q2;exact ZeD (ihE X sc N Kx it _ q).pe pQ s σ H _ I (J6 ha E S q1 p)
     ·rw[if_neg ha]at q2
      cases q2
    |_=>exact Zb q2
 ·replace hi:(match (fnA G sc "zip" it).bind Ze9 with
   |some p=>o2 (fun x y=>(some none,CE.aC x (.aC y .aN))) (cE G n sc N p.1) (cE G n sc N p.2)
   |none=>(cE G n sc N it).map fun c=>(none,c))=some (r,ci):=hi
  split at hi
  ·rename_i pr hp2
   refine ZM (P:=fun u:Ot (Ot Bool)×CE=>u=(r,ci)->CIt X pQ s σ ρ (.Tuple [.Name x px,.Name y py] k tp) it [x,y] F fr ce cc Q) hi (fun ca cb qa qb hu=>?_) rfl
   cases hu;obtain⟨as,h1,h2⟩:=aW.mp hp2;obtain⟨pp,pos,rfl,hg,hm⟩:=UH Kx h1;rw[Zdk h2];cases XC e with
   |mk q1 q2 hz q3=>
    have PA0:PA X [pr.1,pr.2] (tA X.K (ev F (.aC ca (.aC cb .aN)))):=Wz (pa_cons (ihE X sc N Kx _ _ qa).pe (Wz (pa_cons (ihE X sc N Kx _ _ qb).pe (Wz pa_nil Wq) (Zd (Ze qb))) XH) (Zd (Ze qa))) XH;exact .mk (JV (JG q2)) hz q3 rfl (Zbh hg hm PA0 (by rw[bK,bK,Ze qa,Ze qb];rfl) pQ s σ H _ I (J8 E S q1 q2 p))
  ·obtain⟨ca,q,hi⟩:=Vs hi
   cases hi;cases e
theorem Qr{G:Gs}(ihE:Zo G F n)(Kx:Cxt X G F sc N){c:CE}(h:cE G (n+1) sc N (.ListComp elt gens sc2 pos)=some c){s:sH7}(I:L2.Inv X pQ σ H s)(hq:tE X.K (ev F c) σ H Q)(hend:∀ C dd s5 H5 m',s5.heap.Ns C m'->(∀ h',Heap.SameBut C s5.heap h'->L2.Inv X pQ σ H5 { s5 with heap:=h' })->FpOk X pQ H5 C->Q (.ref dd) H5->compPost (model X.prog X.w) X.A X.xe use R0 (.ref dd) C (.ok .next) s5) :
  ∃ tg it ifs,gens=[⟨tg,it,ifs,0⟩]/\∀ pos',wpAny (model X.prog X.w) X.A (comprehension (.ListComp elt [⟨tg,it,ifs,0⟩] sc2 pos) sc2 X.env pos' (newList []) false (eval it X.env) use) R0 X.xe s:=by
 have hlo:ZN G=true:=ZX (show og (ZN G=true) (Qq G sc sc2 N (cE G n sc N) (cE G n sc2) elt gens)=some c from h) fun z _=>z
 cases Zca h with
 |@mk tg it ifs xs fr r ci ce cc htg hsc hfr hi hce hcc=>
  obtain⟨h1,h2,h3,h4,h5,h6⟩:=Z8 hsc;obtain⟨ad,ρ,st,d,st',E,S,e,p⟩:=hq;obtain⟨cl,ec,c1,c2⟩:=VR (env:=X.env) (sc:=sc2) (fun y hy hf=>by
   have hm:(y.1,NameKind.free)∈sc2.names:=by rw[<-hf];exact hy
   exact I.ok.has y.1 (Kx.cel y.1 (h6 y.1 (mem_frees.mpr hm)).1))
  refine⟨tg,it,ifs,rfl,fun pos'=>?_⟩
  cases Zb9 ihE Kx htg hi I E S e p with
  |mk B hz q3 hp pi=>
   refine wpAny_comprehension_free (use:=use) rfl (ZK hp) ec h1 h4 (thn pi fun v s1 h1'=>thn h1' fun itv s2 h2'=>?_)
   obtain⟨ita,fp,tn,J,H2,rfl,I2,T,t2,f2,ad1,Good,gm,gw,go,stop,yl,E2,S2,g2,p2⟩:=h2';exact Jh hlo Kx ihE hsc hfr hce hcc c1 c2 Good gm gw go stop yl I2 B T t2 f2 E2 S2 g2 q3 hz p2 hend
theorem Qt{G:Gs}:YA G F:=by
 intro n ihE;refine⟨fun X sc N Kx elt gens sc2 pos c h=>SE.of ?_,fun X sc N K y i p elt gens sc2 epos pos c hi h hsw=>?_⟩
 ·intro pQ s σ H Q I hq
  obtain⟨tg,it,ifs,rfl,go⟩:=Qr ihE Kx h I hq (use:=none) (R0:=EP X pQ σ Q) fun C dd s5 H5 m' hn hI _ q=>⟨m',hn,fun h' sb=>⟨.ref dd,H5,hI h' sb,rfl,q⟩⟩
  rw[eval_ListComp];exact go _
 ·intro pQ s σ H D I hq
  obtain⟨tg,it,ifs,rfl,go⟩:=Qr ihE K.toCxt h I hq (use:=some (assign (.Name y p) X.env)) (R0:=fun _ s'=>SP X pQ D .next s') fun C dd s5 H5 m' hn hI fo q=>by
   have I5:=hI s5.heap (Heap.SameBut.refl _ _);show wpAny _ X.A (assign (.Name y p) X.env (.ref dd)) _ _ s5;refine wpAny_assign_Name (store_ok2 (v:=.ref dd) I5 (by rw[K.hN];exact K.nd) (by rw[K.hN];exact Ye hi) (K.loc _ (X2 hi)) rfl (fun s6 I6 ⟨a,sb,ha⟩=>?_) (.inl (K.fn _)))
   have ne:C≠a:=by
    rcases ha with z|z
    ·rw[z];exact fo.2.1
    ·exact fun w=>fo.2.2.2.2.1 _ _ z w.symm
   exact⟨m',hn.sameBut sb ne,fun h3 sb3=>⟨_,H5,I6.turned (t':=s6.toks) (fun b o hb e=>sb3.extBut b o hb e) fo.1 fo.2.1 fo.2.2.2.1 fo.2.2.2.2.1 fo.2.2.2.2.2,q⟩⟩
  rw[exec_Assign_Name_used _ _ _ _ hsw];refine aA (wpAny_standAt (aA ?_));show wpAny _ X.A (do let _ <-comprehension (.ListComp elt [⟨tg,it,ifs,0⟩] sc2 epos) sc2 X.env _ (newList []) false (eval it X.env) (some (assign (.Name y p) X.env))) _ _ s
  exact aA (bD (go _) (fun _ s' hq=>aD (aD hq)) fun _ _ e=>e)
variable [ClsTab]
theorem Zgz{α:Type}:∀ {us:Li α},us.length=0->us=[]
 |[],_=>rfl
theorem ZfJ{α:Type}:∀ {us:Li α},us.length=1->∃ a,us=[a]
 |[a],_=>⟨a,rfl⟩
theorem ZgA{α:Type}:∀ {us:Li α},us.length=2->∃ a b,us=[a,b]
 |[a,b],_=>⟨a,b,rfl⟩
theorem ZgB{α:Type}:∀ {us:Li α},us.length=3->∃ a b c,us=[a,b,c]
 |[a,b,c],_=>⟨a,b,c,rfl⟩
theorem ZgC{α:Type}:∀ {us:Li α},us.length=4->∃ a b c d,us=[a,b,c,d]
 |[a,b,c,d],_=>⟨a,b,c,d,rfl⟩
theorem ZgD{α:Type}:∀ {us:Li α},us.length=5->∃ a b c d e,us=[a,b,c,d,e]
 |[a,b,c,d,e],_=>⟨a,b,c,d,e,rfl⟩
theorem ZgE{α:Type}:∀ {us:Li α},us.length=6->∃ a b c d e f,us=[a,b,c,d,e,f]
 |[a,b,c,d,e,f],_=>⟨a,b,c,d,e,f,rfl⟩
def Y4(K:Fg)(G:Gs)(T:Nat->Ot FD)(C:Ad):Li (Str×Nat×Nat)->Prop
 |[]=>True
 | (m,j,_) :: r=>(∃ y f fd pn N,MethOk K G T C m y j f fd pn N)/\Y4 K G T C r
def Yk(Pm:Params)(K:Fg)(mg:Str->Ot vL)(G:Gs)(T:Nat->Ot FD):Gs->Prop
 |[]=>True
 | (x,.cst d) :: r=>(∃ v u,mg x=some u/\RelV v u/\∀ ad H,Den K ad H v d)/\Yk Pm K mg G T r
 | (x,.blt) :: r=>mg x=none/\Yk Pm K mg G T r
 | (x,.dct ks ds) :: r=>Qi Pm K mg x ks ds/\Yk Pm K mg G T r
 | (x,.fn i _ ds) :: r=>(∃ f fd pn N,DefOk K mg G T x i ds f fd pn N)/\Yk Pm K mg G T r
 | (x,.exc i l) :: r=>Qj K mg x i l/\Yk Pm K mg G T r
 | (x,.fnq i) :: r=>(∃ f fd pn N,DefOk K mg (ZY G) T x i [] f fd pn N)/\Yk Pm K mg G T r
 | (x,.cls i ms _) :: r=>((mg x=some (.ref (ClsTab.ca i))/\NewOk K (ClsTab.ca i))/\Y4 K G T (ClsTab.ca i) ms)/\Yk Pm K mg G T r
section
variable {P:Program}{w:World}{K:Fg}{mg:Str->Ot vL}{base:Heap}{G:Gs}{T:Nat->Ot FD}
def ZdW(Pm:Params)(K:Fg)(mg:Str->Ot vL)(G:Gs)(T:Nat->Ot FD)(x:Str):GV->Prop
 |.cst d=>∃ v u,mg x=some u/\RelV v u/\∀ ad H,Den K ad H v d
 |.blt=>mg x=none
 |.dct ks ds=>Qi Pm K mg x ks ds
 |.fn i _ ds=>∃ f fd pn N,DefOk K mg G T x i ds f fd pn N
 |.exc i l=>Qj K mg x i l
 |.fnq i=>∃ f fd pn N,DefOk K mg (ZY G) T x i [] f fd pn N
 |.cls i ms _=>(mg x=some (.ref (ClsTab.ca i))/\NewOk K (ClsTab.ca i))/\Y4 K G T (ClsTab.ca i) ms
theorem Z3{Pm:Params}:∀ {l:Gs}{x:Str}{g:GV},Yk Pm K mg G T l->l.lookup x=some g->ZdW Pm K mg G T x g
 |[],_,_,_,h=>by cases h
 | (y,v) :: r,x,g,a,h=>by
  have tl:Yk Pm K mg G T r/\ZdW Pm K mg G T y v:=by
   cases v with
   |cst d=>exact⟨a.2,a.1⟩
   |blt=>exact⟨a.2,a.1⟩
   |dct ks ds=>exact⟨a.2,a.1⟩
   |fn i ps ds=>exact⟨a.2,a.1⟩
   |cls i ms subs=>exact⟨a.2,a.1⟩
   |exc i l=>exact⟨a.2,a.1⟩
   |fnq i=>exact⟨a.2,a.1⟩
  rw[bL]at h;cases e:x==y with
  |true=>
   rw[e]at h;cases h;rw[beq_iff_eq.mp e];exact tl.2
  |false=>
   rw[e]at h;exact Z3 tl.1 h
theorem Ue{C:Ad}:∀ {l:Li (Str×Nat×Nat)},Y4 K G T C l->∀ m j ps,l.lookup m=some (j,ps)->∃ y f fd pn N,MethOk K G T C m y j f fd pn N
 |[],_,_,_,_,h=>by cases h
 | (m',j',ps') :: r,a,m,j,ps,h=>by
  rw[bL]at h;cases e:m==m' with
  |true=>
   rw[e]at h;cases h;rw[beq_iff_eq.mp e];exact a.1
  |false=>
   rw[e]at h;exact Ue a.2 m j ps h
theorem Zdi{Pm:Params}(h:Yk Pm K mg G T G):Text Pm K mg G T:=
 ⟨fun _ _ e=>Z3 h e,fun _ e=>Z3 h e,fun _ _ _ e=>Z3 h e,fun _ _ _ _ e=>Z3 h e,fun _ _ _ e=>Z3 h e,fun _ _ e=>Z3 h e,fun x i ms subs e=>by
  have g:ZdW Pm K mg G T x (.cls i ms subs):=Z3 h e;exact⟨g.1,Ue g.2⟩⟩
theorem Ze3{a:Ad}{ns:Li Int}(hO:Only H)(hS:SqL K H a (ns.map V.int))(h:∃ st',run T n i [.lst 0] [(false,ns.map .int)]=some (.bl true,st')):spD K (run T n i) [.ref a] H (fun v _=>v=.bl true) fun _ _ _=>False:=by
 obtain⟨st',e⟩:=h;have ds:∀ ns:Li Int,Dens K [a] H (ns.map V.int) (ns.map D.int):=fun ns=>by
  induction ns with
  |nil=>exact .nil
  |cons n l ih=>exact .cons (.int n) ih
 have nT:¬Z2 H a:=fun⟨o',q,m⟩=>by
  rcases hO a with z|⟨o,xs,z⟩<;>(rw[q]at z;cases z)
  cases m
 refine⟨[a],[.lst 0],[(false,ns.map .int)],.bl true,st',⟨rfl,fun i j b c d _ _ h3 _=>?_,fun i c hc=>?_⟩,.cons (.lst ⟨rfl,nT⟩) .nil,e,fun v ad' H' x S h=>h.ofBl,trivial⟩
 ·cases i with
  |zero=>simp at h3
  |succ i=>simp at h3
 ·cases i with
  |succ i=>simp at hc
  |zero=>
   have hc:(false,ns.map D.int)=c:=by simpa using hc
   subst hc;refine⟨a,rfl,.l nT (ds ns) (.inr ⟨rfl,?_⟩)⟩;rcases hS with(h|⟨o,h⟩)|⟨o,its,n,h1,h2,h3,h4,h5,h6⟩
   ·rcases hO a with z|⟨o,xs,z⟩
    ·rw[h]at z;cases z
    ·rw[h]at z;cases z
   ·exact .inl ⟨o,h⟩
   ·exact .inr ⟨o,its,n,⟨h1,h2⟩,⟨h3,h4⟩,h5,h6⟩
end
noncomputable abbrev fnS(x y:Str)(s:Stmt)(dV kV dc pm:vL)(an:Ot Ad)(cd ct:vL):FuncData:=PySem.W.fnOf x y (defArgs s) (defBody s) (defScope s) dV kV dc pm an cd ct
inductive FnAt(K:Fg)(x:Str)(s:Stmt):Prop
 |mk {f:Addr}{oc kV dc pm cd ct:Value}{od an:Option Addr}{sl:Array (Option Value)} (a:PySem.W.nsIn K mainGlobals x=some (some (.ref f))) (l:K.lookup f=some ⟨oc,od,.func (PySem.W.fnOf x x (defArgs s) (defBody s) (defScope s) .none kV dc pm an cd ct),sl⟩) (e:PySem.W.codeIn K cd x=true) (k:PySem.W.keepIn K (.ref f)=true):FnAt K x s
inductive FnAtE(K:Fg)(x:Str)(s:Stmt)(v:Int):Prop
 |mk {f E:Addr}{eo:Obj}{en:Nat}{et:Tok}{oc kV dc pm cd ct:Value}{od an:Option Addr}{sl:Array (Option Value)} (a:PySem.W.nsIn K mainGlobals x=some (some (.ref f))) (l:K.lookup f=some ⟨oc,od,.func (PySem.W.fnOf x x (defArgs s) (defBody s) (defScope s) (.ref E) kV dc pm an cd ct),sl⟩) (e:PySem.W.codeIn K cd x=true) (k:PySem.W.keepIn K (.ref f)=true) (d:K.lookup E=some eo) (g:eo.data=.seq #[.int v et] en):FnAtE K x s v
inductive MtAt(K:Fg)(C:Addr)(x y:Str)(s:Stmt):Prop
 |mk {f:Addr}{oc kV dc pm cd ct:Value}{od an:Option Addr}{sl:Array (Option Value)} (m:PySem.W.findIn K (.ref C) x=some (some (.ref f))) (l:K.lookup f=some ⟨oc,od,.func (PySem.W.fnOf x y (defArgs s) (defBody s) (defScope s) .none kV dc pm an cd ct),sl⟩) (e:PySem.W.codeIn K cd y=true) (k:PySem.W.keepIn K (.ref f)=true) (i:PySem.W.isFn K (.ref f)=true):MtAt K C x y s
structure ClsAt(K:Fg)(x:Str)(C:Addr):Prop where
 ya:PySem.W.nsIn K mainGlobals x=some (some (.ref C))
 yb:PySem.W.makesIn K C=true
 yd:PySem.W.keepIn K (.ref C)=true
 ye:PySem.W.plainGet K C Str.empty=true
 yf:PySem.W.hasDictIn K C=true
 yg:PySem.W.plainOver K C=true
 yh:PySem.W.findIn K (.ref C) "__setattr__"=some (some (.builtin "object.__setattr__"))
 n1:PySem.W.findIn K (.ref C) "takes"=some none
 n2:PySem.W.findIn K (.ref C) "names"=some none
 n3:PySem.W.findIn K (.ref C) "rows"=some none
 n4:PySem.W.findIn K (.ref C) "aims"=some none
theorem ClsAt.new{K:Fg}{x:Str}{C:Ad}(F:ClsAt K x C):NewOk K C:=⟨F.yb,F.yd,⟨F.ye,F.yf,F.yg,F.yh⟩,fun f hf=>by
 have hf:((f == "takes")||((f == "names")||((f == "rows")||((f == "aims")||false))))=true:=hf;rw[cW,dG,dG,dG,beq_iff_eq,beq_iff_eq,beq_iff_eq,beq_iff_eq]at hf;rcases hf with rfl|rfl|rfl|rfl
 ·exact F.n1
 ·exact F.n2
 ·exact F.n3
 ·exact F.n4⟩
abbrev Xy(G:Gs)(s:Stmt)(N ps:Li Str)(c:CS):Prop:=FnScope N ps (defScope s)/\(∀ y∈N,L2.Loc (defScope s) y)/\cSs G 60 (defScope s) N (defBody s)=some c
section
variable {K:Fg}{fd:FuncData}{ps:Li Str}
theorem bd1(hl:ps.length=1)(h:∀ a,bindArgs fd ⟨[a],[]⟩=pure (ps.zip [a])):Binds K fd ps []:=.all fun us e=>by obtain⟨_,rfl⟩:=ZfJ (e.trans hl);exact h _
theorem bd2(hl:ps.length=2)(h:∀ a b,bindArgs fd ⟨[a,b],[]⟩=pure (ps.zip [a,b])):Binds K fd ps []:=.all fun us e=>by obtain⟨_,_,rfl⟩:=ZgA (e.trans hl);exact h _ _
theorem bd3(hl:ps.length=3)(h:∀ a b c,bindArgs fd ⟨[a,b,c],[]⟩=pure (ps.zip [a,b,c])):Binds K fd ps []:=.all fun us e=>by obtain⟨_,_,_,rfl⟩:=ZgB (e.trans hl);exact h _ _ _
theorem bd4(hl:ps.length=4)(h:∀ a b c d,bindArgs fd ⟨[a,b,c,d],[]⟩=pure (ps.zip [a,b,c,d])):Binds K fd ps []:=.all fun us e=>by obtain⟨_,_,_,_,rfl⟩:=ZgC (e.trans hl);exact h _ _ _ _
theorem bd5(hl:ps.length=5)(h:∀ a b c d k,bindArgs fd ⟨[a,b,c,d,k],[]⟩=pure (ps.zip [a,b,c,d,k])):Binds K fd ps []:=.all fun us e=>by obtain⟨_,_,_,_,_,rfl⟩:=ZgD (e.trans hl);exact h _ _ _ _ _
theorem bd6(hl:ps.length=6)(h:∀ a b c d k l,bindArgs fd ⟨[a,b,c,d,k,l],[]⟩=pure (ps.zip [a,b,c,d,k,l])):Binds K fd ps []:=.all fun us e=>by obtain⟨_,_,_,_,_,_,rfl⟩:=ZgE (e.trans hl);exact h _ _ _ _ _ _
theorem bd0(hl:ps.length=0)(h:bindArgs fd ⟨[],[]⟩=pure []):Binds K fd ps []:=.all fun us e=>by rw[Zgz (e.trans hl),List.zip_nil_right];exact h
end
section
variable {Pm:Params}{K:Fg}{mg:Str->Ot vL}{G:Gs}{T:Nat->Ot FD}{h:Heap}{x y:Str}{i p:Nat}{s:Stmt}{N ps:Li Str}{c:CS}{r:Gs}
theorem gD(X:K.In h)(G0:h.Ns mainGlobals mg)(F:FnAt K x s)(q:Xy G s N ps c)(hT:T i=some ⟨ps.length,N.length,c⟩)(t:Yk Pm K mg G T r)(hb:∀ kV dc pm an cd ct,Binds K (fnS x x s .none kV dc pm an cd ct) ps []:=by first|exact fun _ _ _ _ _ _=>bd1 rfl fun _=>rfl|exact fun _ _ _ _ _ _=>bd2 rfl fun _ _=>rfl|exact fun _ _ _ _ _ _=>bd3 rfl fun _ _ _=>rfl|exact fun _ _ _ _ _ _=>bd4 rfl fun _ _ _ _=>rfl|exact fun _ _ _ _ _ _=>bd5 rfl fun _ _ _ _ _=>rfl|exact fun _ _ _ _ _ _=>bd6 rfl fun _ _ _ _ _ _=>rfl|exact fun _ _ _ _ _ _=>bd0 rfl rfl):Yk Pm K mg G T ((x,.fn i p []) :: r):=by
 cases F with
 |mk a l e k=>exact⟨⟨_,_,ps,N,⟨s,_,_,_,_,_,_,_,_,_,_,c,rfl,l,e,q.1,q.2.1,q.2.2,hT⟩,k,PySem.W.mg_of X G0 a,fun m hm=>⟨[],[],fun _ _=>by rw[List.drop_nil];exact .nil,.nil,hb _ _ _ _ _ _⟩⟩,t⟩

theorem gM{C:Ad}{r:Li (Str×Nat×Nat)}(F:MtAt K C x y s)(q:Xy G s N ps c)(hT:T i=some ⟨ps.length,N.length,c⟩)(t:Y4 K G T C r)(hb:∀ kV dc pm an cd ct,Binds K (fnS x y s .none kV dc pm an cd ct) ps []:=by first|exact fun _ _ _ _ _ _=>bd1 rfl fun _=>rfl|exact fun _ _ _ _ _ _=>bd2 rfl fun _ _=>rfl|exact fun _ _ _ _ _ _=>bd3 rfl fun _ _ _=>rfl|exact fun _ _ _ _ _ _=>bd4 rfl fun _ _ _ _=>rfl|exact fun _ _ _ _ _ _=>bd5 rfl fun _ _ _ _ _=>rfl|exact fun _ _ _ _ _ _=>bd6 rfl fun _ _ _ _ _ _=>rfl|exact fun _ _ _ _ _ _=>bd0 rfl rfl):Y4 K G T C ((x,i,p) :: r):=by
 cases F with
 |mk m l e k j=>exact⟨⟨y,_,_,ps,N,⟨s,_,_,_,_,_,_,_,_,_,_,c,rfl,l,e,q.1,q.2.1,q.2.2,hT⟩,⟨m,j,k⟩,hb _ _ _ _ _ _⟩,t⟩
theorem gC{C:Ad}(X:K.In h)(G0:h.Ns mainGlobals mg)(hC:ClsTab.ca i=C)(F:ClsAt K x C)(hm:Y4 K G T C ms)(t:Yk Pm K mg G T r):Yk Pm K mg G T ((x,.cls i ms subs) :: r):=by
 subst hC;exact⟨⟨⟨PySem.W.mg_of X G0 F.ya,F.new⟩,hm⟩,t⟩
theorem gB(X:K.In h)(G0:h.Ns mainGlobals mg)(z:PySem.W.nsIn K mainGlobals x=some none)(t:Yk Pm K mg G T r):Yk Pm K mg G T ((x,.blt) :: r):=⟨PySem.W.mg_none_of X G0 z,t⟩
theorem gI{v:Int}{k:Tok}(X:K.In h)(G0:h.Ns mainGlobals mg)(g:PySem.W.nsIn K mainGlobals x=some (some (.int v k)))(t:Yk Pm K mg G T r):Yk Pm K mg G T ((x,.cst (.int v)) :: r):=⟨⟨.int v,_,PySem.W.mg_of X G0 g,⟨_,rfl⟩,fun _ _=>.int _⟩,t⟩
theorem gQ(X:K.In h)(G0:h.Ns mainGlobals mg)(F:FnAt K x s)(q:Xy (ZY G) s N ps c)(hT:T i=some ⟨ps.length,N.length,c⟩)(hl:ps.length=1)(hb:∀ kV dc pm an cd ct a,bindArgs (fnS x x s .none kV dc pm an cd ct) ⟨[a],[]⟩=pure (ps.zip [a]))(t:Yk Pm K mg G T r):Yk Pm K mg G T ((x,.fnq i) :: r):=by
 cases F with
 |mk a l e k=>exact⟨⟨_,_,ps,N,⟨s,_,_,_,_,_,_,_,_,_,_,c,rfl,l,e,q.1,q.2.1,q.2.2,hT⟩,k,PySem.W.mg_of X G0 a,fun m hm=>⟨[],[],fun _ _=>by rw[List.drop_nil];exact .nil,.nil,bd1 hl (hb _ _ _ _ _ _)⟩⟩,t⟩
inductive XAt(K:Fg)(y:Str)(s:Stmt)(C:Addr):Prop
 |mk {fI B1 B2 N:Addr}{nm q:Str}{bs:List Value}{sn:List Str}{sub:List Value}{ab:Bool}{col:Option Bool}{dd ofd an:Option Addr}{k0 k1 k2 k3 k5:Option Value}{ofc kV dc pm cd ct:Value}{ofs:Array (Option Value)}
  (l:K.lookup C=some (excClassObj nm q C N bs [.ref B1,.ref B2,.type "ValueError",.type "Exception",.type "BaseException",.type "object"] true sn sub ab col dd k0 k1 k2 k3 k5 "ValueError.__new__"))
  (sa:PySem.W.findIn K (.ref C) "__setattr__"=some (some (.builtin "object.__setattr__"))) (na:PySem.W.findIn K (.ref C) "line"=some none) (ini:PySem.W.findIn K (.ref C) "__init__"=some (some (.ref fI))) (kp:PySem.W.keepIn K (.ref C)=true)
  (ga:PySem.W.findIn K (.ref C) "__getattribute__"=some (some (.builtin "BaseException.__getattribute__"))) (gn:PySem.W.findIn K (.ref C) "__getattr__"=some none) (gc:PySem.W.findIn K (.ref C) "__class__"=some (some (.builtin "object.__class__")))
  (gs:PySem.W.specialIn K (.builtin "object.__class__") "__get__"=some (some (.builtin "getset_descriptor.__get__"))) (gt:PySem.W.takesIn K (.builtin "object.__class__")=some true) (gm:PySem.W.mroIn K C (.type "object")=some true) (gd:PySem.W.hasDictIn K C=true)
  (li:K.lookup fI=some ⟨ofc,ofd,.func (PySem.W.fnOf "__init__" y (defArgs s) (defBody s) (defScope s) .none kV dc pm an cd ct),ofs⟩) (ci:PySem.W.codeIn K cd y=true) (ic:ofc=.type "function") (kv:PySem.W.kitOne K (.ref C) (.type "ValueError")=some true):XAt K y s C
theorem XAt.g{C:Ad}(h:XAt K y s C):XG K C:=by
 cases h with
 |@mk fI B1 B2 N nm q bs sn sub ab col dd ofd an k0 k1 k2 k3 k5 ofc kV dc pm cd ct ofs l sa na ini kp ga gn gc gs gt gm gd li ci ic kv=>exact⟨⟨⟨_,_,_,_,_,_,_,_,_,_,_,_,_,_,_,_,_,_,l,⟨[B1,B2],rfl⟩,F.attrBase_ValueError⟩,ga,gn,gc,gs,gt,gm,gd⟩,na,kv⟩
def Zfg(s:Stmt)(a0 a1:Str):Prop:=(∃ p1 p2 p3 p4,defBody s=[.Assign [.Attribute (.Name a0 p1) "line" p2] (.Name a1 p3) p4])/\FnScope [a0,a1] [a0,a1] (defScope s)/\(Vis (defScope s) a0/\Vis (defScope s) a1)/\((a0==("__debug__":Str))=false/\(a1==("__debug__":Str))=false)/\((a0==("__classdict__":Str))=false/\(a1==("__classdict__":Str))=false) /\
 ∀ z kV dc pm an cd ct a b,bindArgs (PySem.W.fnOf "__init__" z (defArgs s) (defBody s) (defScope s) .none kV dc pm an cd ct) ⟨[a,b],[]⟩=pure [(a0,a),(a1,b)]
theorem XAt.ra{C:Ad}{a0 a1:Str}(h:XAt K y s C)(hi:Zfg s a0 a1):∃ (fI:Ad) (fd:FuncData) (pn:Li Str),XCls K C fI "line"/\(∀ P w base,FnOk P w K mg base CX0 1 fI fd pn (spI C "line"))/\Binds K fd pn []:=by
 cases h with
 |@mk fI B1 B2 N nm q bs sn sub ab col dd ofd an k0 k1 k2 k3 k5 ofc kV dc pm cd ct ofs l sa na ini kp ga gn gc gs gt gm gd li ci ic kv=>
  obtain⟨⟨p1,p2,p3,p4,hb⟩,S,⟨v0,v1⟩,⟨d0,d1⟩,⟨g0,g1⟩,bn⟩:=hi;have xc:XCls K C fI "line":=⟨⟨_,_,_,_,_,_,_,_,_,_,_,_,_,_,_,_,_,_,_,_,l,⟨[B1,B2],rfl⟩,F.excBase_ValueError,F.store_ValueError⟩,sa,na,ini,⟨_,li,ic⟩,kp⟩;have bn:=bn y kV dc pm an cd ct;rw[hb]at li bn;exact⟨fI,_,[a0,a1],xc,fun P w base=>init_x xc li ci S v0 v1 d0 d1 g0 g1,bd2 rfl bn⟩
theorem gX{C C1 C2 C3 C4:Ad}{l:Li Nat}(X:K.In h)(G0:h.Ns mainGlobals mg)(hC:ClsTab.ca i=C)(h1:ClsTab.ca 224=C1)(h2:ClsTab.ca 225=C2)(h3:ClsTab.ca 226=C3)(h4:ClsTab.ca 227=C4)(ya:PySem.W.nsIn K mainGlobals x=some (some (.ref C)))(k1:PySem.W.kitOne K (.ref C1) (.ref C)=some (l.contains 224))(k2:PySem.W.kitOne K (.ref C2) (.ref C)=some (l.contains 225))(k3:PySem.W.kitOne K (.ref C3) (.ref C)=some (l.contains 226))(k4:PySem.W.kitOne K (.ref C4) (.ref C)=some (l.contains 227))(e:∀ c∈l,PySem.W.exmOne K (.ref (ClsTab.ca c)) (.ref C)=some true/\XG K (ClsTab.ca c))(ra:i∈exNums->∃ (fI:Ad) (fd:FuncData) (pn:Li Str),XCls K (ClsTab.ca i) fI "line"/\(∀ P w base,FnOk P w K mg base CX0 1 fI fd pn (spI (ClsTab.ca i) "line"))/\Binds K fd pn [])(t:Yk Pm K mg G T r):Yk Pm K mg G T ((x,.exc i l) :: r):=by
 subst hC h1 h2 h3 h4;refine⟨⟨PySem.W.mg_of X G0 ya,fun c hc=>?_,e,ra⟩,t⟩
 rcases aG.mp hc with rfl|hc
 ·exact k1
 ·rcases aG.mp hc with rfl|hc
  ·exact k2
  ·rcases aG.mp hc with rfl|hc
   ·exact k3
   ·cases bG.mp hc
    exact k4
theorem gL{fa:Ad}{z:Str}(X:K.In h)(G0:h.Ns mainGlobals mg)(hfa:mg x=some (.ref fa))(F:FnAt K x s)(q:Xy G s N [z] c)(hT:T i=some ⟨1,N.length,c⟩)(hb:∀ kV dc pm an cd ct u,bindArgs (fnS x x s .none kV dc pm an cd ct) ⟨[u],[]⟩=pure [(z,u)]):∃ (fd:FuncData) (N:Li Str),(∀ (s:sH7) (u:vL),BindsTo s fd ⟨[u],[]⟩ [(z,u)])/\DefOk K mg G T x i [] fa fd [z] N:=by
 cases F with
 |@mk f _ _ _ _ _ _ _ _ _ a l e k=>
  have e':=hfa.symm.trans (PySem.W.mg_of X G0 a);have e':fa=f:=by cases e';rfl
  rw[e'];exact⟨_,N,fun _ u=>.of_eq (hb _ _ _ _ _ _ u),⟨s,_,_,_,_,_,_,_,_,_,_,c,rfl,l,e,q.1,q.2.1,q.2.2,hT⟩,k,PySem.W.mg_of X G0 a,fun m hm=>⟨[],[],fun _ _=>by rw[List.drop_nil];exact .nil,.nil,.all fun us hl=>by obtain⟨u,rfl⟩:=ZfJ hl;exact hb _ _ _ _ _ _ u⟩⟩
end
omit [ClsTab] in
theorem Ju{l:PySem.W.OpenLaw}{q:Program}{loose:Li Str}{XP:(Str->Ot vL)->Heap->Prop}{YP:World->Heap->Prop}{d:DefRec}{K:Params->Fg}{G:Gs}{T:Nat->Ot FD}{n i:Nat}{x:Str}(hn:l.most=some 63)(hdf:d.params.defaults=[])(hr:Room (2 * n+2) callerA)(hY:∀ (w:World) (h:Heap),YP w h->(K w.params).In h)(hc:∀ [ClsTab] n,YA G (run T n))(hq:∀ [ClsTab] n,YA (ZY G) (run T n))(hlq:ZN (ZY G)=false)(F:∀ (w:World) (mg:Str->Ot vL) (fa:Ad) (h:Heap),(K w.params).In h->h.Ns mainGlobals mg->mg d.name=some (.ref fa)->
   ∃ _:ClsTab,Text w.params (K w.params) mg G T/\∃ (fd:FuncData) (N:Li Str),(∀ (s:sH7) (u:vL),BindsTo s fd ⟨[u],[]⟩ [(x,u)])/\DefOk (K w.params) mg G T d.name i [] fa fd [x] N)(L:∀ ns:Li Int,ns.length<=63->∃ st',run T n i [.lst 0] [(false,ns.map .int)]=some (.bl true,st')) :
  PySem.W.WalkO q loose XP YP l.row.toRowW d [] (fun f vs=>PySem.call f vs):=
 L2.walk_of (n:=63) (k:=2 * n+2) (x:=x) (CX:=fun w=>CX1 l.prog w) (sp:=fun w vs H Q E=>∀ c:ClsTab,@spD c (K w.params) (run T n i) vs H Q E) hn (by decide) hdf hr hY
  (fun w mg fa h KX G0 hmg=>by
   obtain⟨c,X,fd,N,hb,Dk⟩:=F w mg fa h KX G0 hmg;refine⟨fd,hb,fun base _ _=>?_⟩
   have fo:=JS (P:=l.prog) (w:=w) (base:=base) (fun n=>hc n) (fun n=>hq n) hlq X n Dk.ob
   exact⟨fun vs H Q E z=>fo.len vs H Q E (z c),fun A outer s H args us vs Q E a1 a2 a3 a4 z=>fo.run A outer s H args us vs Q E a1 a2 a3 a4 (z c)⟩)
  (fun w H a ns hl hO hS c=>Ze3 hO hS (L ns hl)) fun _ _ _ _ _ ⟨_,_,_,_,_,_,_,_,z⟩=>z

end Dp


namespace Dp
open PySem
noncomputable def c_around:FD:=⟨1,1,(.seq (.ret (.bin .Sub (.bin .Mod (.bin .Add (.var 0) (.cst (.int 1000000000))) (.cst (.int 2000000000))) (.cst (.int 1000000000))))
 .skip)⟩
noncomputable def Wm:CE:=(.comp false [1] (.var 0) (.cmp .In (.var 0) (.var 1)) (.cst (.bl true)))
noncomputable def c_is_made_of:FD:=⟨3,3,(.seq (.ret (.and (.and (.cmp .LtE (.cst (.int 1)) (.len (.var 0))) (.cmp .LtE (.len (.var 0)) (.var 2))) (.all Wm)))
 .skip)⟩
noncomputable def c_is_name:FD:=⟨1,1,(.seq (.ret (.call 209 (.aC (.var 0) (.aC (.cst (.str (S "abcdefghijklmnopqrstuvwxyz"))) (.aC (.cst (.int 8)) .aN))) []))
 .skip)⟩
noncomputable def c_are_figures:FD:=⟨2,2,(.seq (.ret (.and (.call 209 (.aC (.var 0) (.aC (.cst (.str (S "0123456789"))) (.aC (.var 1) .aN))) []) (.or (.cmp .Eq (.var 0) (.cst (.str (S "0")))) (.cmp .NotEq (.ix (.var 0) (.cst (.int 0))) (.cst (.str (S "0")))))))
 .skip)⟩
noncomputable def c_number_in:FD:=⟨1,3,(.seq (.set 1 (.ife (.starts (.var 0) (.aC (.cst (.str (S "-"))) .aN)) (.slice (.var 0) (.part (.cst (.int 1))) .nop) (.var 0)))
 (.seq (.ite (.or (.cmp .Eq (.var 0) (.cst (.str (S "-0")))) (.not (.call 211 (.aC (.var 1) (.aC (.cst (.int 10)) .aN)) []))) (.seq (.ret (.cst .non))
 .skip) .skip)
 (.seq (.set 2 (.intOf (.var 0)))
 (.seq (.ret (.ife (.cmp .Eq (.call 0 (.aC (.var 2) .aN) []) (.var 2)) (.var 2) (.cst .non)))
 .skip))))⟩
noncomputable def c_place_in:FD:=⟨1,1,(.seq (.ret (.ife (.call 211 (.aC (.var 0) (.aC (.cst (.int 2)) .aN)) []) (.intOf (.var 0)) (.cst .non)))
 .skip)⟩
noncomputable def c_fits:FD:=⟨2,2,(.seq (.ite (.cmp .Eq (.var 1) (.cst (.str (S "name")))) (.seq (.ret (.call 210 (.aC (.var 0) .aN) []))
 .skip) .skip)
 (.seq (.ite (.cmp .Eq (.var 1) (.cst (.str (S "number")))) (.seq (.ret (.cmp .IsNot (.call 212 (.aC (.var 0) .aN) []) (.cst .non)))
 .skip) .skip)
 (.seq (.ite (.cmp .Eq (.var 1) (.cst (.str (S "operand")))) (.seq (.ret (.or (.call 210 (.aC (.var 0) .aN) []) (.cmp .IsNot (.call 212 (.aC (.var 0) .aN) []) (.cst .non))))
 .skip) .skip)
 (.seq (.ite (.cmp .Eq (.var 1) (.cst (.str (S "put sign")))) (.seq (.ret (.cmp .In (.var 0) (.cst (.kt [(S "+"),(S "-"),(S "*"),(S "/"),(S "mod")]))))
 .skip) .skip)
 (.seq (.ite (.cmp .Eq (.var 1) (.cst (.str (S "if sign")))) (.seq (.ret (.cmp .In (.var 0) (.cst (.kt [(S "<"),(S "<="),(S "="),(S ">="),(S ">"),(S "!=")]))))
 .skip) .skip)
 (.seq (.ite (.cmp .Eq (.var 1) (.cst (.str (S "place")))) (.seq (.ret (.cmp .IsNot (.call 213 (.aC (.var 0) .aN) []) (.cst .non)))
 .skip) .skip)
 (.seq (.ret (.cmp .Eq (.var 0) (.var 1)))
 .skip)))))))⟩
noncomputable def XO:CE:=(.comp2 [] (.aC (.slice (.var 0) (.part (.cst (.int 1))) .nop) (.aC (.var 1) .aN)) (.call 232 (.aC (.var 0) (.aC (.var 1) .aN)) []) (.cst (.bl true)))
noncomputable def c_is_line:FD:=⟨1,2,(.seq (.ite (.cmp .NotIn (.ix (.var 0) (.cst (.int 0))) (.cst (.kt [(S "take"),(S "name"),(S "put"),(S "if"),(S "go"),(S "tell"),(S "skip")]))) (.seq (.ret (.cst (.bl false)))
 .skip) .skip)
 (.seq (.set 1 (.look [(S "take"),(S "name"),(S "put"),(S "if"),(S "go"),(S "tell"),(S "skip")] [(.tup [(.str (S "name")),(.str (S "number")),(.str (S "number"))]),(.tup [(.str (S "name"))]),(.tup [(.str (S "name")),(.str (S "operand")),(.str (S "put sign")),(.str (S "operand"))]),(.tup [(.str (S "operand")),(.str (S "if sign")),(.str (S "operand")),(.str (S "go")),(.str (S "place"))]),(.tup [(.str (S "place"))]),(.tup [(.str (S "operand"))]),(.tup [])] (.ix (.var 0) (.cst (.int 0)))))
 (.seq (.ite (.or (.cmp .NotEq (.len (.var 0)) (.bin .Add (.cst (.int 1)) (.len (.var 1)))) (.not (.all XO))) (.seq (.ret (.cst (.bl false)))
 .skip) .skip)
 (.seq (.ret (.or (.cmp .NotEq (.ix (.var 0) (.cst (.int 0))) (.cst (.str (S "take")))) (.cmp .LtE (.call 212 (.aC (.ix (.var 0) (.cst (.int 2))) .aN) []) (.call 212 (.aC (.ix (.var 0) (.cst (.int 3))) .aN) []))))
 .skip))))⟩
noncomputable def YH:CS:=(.seq (.ite (.and (.cmp .In (.var 3) (.tupE (.aC (.cst (.str (S "name"))) (.aC (.cst (.str (S "operand"))) .aN)))) (.call 210 (.aC (.var 2) .aN) [])) (.seq (.app 1 (.var 2))
 .skip) .skip)
 .skip)
noncomputable def c_names_read:FD:=⟨1,4,(.seq (.set 1 (.lstE .aN))
 (.seq (.forP 2 3 (.aC (.slice (.var 0) (.part (.cst (.int 1))) .nop) (.aC (.look [(S "take"),(S "name"),(S "put"),(S "if"),(S "go"),(S "tell"),(S "skip")] [(.tup [(.str (S "name")),(.str (S "number")),(.str (S "number"))]),(.tup [(.str (S "name"))]),(.tup [(.str (S "name")),(.str (S "operand")),(.str (S "put sign")),(.str (S "operand"))]),(.tup [(.str (S "operand")),(.str (S "if sign")),(.str (S "operand")),(.str (S "go")),(.str (S "place"))]),(.tup [(.str (S "place"))]),(.tup [(.str (S "operand"))]),(.tup [])] (.ix (.var 0) (.cst (.int 0)))) .aN)) YH)
 (.seq (.ret (.var 1))
 .skip)))⟩
noncomputable def c_operand_in:FD:=⟨2,2,(.seq (.ite (.call 210 (.aC (.var 0) .aN) []) (.seq (.ret (.tupE (.aC (.cst (.str (S "name"))) (.aC (.ix (.var 1) (.var 0)) .aN))))
 .skip) .skip)
 (.seq (.ret (.tupE (.aC (.cst (.str (S "number"))) (.aC (.call 212 (.aC (.var 0) .aN) []) .aN))))
 .skip))⟩
noncomputable def Wa:CS:=(.seq (.ite (.cmp .Eq (.var 4) (.cst (.str (S "name")))) (.seq (.app 2 (.ix (.var 1) (.var 3)))
 .skip) (.seq (.ite (.cmp .Eq (.var 4) (.cst (.str (S "operand")))) (.seq (.app 2 (.call 235 (.aC (.var 3) (.aC (.var 1) .aN)) []))
 .skip) (.seq (.ite (.cmp .Eq (.var 4) (.cst (.str (S "place")))) (.seq (.app 2 (.call 213 (.aC (.var 3) .aN) []))
 .skip) (.seq (.ite (.cmp .NotEq (.var 4) (.cst (.str (S "go")))) (.seq (.app 2 (.var 3))
 .skip) .skip)
 .skip))
 .skip))
 .skip))
 .skip)
noncomputable def c_row_of:FD:=⟨2,5,(.seq (.set 2 (.lstE (.aC (.ix (.var 0) (.cst (.int 0))) .aN)))
 (.seq (.forP 3 4 (.aC (.slice (.var 0) (.part (.cst (.int 1))) .nop) (.aC (.look [(S "take"),(S "name"),(S "put"),(S "if"),(S "go"),(S "tell"),(S "skip")] [(.tup [(.str (S "name")),(.str (S "number")),(.str (S "number"))]),(.tup [(.str (S "name"))]),(.tup [(.str (S "name")),(.str (S "operand")),(.str (S "put sign")),(.str (S "operand"))]),(.tup [(.str (S "operand")),(.str (S "if sign")),(.str (S "operand")),(.str (S "go")),(.str (S "place"))]),(.tup [(.str (S "place"))]),(.tup [(.str (S "operand"))]),(.tup [])] (.ix (.var 0) (.cst (.int 0)))) .aN)) Wa)
 (.seq (.ret (.tOf (.var 2)))
 .skip)))⟩
noncomputable def c_Draft___init__:FD:=⟨1,1,(.seq (.put 0 (.cst (.str (S "takes"))) (.lstE .aN))
 (.seq (.put 0 (.cst (.str (S "names"))) .dnew)
 (.seq (.put 0 (.cst (.str (S "rows"))) (.lstE .aN))
 (.seq (.put 0 (.cst (.str (S "aims"))) (.lstE .aN))
 .skip))))⟩
noncomputable def c_Draft_has_room:FD:=⟨2,3,(.seq (.ite (.cmp .Eq (.var 1) (.cst (.str (S "take")))) (.seq (.set 2 (.and (.cmp .Eq (.len (.dict [(S "names")] (.var 0))) (.len (.dict [(S "takes")] (.var 0)))) (.cmp .Eq (.len (.dict [(S "rows")] (.var 0))) (.cst (.int 0)))))
 (.seq (.ret (.and (.var 2) (.cmp .Lt (.len (.dict [(S "takes")] (.var 0))) (.cst (.int 3)))))
 .skip)) .skip)
 (.seq (.ite (.cmp .Eq (.var 1) (.cst (.str (S "name")))) (.seq (.ret (.and (.cmp .Eq (.len (.dict [(S "rows")] (.var 0))) (.cst (.int 0))) (.cmp .Lt (.len (.dict [(S "names")] (.var 0))) (.cst (.int 5)))))
 .skip) .skip)
 (.seq (.ret (.cmp .Lt (.len (.dict [(S "rows")] (.var 0))) (.cst (.int 12))))
 .skip)))⟩
noncomputable def c_Draft_read_line:FD:=⟨3,3,(.seq (.ite (.or (.not (.call 233 (.aC (.var 1) .aN) [])) (.not (.meth [(237,239)] (.var 0) (.aC (.ix (.var 1) (.cst (.int 0))) .aN)))) (.seq (.ext 224 (.var 2))
 .skip) .skip)
 (.seq (.ite (.cmp .In (.ix (.var 1) (.cst (.int 0))) (.tupE (.aC (.cst (.str (S "take"))) (.aC (.cst (.str (S "name"))) .aN)))) (.seq (.act (.meth [(237,241)] (.var 0) (.aC (.var 1) (.aC (.var 2) .aN))))
 .skip) (.seq (.act (.meth [(237,242)] (.var 0) (.aC (.var 1) (.aC (.var 2) .aN))))
 .skip))
 .skip))⟩
noncomputable def c_Draft_read_name:FD:=⟨3,3,(.seq (.ite (.cmp .In (.ix (.var 1) (.cst (.int 1))) (.dict [(S "names")] (.var 0))) (.seq (.ext 225 (.var 2))
 .skip) .skip)
 (.seq (.dput 0 (.dict [(S "names")] (.var 0)) (.ix (.var 1) (.cst (.int 1))) (.len (.dict [(S "names")] (.var 0))))
 (.seq (.ite (.cmp .Eq (.ix (.var 1) (.cst (.int 0))) (.cst (.str (S "take")))) (.seq (.app2 (.dict [(S "takes")] (.var 0)) (.tupE (.aC (.call 212 (.aC (.ix (.var 1) (.cst (.int 2))) .aN) []) (.aC (.call 212 (.aC (.ix (.var 1) (.cst (.int 3))) .aN) []) .aN))))
 .skip) .skip)
 .skip)))⟩
noncomputable def Zs:CS:=(.seq (.ite (.cmp .NotIn (.var 3) (.dict [(S "names")] (.var 0))) (.seq (.ext 226 (.var 2))
 .skip) .skip)
 .skip)
noncomputable def c_Draft_read_row:FD:=⟨3,5,(.seq (.for1 3 false (.call 234 (.aC (.var 1) .aN) []) Zs)
 (.seq (.set 4 (.call 236 (.aC (.var 1) (.aC (.dict [(S "names")] (.var 0)) .aN)) []))
 (.seq (.app2 (.dict [(S "rows")] (.var 0)) (.var 4))
 (.seq (.ite (.cmp .In (.ix (.var 4) (.cst (.int 0))) (.tupE (.aC (.cst (.str (S "if"))) (.aC (.cst (.str (S "go"))) .aN)))) (.seq (.app2 (.dict [(S "aims")] (.var 0)) (.tupE (.aC (.var 2) (.aC (.ix (.var 4) (.neg (.cst (.int 1)))) .aN))))
 .skip) .skip)
 .skip))))⟩
noncomputable def Zk:CS:=(.seq (.ite (.cmp .Gt (.var 2) (.len (.dict [(S "rows")] (.var 0)))) (.seq (.ext 227 (.var 1))
 .skip) .skip)
 .skip)
noncomputable def c_Draft_check_places:FD:=⟨1,3,(.seq (.for2 1 2 (.dict [(S "aims")] (.var 0)) Zk)
 .skip)⟩
noncomputable def c_Draft_told:FD:=⟨1,1,(.seq (.ret (.tupE (.aC (.tOf (.dict [(S "takes")] (.var 0))) (.aC (.len (.dict [(S "names")] (.var 0))) (.aC (.tOf (.dict [(S "rows")] (.var 0))) .aN)))))
 .skip)⟩
noncomputable def ZV:CS:=(.seq (.ite (.and (.cmp .NotEq (.var 3) (.cst (.str (S "")))) (.not (.starts (.var 3) (.aC (.cst (.str (S "#"))) .aN)))) (.seq (.act (.meth [(237,240)] (.var 1) (.aC (.tix (.var 3) (.aC (.cst (.str (S " "))) .aN)) (.aC (.var 2) .aN))))
 .skip) .skip)
 .skip)
noncomputable def c_read:FD:=⟨1,4,(.seq (.set 1 (.isc [237,238] .aN))
 (.seq (.forE 2 3 (.tix (.var 0) (.aC (.cst (.str (S "\n"))) .aN)) ZV)
 (.seq (.act (.meth [(237,243)] (.var 1) .aN))
 (.seq (.ret (.meth [(237,244)] (.var 1) .aN))
 .skip))))⟩
noncomputable def c__law_whole:FD:=⟨1,1,(.seq (.ret (.and (.isi .int (.var 0)) (.not (.isi .bool (.var 0)))))
 .skip)⟩
noncomputable def c__law_cell_at:FD:=⟨2,2,(.seq (.ite (.cmp .Lt (.var 1) (.len (.var 0))) (.seq (.ret (.ix (.var 0) (.var 1)))
 .skip) .skip)
 (.seq (.ite (.cmp .Eq (.var 0) (.lstE .aN)) (.seq (.ret (.bin .Mod (.bin .Mult (.bin .Add (.bin .Mult (.var 1) (.var 1)) (.cst (.int 7))) (.cst (.int 48271))) (.cst (.int 2147483629))))
 .skip) .skip)
 (.seq (.ret (.bin .Mod (.bin .Mult (.bin .Add (.bin .Mod (.ix (.var 0) (.cst (.int 0))) (.cst (.int 2147483647))) (.cst (.int 7))) (.bin .Add (.bin .Mult (.var 1) (.var 1)) (.cst (.int 48271)))) (.cst (.int 2147483629))))
 .skip)))⟩
noncomputable def c__law_small_by:FD:=⟨1,2,(.seq (.set 1 (.lstE (.aC (.neg (.cst (.int 1000000000))) (.aC (.neg (.cst (.int 999999999))) (.aC (.neg (.cst (.int 2))) (.aC (.neg (.cst (.int 1))) (.aC (.cst (.int 0)) (.aC (.cst (.int 1)) (.aC (.cst (.int 2)) (.aC (.cst (.int 999999999)) .aN))))))))))
 (.seq (.ite (.cmp .Eq (.bin .Mod (.var 0) (.cst (.int 3))) (.cst (.int 0))) (.seq (.ret (.ix (.var 1) (.bin .Mod (.bin .FloorDiv (.var 0) (.cst (.int 3))) (.cst (.int 8)))))
 .skip) .skip)
 (.seq (.ite (.cmp .Eq (.bin .Mod (.var 0) (.cst (.int 3))) (.cst (.int 1))) (.seq (.ret (.bin .Sub (.bin .Mod (.bin .FloorDiv (.var 0) (.cst (.int 3))) (.cst (.int 13))) (.cst (.int 6))))
 .skip) .skip)
 (.seq (.ret (.bin .Sub (.bin .Mod (.bin .Mult (.bin .FloorDiv (.var 0) (.cst (.int 3))) (.cst (.int 48271))) (.cst (.int 2000000000))) (.cst (.int 1000000000))))
 .skip))))⟩
noncomputable def c__law_operand:FD:=⟨2,2,(.seq (.ite (.and (.cmp .Gt (.var 1) (.cst (.int 0))) (.cmp .Gt (.bin .Mod (.var 0) (.cst (.int 3))) (.cst (.int 0)))) (.seq (.ret (.tupE (.aC (.cst (.str (S "name"))) (.aC (.bin .Mod (.bin .FloorDiv (.var 0) (.cst (.int 3))) (.var 1)) .aN))))
 .skip) .skip)
 (.seq (.ret (.tupE (.aC (.cst (.str (S "number"))) (.aC (.call 19 (.aC (.bin .FloorDiv (.var 0) (.cst (.int 3))) .aN) []) .aN))))
 .skip))⟩
noncomputable def c__law_row:FD:=⟨4,9,(.seq (.set 4 (.call 28 (.aC (.bin .Mod (.bin .Mult (.var 1) (.cst (.int 48271))) (.cst (.int 2147483647))) (.aC (.var 2) .aN)) []))
 (.seq (.set 5 (.call 28 (.aC (.bin .Mod (.bin .Mult (.bin .Add (.var 1) (.cst (.int 5))) (.cst (.int 1226874159))) (.cst (.int 2147483647))) (.aC (.var 2) .aN)) []))
 (.seq (.set 6 (.bin .Mod (.bin .Mult (.var 0) (.cst (.int 48271))) (.cst (.int 2147483647))))
 (.seq (.set 7 (.bin .Mod (.bin .Mod (.bin .Mult (.bin .Add (.var 0) (.cst (.int 1))) (.cst (.int 742938285))) (.cst (.int 2147483647))) (.bin .Add (.var 3) (.cst (.int 1)))))
 (.seq (.ite (.and (.cmp .Lt (.bin .Mod (.var 0) (.cst (.int 8))) (.cst (.int 3))) (.cmp .Gt (.var 2) (.cst (.int 0)))) (.seq (.set 8 (.bin .Mod (.bin .Mod (.bin .Mult (.bin .Add (.var 1) (.cst (.int 3))) (.cst (.int 950706376))) (.cst (.int 2147483647))) (.var 2)))
 (.seq (.ret (.tupE (.aC (.cst (.str (S "put"))) (.aC (.var 8) (.aC (.var 4) (.aC (.ix (.lstE (.aC (.cst (.str (S "+"))) (.aC (.cst (.str (S "-"))) (.aC (.cst (.str (S "*"))) (.aC (.cst (.str (S "/"))) (.aC (.cst (.str (S "mod"))) .aN)))))) (.bin .Mod (.var 6) (.cst (.int 5)))) (.aC (.var 5) .aN)))))))
 .skip)) .skip)
 (.seq (.ite (.cmp .Lt (.bin .Mod (.var 0) (.cst (.int 8))) (.cst (.int 6))) (.seq (.ret (.tupE (.aC (.cst (.str (S "if"))) (.aC (.var 4) (.aC (.ix (.lstE (.aC (.cst (.str (S "<"))) (.aC (.cst (.str (S "<="))) (.aC (.cst (.str (S "="))) (.aC (.cst (.str (S ">="))) (.aC (.cst (.str (S ">"))) (.aC (.cst (.str (S "!="))) .aN))))))) (.bin .Mod (.var 6) (.cst (.int 6)))) (.aC (.var 5) (.aC (.var 7) .aN)))))))
 .skip) .skip)
 (.seq (.ite (.cmp .Eq (.bin .Mod (.var 0) (.cst (.int 8))) (.cst (.int 6))) (.seq (.ret (.ix (.lstE (.aC (.tupE (.aC (.cst (.str (S "go"))) (.aC (.var 7) .aN))) (.aC (.tupE (.aC (.cst (.str (S "skip"))) .aN)) .aN))) (.bin .Mod (.var 6) (.cst (.int 2)))))
 .skip) .skip)
 (.seq (.ret (.tupE (.aC (.cst (.str (S "tell"))) (.aC (.var 4) .aN))))
 .skip))))))))⟩
noncomputable def Xz:CS:=(.seq (.set 10 (.call 19 (.aC (.call 27 (.aC (.var 0) (.aC (.bin .Add (.cst (.int 2)) (.bin .Mult (.cst (.int 2)) (.var 7))) .aN)) []) .aN) []))
 (.seq (.set 11 (.call 19 (.aC (.call 27 (.aC (.var 0) (.aC (.bin .Add (.cst (.int 3)) (.bin .Mult (.cst (.int 2)) (.var 7))) .aN)) []) .aN) []))
 (.seq (.app 9 (.tupE (.aC (.min (.var 10) (.var 11)) (.aC (.max (.var 10) (.var 11)) .aN))))
 .skip)))
noncomputable def XA:CS:=(.seq (.set 8 (.call 27 (.aC (.var 0) (.aC (.bin .Add (.cst (.int 8)) (.bin .Mult (.cst (.int 2)) (.var 7))) .aN)) []))
 (.seq (.app 6 (.call 29 (.aC (.var 8) (.aC (.call 27 (.aC (.var 0) (.aC (.bin .Add (.cst (.int 9)) (.bin .Mult (.cst (.int 2)) (.var 7))) .aN)) []) (.aC (.var 4) (.aC (.var 5) .aN)))) []))
 .skip))
noncomputable def c__law_program:FD:=⟨2,12,(.seq (.set 2 (.bin .Mod (.call 27 (.aC (.var 0) (.aC (.cst (.int 0)) .aN)) []) (.cst (.int 2147483647))))
 (.seq (.set 3 (.bin .Mod (.var 2) (.cst (.int 4))))
 (.seq (.set 4 (.bin .Add (.var 3) (.bin .Mod (.bin .Mod (.bin .Mult (.var 2) (.cst (.int 48271))) (.cst (.int 2147483647))) (.bin .Sub (.cst (.int 6)) (.var 3)))))
 (.seq (.set 5 (.bin .Mod (.call 27 (.aC (.var 0) (.aC (.cst (.int 1)) .aN)) []) (.bin .Add (.var 1) (.cst (.int 1)))))
 (.seq (.set 6 (.lstE .aN))
 (.seq (.for1 7 true (.var 5) XA)
 (.seq (.set 9 (.lstE .aN))
 (.seq (.for1 7 true (.var 3) Xz)
 (.seq (.ret (.tupE (.aC (.tOf (.var 9)) (.aC (.var 4) (.aC (.tOf (.var 6)) .aN)))))
 .skip)))))))))⟩
noncomputable def YK:CE:=(.comp true [0,2] (.cst (.int 8)) (.ix (.var 2) (.bin .Mod (.bin .FloorDiv (.var 1) (.bin .Add (.var 0) (.cst (.int 1)))) (.cst (.int 26)))) (.cst (.bl true)))
noncomputable def Wj:CE:=(.comp true [4,1] (.cst (.int 5)) (.slice (.var 1) .nop (.part (.bin .Add (.bin .Add (.cst (.int 1)) (.bin .Mod (.bin .FloorDiv (.var 2) (.cst (.int 4))) (.cst (.int 4)))) (.var 0)))) (.cst (.bl true)))
noncomputable def Wl:CE:=(.comp true [1,5] (.cst (.int 5)) (.ix (.var 2) (.bin .Mod (.bin .Add (.bin .FloorDiv (.var 1) (.cst (.int 4))) (.var 0)) (.cst (.int 8)))) (.cst (.bl true)))
noncomputable def X9:CS:=(.seq (.set 8 (.ix (.var 2) (.bin .Mod (.bin .Add (.bin .FloorDiv (.var 1) (.cst (.int 256))) (.bin .Mult (.var 3) (.bin .Add (.cst (.int 1)) (.bin .Mod (.bin .FloorDiv (.var 1) (.cst (.int 6656))) (.cst (.int 5)))))) (.cst (.int 26)))))
 (.seq (.app 7 (.bin .Add (.bin .Add (.slice (.var 4) .nop (.part (.var 6))) (.var 8)) (.slice (.var 4) (.part (.bin .Add (.var 6) (.cst (.int 1)))) .nop)))
 .skip))
noncomputable def c__law_names:FD:=⟨2,9,(.seq (.set 2 (.cst (.str (S "abcdefghijklmnopqrstuvwxyz"))))
 (.seq (.set 4 (.joinE (.cst (.str (S ""))) YK))
 (.seq (.ite (.cmp .Eq (.bin .Mod (.var 1) (.cst (.int 4))) (.cst (.int 0))) (.seq (.ret Wj)
 .skip) .skip)
 (.seq (.ite (.cmp .Eq (.bin .Mod (.var 1) (.cst (.int 4))) (.cst (.int 1))) (.seq (.set 5 (.lstE (.aC (.cst (.str (S "go"))) (.aC (.cst (.str (S "put"))) (.aC (.cst (.str (S "if"))) (.aC (.cst (.str (S "mod"))) (.aC (.cst (.str (S "take"))) (.aC (.cst (.str (S "name"))) (.aC (.cst (.str (S "tell"))) (.aC (.cst (.str (S "skip"))) .aN))))))))))
 (.seq (.ret Wl)
 .skip)) .skip)
 (.seq (.set 4 (.slice (.var 4) .nop (.part (.bin .Add (.cst (.int 1)) (.bin .Mod (.bin .FloorDiv (.var 1) (.cst (.int 4))) (.cst (.int 8)))))))
 (.seq (.set 6 (.bin .Mod (.bin .FloorDiv (.var 1) (.cst (.int 32))) (.len (.var 4))))
 (.seq (.set 7 (.lstE .aN))
 (.seq (.for1 3 true (.cst (.int 5)) X9)
 (.seq (.ret (.var 7))
 .skip)))))))))⟩
noncomputable def c__law_word:FD:=⟨2,2,(.seq (.ite (.cmp .Eq (.ix (.var 0) (.cst (.int 0))) (.cst (.str (S "name")))) (.seq (.ret (.ix (.var 1) (.ix (.var 0) (.cst (.int 1)))))
 .skip) .skip)
 (.seq (.ret (.strOf (.ix (.var 0) (.cst (.int 1)))))
 .skip))⟩
noncomputable def c__law_line:FD:=⟨2,3,(.seq (.ite (.cmp .Eq (.ix (.var 0) (.cst (.int 0))) (.cst (.str (S "put")))) (.seq (.set 2 (.bin .Add (.bin .Add (.bin .Add (.bin .Add (.bin .Add (.cst (.str (S "put "))) (.ix (.var 1) (.ix (.var 0) (.cst (.int 1))))) (.cst (.str (S " ")))) (.call 214 (.aC (.ix (.var 0) (.cst (.int 2))) (.aC (.var 1) .aN)) [])) (.cst (.str (S " ")))) (.ix (.var 0) (.cst (.int 3)))))
 (.seq (.ret (.bin .Add (.bin .Add (.var 2) (.cst (.str (S " ")))) (.call 214 (.aC (.ix (.var 0) (.cst (.int 4))) (.aC (.var 1) .aN)) [])))
 .skip)) .skip)
 (.seq (.ite (.cmp .Eq (.ix (.var 0) (.cst (.int 0))) (.cst (.str (S "if")))) (.seq (.set 2 (.bin .Add (.bin .Add (.bin .Add (.bin .Add (.bin .Add (.cst (.str (S "if "))) (.call 214 (.aC (.ix (.var 0) (.cst (.int 1))) (.aC (.var 1) .aN)) [])) (.cst (.str (S " ")))) (.ix (.var 0) (.cst (.int 2)))) (.cst (.str (S " ")))) (.call 214 (.aC (.ix (.var 0) (.cst (.int 3))) (.aC (.var 1) .aN)) [])))
 (.seq (.ret (.bin .Add (.bin .Add (.var 2) (.cst (.str (S " go ")))) (.strOf (.ix (.var 0) (.cst (.int 4))))))
 .skip)) .skip)
 (.seq (.ite (.cmp .Eq (.ix (.var 0) (.cst (.int 0))) (.cst (.str (S "go")))) (.seq (.ret (.bin .Add (.cst (.str (S "go "))) (.strOf (.ix (.var 0) (.cst (.int 1))))))
 .skip) .skip)
 (.seq (.ite (.cmp .Eq (.ix (.var 0) (.cst (.int 0))) (.cst (.str (S "tell")))) (.seq (.ret (.bin .Add (.cst (.str (S "tell "))) (.call 214 (.aC (.ix (.var 0) (.cst (.int 1))) (.aC (.var 1) .aN)) [])))
 .skip) .skip)
 (.seq (.ret (.cst (.str (S "skip"))))
 .skip)))))⟩
noncomputable def Wi:CE:=(.comp false [1] (.ix (.var 0) (.cst (.int 2))) (.call 221 (.aC (.var 0) (.aC (.var 1) .aN)) []) (.cst (.bl true)))
noncomputable def X8:CS:=(.seq (.ite (.cmp .Lt (.var 3) (.len (.ix (.var 0) (.cst (.int 0))))) (.seq (.set2 4 5 (.ix (.ix (.var 0) (.cst (.int 0))) (.var 3)))
 (.seq (.app 2 (.bin .Add (.bin .Add (.bin .Add (.bin .Add (.bin .Add (.cst (.str (S "take "))) (.ix (.var 1) (.var 3))) (.cst (.str (S " ")))) (.strOf (.var 4))) (.cst (.str (S " ")))) (.strOf (.var 5))))
 .skip)) (.seq (.app 2 (.bin .Add (.cst (.str (S "name "))) (.ix (.var 1) (.var 3))))
 .skip))
 .skip)
noncomputable def c__law_lines:FD:=⟨2,6,(.seq (.set 2 (.lstE .aN))
 (.seq (.for1 3 true (.ix (.var 0) (.cst (.int 1))) X8)
 (.seq (.ret (.bin .Add (.var 2) Wi))
 .skip)))⟩
noncomputable def ZP:CS:=(.seq (.app 2 (.ix (.var 0) (.var 3)))
 (.seq (.set 4 (.bin .Mod (.bin .FloorDiv (.var 1) (.bin .Add (.cst (.int 3)) (.bin .Mult (.cst (.int 2)) (.var 3)))) (.cst (.int 9))))
 (.seq (.ite (.cmp .Lt (.var 4) (.cst (.int 3))) (.seq (.set 2 (.bin .Add (.var 2) (.bin .Mult (.lstE (.aC (.ix (.lstE (.aC (.cst (.str (S ""))) (.aC (.cst (.str (S "#"))) (.aC (.bin .Add (.cst (.str (S "#"))) (.ix (.var 0) (.var 3))) .aN)))) (.var 4)) .aN)) (.bin .Add (.cst (.int 1)) (.bin .Mod (.bin .FloorDiv (.var 1) (.bin .Add (.cst (.int 5)) (.var 3))) (.cst (.int 3)))))))
 .skip) .skip)
 .skip)))
noncomputable def c__law_spread:FD:=⟨2,5,(.seq (.set 2 (.bin .Mult (.lstE (.aC (.cst (.str (S ""))) .aN)) (.bin .Mod (.var 1) (.cst (.int 3)))))
 (.seq (.for1 3 true (.len (.var 0)) ZP)
 (.seq (.ret (.var 2))
 .skip)))⟩
noncomputable def c__law_told_k15:FD:=⟨1,2,(.seq (.set 1 (.lstE (.aC (.isc [0,0,0,224] (.var 0)) (.aC (.isc [0,0,0,225] (.var 0)) (.aC (.isc [0,0,0,226] (.var 0)) (.aC (.isc [0,0,0,227] (.var 0)) .aN))))))
 (.seq (.set 1 (.bin .Add (.var 1) (.lstE (.aC (.isc [0,0,0] (.var 0)) (.aC (.isc [0,0,0] (.var 0)) .aN)))))
 (.seq (.ret (.tupE (.aC (.var 1) (.aC (.and (.isc [0,0,0,224,225,226,227] (.var 0)) (.isc [0,0,0,224,225,226,227] (.var 0))) (.aC (.isc [0] (.var 0)) .aN)))))
 .skip)))⟩
noncomputable def c__law_refused:FD:=⟨1,3,(.seq (.set 1 (.cst .non))
 (.seq (.whl (.compT [224,225,226,227] (.var 2) (.call 245 (.aC (.var 0) .aN) []) .nop) (.set 1 (.call 230 (.aC (.var 2) .aN) [])))
 (.seq (.ret (.var 1))
 .skip)))⟩
noncomputable def Zx:CS:=(.seq (.ite (.cmp .NotIn (.var 1) (.var 0)) (.seq (.ret (.var 1))
 .skip) .skip)
 .skip)
noncomputable def c__law_stranger:FD:=⟨1,2,(.seq (.for1 1 false (.lstE (.aC (.cst (.str (S "a"))) (.aC (.cst (.str (S "b"))) (.aC (.cst (.str (S "c"))) (.aC (.cst (.str (S "d"))) (.aC (.cst (.str (S "e"))) (.aC (.cst (.str (S "f"))) .aN))))))) Zx)
 (.seq (.ret (.cst (.str (S "a"))))
 .skip))⟩
noncomputable def c__law_bad_word:FD:=⟨1,2,(.seq (.set 1 (.lstE (.aC (.cst (.str (S "-0"))) (.aC (.cst (.str (S "007"))) (.aC (.cst (.str (S "00"))) (.aC (.cst (.str (S "-01"))) (.aC (.cst (.str (S "1000000000"))) (.aC (.cst (.str (S "-1000000001"))) (.aC (.cst (.str (S "99999999999"))) (.aC (.cst (.str (S "+1"))) (.aC (.cst (.str (S "1_0"))) (.aC (.cst (.str (S "1.0"))) (.aC (.cst (.str (S "--1"))) (.aC (.cst (.str (S "-"))) (.aC (.cst (.str (S "1-"))) .aN)))))))))))))))
 (.seq (.set 1 (.bin .Add (.var 1) (.lstE (.aC (.cst (.str (S "A"))) (.aC (.cst (.str (S "aB"))) (.aC (.cst (.str (S "a1"))) (.aC (.cst (.str (S "a_b"))) (.aC (.cst (.str (S "abcdefghi"))) (.aC (.cst (.str (S "Abc"))) (.aC (.cst (.str (S "a-"))) (.aC (.cst (.str (S "*"))) (.aC (.cst (.str (S "<"))) (.aC (.cst (.str (S "mod1"))) .aN)))))))))))))
 (.seq (.ret (.ix (.var 1) (.bin .Mod (.var 0) (.len (.var 1)))))
 .skip)))⟩
noncomputable def Xh:CE:=(.comp false [1] (.var 4) (.bin .Add (.bin .Add (.cst (.str (S "put "))) (.var 1)) (.var 0)) (.cst (.bl true)))
noncomputable def Xi:CE:=(.comp false [2] (.var 4) (.bin .Add (.bin .Add (.cst (.str (S "take "))) (.var 1)) (.var 0)) (.cst (.bl true)))
noncomputable def Xj:CE:=(.comp false [2] (.var 4) (.bin .Add (.bin .Add (.cst (.str (S "name "))) (.var 1)) (.var 0)) (.cst (.bl true)))
noncomputable def c__law_bad_form:FD:=⟨3,5,(.seq (.set 3 (.lstE (.aC (.cst (.str (S " "))) (.aC (.cst (.str (S "  "))) (.aC (.cst (.str (S "	"))) (.aC (.cst (.str (S " #"))) (.aC (.cst (.str (S " # a"))) (.aC (.cst (.str (S "	#"))) (.aC (.cst (.str (S "tell"))) (.aC (.cst (.str (S "tell 1 2"))) (.aC (.cst (.str (S "tells 1"))) (.aC (.cst (.str (S "Tell 1"))) (.aC (.cst (.str (S "skip 0"))) (.aC (.cst (.str (S "skips"))) (.aC (.cst (.str (S "go"))) .aN)))))))))))))))
 (.seq (.set 3 (.bin .Add (.var 3) (.lstE (.aC (.cst (.str (S "go 0 0"))) (.aC (.cst (.str (S "if 1 < 2 to 0"))) (.aC (.cst (.str (S "if 1 == 2 go 0"))) (.aC (.cst (.str (S "if 1 < 2 go"))) (.aC (.cst (.str (S "if 1 < 2 0"))) (.aC (.cst (.str (S "if 1 => 2 go 0"))) .aN)))))))))
 (.seq (.set 3 (.bin .Add (.var 3) (.lstE (.aC (.cst (.str (S "if 1 <> 2 go 0"))) (.aC (.cst (.str (S "go -1"))) (.aC (.cst (.str (S "go 01"))) (.aC (.cst (.str (S "go 100"))) (.aC (.cst (.str (S "if 1 < 2 go 01"))) (.aC (.cst (.str (S "if 1 < 2 go 100"))) (.aC (.cst (.str (S "name"))) (.aC (.cst (.str (S "take"))) .aN)))))))))))
 (.seq (.set 4 (.lstE (.aC (.cst (.str (S " 1 ** 1"))) (.aC (.cst (.str (S " 1 // 1"))) (.aC (.cst (.str (S " 1 + "))) (.aC (.cst (.str (S " 1 +"))) (.aC (.cst (.str (S " 1 < 1"))) (.aC (.cst (.str (S " = 1"))) (.aC (.cst (.str (S " 1 + 1 1"))) .aN)))))))))
 (.seq (.set 3 (.bin .Add (.var 3) Xh))
 (.seq (.set 4 (.lstE (.aC (.bin .Add (.cst (.str (S " "))) (.var 1)) (.aC (.cst (.str (S " 1"))) (.aC (.cst (.str (S " 2 1"))) (.aC (.cst (.str (S " 1 2 3"))) (.aC (.cst (.str (S " 1 2 "))) (.aC (.cst (.str (S ""))) .aN))))))))
 (.seq (.set 3 (.bin .Add (.var 3) Xi))
 (.seq (.set 4 (.lstE (.aC (.bin .Add (.cst (.str (S " "))) (.var 1)) (.aC (.cst (.str (S " 1"))) (.aC (.cst (.str (S " "))) .aN)))))
 (.seq (.set 3 (.bin .Add (.var 3) Xj))
 (.seq (.set 3 (.bin .Add (.var 3) (.lstE (.aC (.bin .Add (.bin .Add (.cst (.str (S "if "))) (.var 1)) (.cst (.str (S " mod 1 go 0")))) (.aC (.bin .Add (.cst (.str (S "names "))) (.var 2)) (.aC (.bin .Add (.cst (.str (S "Name "))) (.var 2)) (.aC (.bin .Add (.cst (.str (S " name "))) (.var 2)) (.aC (.bin .Add (.bin .Add (.cst (.str (S " take "))) (.var 2)) (.cst (.str (S " 1 2")))) .aN))))))))
 (.seq (.ret (.ix (.var 3) (.bin .Mod (.var 0) (.len (.var 3)))))
 .skip)))))))))))⟩
noncomputable def c__law_bad_line:FD:=⟨3,5,(.seq (.ite (.cmp .Eq (.bin .Mod (.var 0) (.cst (.int 3))) (.cst (.int 0))) (.seq (.ret (.call 258 (.aC (.bin .FloorDiv (.var 0) (.cst (.int 3))) (.aC (.var 1) (.aC (.var 2) .aN))) []))
 .skip) .skip)
 (.seq (.set 3 (.call 257 (.aC (.bin .FloorDiv (.var 0) (.cst (.int 36))) .aN) []))
 (.seq (.set 4 (.lstE (.aC (.bin .Add (.cst (.str (S "tell "))) (.var 3)) (.aC (.bin .Add (.bin .Add (.bin .Add (.bin .Add (.cst (.str (S "put "))) (.var 1)) (.cst (.str (S " ")))) (.var 3)) (.cst (.str (S " + 1")))) (.aC (.bin .Add (.bin .Add (.bin .Add (.cst (.str (S "put "))) (.var 1)) (.cst (.str (S " 1 - ")))) (.var 3)) (.aC (.bin .Add (.bin .Add (.cst (.str (S "if "))) (.var 3)) (.cst (.str (S " < 1 go 0")))) .aN))))))
 (.seq (.set 4 (.bin .Add (.var 4) (.lstE (.aC (.bin .Add (.bin .Add (.cst (.str (S "if 1 >= "))) (.var 3)) (.cst (.str (S " go 0")))) (.aC (.bin .Add (.bin .Add (.bin .Add (.bin .Add (.cst (.str (S "take "))) (.var 2)) (.cst (.str (S " ")))) (.var 3)) (.cst (.str (S " 9")))) (.aC (.bin .Add (.bin .Add (.bin .Add (.cst (.str (S "take "))) (.var 2)) (.cst (.str (S " -9 ")))) (.var 3)) .aN))))))
 (.seq (.set 4 (.bin .Add (.var 4) (.lstE (.aC (.bin .Add (.bin .Add (.cst (.str (S "take "))) (.var 3)) (.cst (.str (S " 1 2")))) (.aC (.bin .Add (.cst (.str (S "name "))) (.var 3)) (.aC (.bin .Add (.bin .Add (.cst (.str (S "put "))) (.var 3)) (.cst (.str (S " 1 + 1")))) (.aC (.bin .Add (.cst (.str (S "go "))) (.var 3)) (.aC (.bin .Add (.cst (.str (S "if 1 < 2 go "))) (.var 3)) .aN))))))))
 (.seq (.ret (.ix (.var 4) (.bin .Mod (.bin .FloorDiv (.var 0) (.cst (.int 3))) (.cst (.int 12)))))
 .skip))))))⟩
noncomputable def c__law_blanked:FD:=⟨2,3,(.seq (.ite (.cmp .Eq (.bin .Mod (.var 1) (.cst (.int 3))) (.cst (.int 0))) (.seq (.ret (.bin .Add (.cst (.str (S " "))) (.var 0)))
 .skip) .skip)
 (.seq (.ite (.cmp .Eq (.bin .Mod (.var 1) (.cst (.int 3))) (.cst (.int 1))) (.seq (.ret (.bin .Add (.var 0) (.ix (.lstE (.aC (.cst (.str (S " "))) (.aC (.cst (.str (S "	"))) (.aC (.cst (.str (S " a"))) (.aC (.cst (.str (S "	 "))) .aN))))) (.bin .Mod (.bin .FloorDiv (.var 1) (.cst (.int 3))) (.cst (.int 4))))))
 .skip) .skip)
 (.seq (.set 2 (.bin .Mod (.bin .FloorDiv (.var 1) (.cst (.int 3))) (.len (.var 0))))
 (.seq (.ret (.bin .Add (.bin .Add (.slice (.var 0) .nop (.part (.var 2))) (.cst (.str (S " ")))) (.slice (.var 0) (.part (.var 2)) .nop)))
 .skip))))⟩
noncomputable def c__law_fault_k14:FD:=⟨4,13,(.seq (.set 4 (.ix (.var 0) (.cst (.int 1))))
 (.seq (.set 5 (.len (.ix (.var 0) (.cst (.int 0)))))
 (.seq (.set 6 (.len (.ix (.var 0) (.cst (.int 2)))))
 (.seq (.ite (.and (.cmp .Eq (.bin .Mod (.var 2) (.cst (.int 6))) (.cst (.int 0))) (.and (.cmp .Lt (.cst (.int 0)) (.var 4)) (.cmp .Lt (.var 4) (.cst (.int 5))))) (.seq (.ite (.and (.cmp .Lt (.cst (.int 0)) (.var 5)) (.and (.cmp .Lt (.var 5) (.cst (.int 3))) (.cmp .Eq (.bin .Mod (.var 3) (.cst (.int 2))) (.cst (.int 0))))) (.seq (.set 7 (.bin .Add (.cst (.int 1)) (.bin .Mod (.bin .FloorDiv (.var 3) (.cst (.int 2))) (.var 5))))
 (.seq (.ret (.tupE (.aC (.cst (.int 1)) (.aC (.var 7) (.aC (.bin .Add (.bin .Add (.cst (.str (S "take "))) (.ix (.var 1) (.bin .Mod (.bin .FloorDiv (.var 3) (.cst (.int 6))) (.var 7)))) (.cst (.str (S " 1 2")))) .aN)))))
 .skip)) .skip)
 (.seq (.set 7 (.bin .Add (.max (.cst (.int 1)) (.var 5)) (.bin .Mod (.bin .FloorDiv (.var 3) (.cst (.int 2))) (.bin .Add (.bin .Sub (.var 4) (.max (.cst (.int 1)) (.var 5))) (.cst (.int 1))))))
 (.seq (.ret (.tupE (.aC (.cst (.int 1)) (.aC (.var 7) (.aC (.bin .Add (.cst (.str (S "name "))) (.ix (.var 1) (.bin .Mod (.bin .FloorDiv (.var 3) (.cst (.int 60))) (.var 7)))) .aN)))))
 .skip))) .skip)
 (.seq (.set 8 (.bin .Add (.var 4) (.bin .Mod (.bin .FloorDiv (.var 3) (.cst (.int 4))) (.bin .Add (.var 6) (.cst (.int 1))))))
 (.seq (.set 9 (.call 255 (.aC (.slice (.var 1) .nop (.part (.var 4))) .aN) []))
 (.seq (.ite (.cmp .Eq (.bin .Mod (.var 2) (.cst (.int 6))) (.cst (.int 1))) (.seq (.set 10 (.lstE (.aC (.bin .Add (.cst (.str (S "tell "))) (.var 9)) (.aC (.bin .Add (.bin .Add (.cst (.str (S "put "))) (.var 9)) (.cst (.str (S " 1 + 1")))) (.aC (.bin .Add (.bin .Add (.bin .Add (.cst (.str (S "put "))) (.ix (.var 1) (.cst (.int 0)))) (.cst (.str (S " 1 - ")))) (.var 9)) (.aC (.bin .Add (.bin .Add (.cst (.str (S "if "))) (.var 9)) (.cst (.str (S " < 1 go 0")))) .aN))))))
 (.seq (.set 10 (.bin .Add (.var 10) (.lstE (.aC (.bin .Add (.bin .Add (.cst (.str (S "if 1 >= "))) (.var 9)) (.cst (.str (S " go 0")))) .aN))))
 (.seq (.ite (.cmp .Eq (.var 4) (.cst (.int 0))) (.seq (.ret (.tupE (.aC (.cst (.int 2)) (.aC (.var 8) (.aC (.bin .Add (.cst (.str (S "tell "))) (.var 9)) .aN)))))
 .skip) .skip)
 (.seq (.ret (.tupE (.aC (.cst (.int 2)) (.aC (.var 8) (.aC (.ix (.var 10) (.bin .Mod (.bin .FloorDiv (.var 3) (.cst (.int 60))) (.cst (.int 5)))) .aN)))))
 .skip)))) .skip)
 (.seq (.ite (.cmp .Eq (.bin .Mod (.var 2) (.cst (.int 6))) (.cst (.int 2))) (.seq (.set 11 (.strOf (.bin .Add (.bin .Add (.var 6) (.cst (.int 2))) (.bin .Mod (.bin .FloorDiv (.var 3) (.cst (.int 60))) (.bin .Sub (.cst (.int 98)) (.var 6))))))
 (.seq (.ret (.tupE (.aC (.cst (.int 3)) (.aC (.var 8) (.aC (.ix (.lstE (.aC (.bin .Add (.cst (.str (S "go "))) (.var 11)) (.aC (.bin .Add (.cst (.str (S "if 1 < 2 go "))) (.var 11)) .aN))) (.bin .Mod (.bin .FloorDiv (.var 3) (.cst (.int 7200))) (.cst (.int 2)))) .aN)))))
 .skip)) .skip)
 (.seq (.set 12 (.bin .Mod (.bin .FloorDiv (.var 3) (.cst (.int 4))) (.bin .Add (.bin .Add (.var 4) (.var 6)) (.cst (.int 1)))))
 (.seq (.ite (.cmp .Eq (.bin .Mod (.var 2) (.cst (.int 6))) (.cst (.int 3))) (.seq (.set 10 (.lstE (.aC (.cst (.str (S "tell 1"))) (.aC (.cst (.str (S "skip"))) (.aC (.cst (.str (S "go 0"))) (.aC (.cst (.str (S "if 1 < 2 go 0"))) (.aC (.cst (.str (S "if 1 >= -2 go 1"))) (.aC (.cst (.str (S "put a 1 + 1"))) .aN))))))))
 (.seq (.set 10 (.bin .Add (.var 10) (.lstE (.aC (.bin .Add (.cst (.str (S "name "))) (.var 9)) (.aC (.bin .Add (.bin .Add (.cst (.str (S "take "))) (.var 9)) (.cst (.str (S " 1 2")))) .aN)))))
 (.seq (.ret (.tupE (.aC (.cst (.int 0)) (.aC (.var 12) (.aC (.call 260 (.aC (.ix (.var 10) (.bin .Mod (.bin .FloorDiv (.var 3) (.cst (.int 60))) (.cst (.int 8)))) (.aC (.bin .Mod (.bin .Mult (.var 3) (.cst (.int 48271))) (.cst (.int 2147483647))) .aN)) []) .aN)))))
 .skip))) .skip)
 (.seq (.ret (.tupE (.aC (.cst (.int 0)) (.aC (.var 12) (.aC (.call 259 (.aC (.bin .Mod (.bin .Mult (.var 3) (.cst (.int 742938285))) (.cst (.int 2147483647))) (.aC (.ix (.var 1) (.cst (.int 0))) (.aC (.var 9) .aN))) []) .aN)))))
 .skip)))))))))))⟩
noncomputable def c__law_read:FD:=⟨1,2,(.seq (.set 1 (.cst .non))
 (.seq (.set 1 (.call 245 (.aC (.var 0) .aN) []))
 (.seq (.ret (.var 1))
 .skip)))⟩
noncomputable def XQ:CE:=(.comp true [6] (.cst (.int 4)) (.cmp .Eq (.var 0) (.var 1)) (.cst (.bl true)))
noncomputable def c_law_k14:FD:=⟨1,12,(.seq (.set 1 (.call 30 (.aC (.var 0) (.aC (.cst (.int 11)) .aN)) []))
 (.seq (.set 2 (.call 249 (.aC (.call 27 (.aC (.var 0) (.aC (.cst (.int 32)) .aN)) []) (.aC (.call 27 (.aC (.var 0) (.aC (.cst (.int 33)) .aN)) []) .aN)) []))
 (.seq (.set 3 (.call 250 (.aC (.var 1) (.aC (.var 2) .aN)) []))
 (.seq (.set 4 (.call 27 (.aC (.var 0) (.aC (.cst (.int 34)) .aN)) []))
 (.seq (.ite (.cmp .NotEq (.call 248 (.aC (.joinE (.cst (.str (S "\n"))) (.call 254 (.aC (.var 3) (.aC (.var 4) .aN)) [])) .aN) []) (.var 1)) (.seq (.ret (.cst (.bl false)))
 .skip) .skip)
 (.seq (.set 5 (.bin .Mod (.call 27 (.aC (.var 0) (.aC (.cst (.int 36)) .aN)) []) (.bin .Pow (.cst (.int 10)) (.cst (.int 12)))))
 (.seq (.set3 6 7 8 (.call 256 (.aC (.var 1) (.aC (.var 2) (.aC (.call 27 (.aC (.var 0) (.aC (.cst (.int 35)) .aN)) []) (.aC (.var 5) .aN)))) []))
 (.seq (.set 9 (.bin .Add (.bin .Add (.slice (.var 3) .nop (.part (.var 7))) (.lstE (.aC (.var 8) .aN))) (.slice (.var 3) (.part (.var 7)) .nop)))
 (.seq (.set 10 (.call 229 (.aC (.joinE (.cst (.str (S "\n"))) (.call 254 (.aC (.var 9) (.aC (.var 4) .aN)) [])) .aN) []))
 (.seq (.set 11 (.bin .Add (.len (.call 254 (.aC (.slice (.var 3) .nop (.part (.var 7))) (.aC (.var 4) .aN)) [])) (.cst (.int 1))))
 (.seq (.ite (.or (.cmp .Is (.var 10) (.cst .non)) (.or (.not (.call 17 (.aC (.ix (.var 10) (.cst (.int 2))) .aN) [])) (.cmp .NotEq (.ix (.var 10) (.cst (.int 2))) (.var 11)))) (.seq (.ret (.cst (.bl false)))
 .skip) .skip)
 (.seq (.ret (.and (.cmp .Eq (.ix (.var 10) (.cst (.int 0))) (.bin .Add XQ (.lstE (.aC (.cst (.bl false)) (.aC (.cst (.bl false)) .aN))))) (.cmp .Is (.ix (.var 10) (.cst (.int 1))) (.cst (.bl true)))))
 .skip))))))))))))⟩
end Dp

noncomputable section
namespace Dp
open PySem
noncomputable def num:Li (Str×Nat):=[(S "HuntError",177),(S "TextError",222),(S "TextError.__init__",223),(S "NoLine",224),(S "Twice",225),(S "NoName",226),(S "NoPlace",227),(S "TooWide",189),(S "TooWide.__init__",190),(S "TooMany",178),(S "TooMany.__init__",179),(S "around",0),(S "is_made_of",209),(S "is_name",210),(S "are_figures",211),(S "number_in",212),(S "place_in",213),(S "fits",232),(S "is_line",233),(S "names_read",234),(S "operand_in",235),(S "row_of",236),(S "Draft",237),(S "Draft.__init__",238),(S "Draft.has_room",239),(S "Draft.read_line",240),(S "Draft.read_name",241),(S "Draft.read_row",242),(S "Draft.check_places",243),(S "Draft.told",244),(S "read",245),(S "_law_whole",17),(S "_law_cell_at",27),(S "_law_small_by",19),(S "_law_operand",28),(S "_law_row",29),(S "_law_program",30),(S "_law_names",249),(S "_law_word",214),(S "_law_line",221),(S "_law_lines",250),(S "_law_spread",254),(S "_law_told",230),(S "_law_refused",229),(S "_law_bad_word",257),(S "_law_bad_form",258),(S "_law_bad_line",259),(S "_law_blanked",260),(S "_law_stranger",255),(S "_law_fault",256),(S "_law_read",248),(S "law",16)]
noncomputable def T:Nat->Ot FD
 |0=>some c_around
 |209=>some c_is_made_of
 |210=>some c_is_name
 |211=>some c_are_figures
 |212=>some c_number_in
 |213=>some c_place_in
 |232=>some c_fits
 |233=>some c_is_line
 |234=>some c_names_read
 |235=>some c_operand_in
 |236=>some c_row_of
 |238=>some c_Draft___init__
 |239=>some c_Draft_has_room
 |240=>some c_Draft_read_line
 |241=>some c_Draft_read_name
 |242=>some c_Draft_read_row
 |243=>some c_Draft_check_places
 |244=>some c_Draft_told
 |245=>some c_read
 |17=>some c__law_whole
 |27=>some c__law_cell_at
 |19=>some c__law_small_by
 |28=>some c__law_operand
 |29=>some c__law_row
 |30=>some c__law_program
 |249=>some c__law_names
 |214=>some c__law_word
 |221=>some c__law_line
 |250=>some c__law_lines
 |254=>some c__law_spread
 |230=>some c__law_told_k15
 |229=>some c__law_refused
 |257=>some c__law_bad_word
 |258=>some c__law_bad_form
 |259=>some c__law_bad_line
 |260=>some c__law_blanked
 |255=>some c__law_stranger
 |256=>some c__law_fault_k14
 |248=>some c__law_read
 |16=>some c_law_k14
 |_=>none
structure Grw(s s':Za):Prop where
 old:∀ i,i < s.length->s'[i]?=s[i]?
 len:s.length<=s'.length
variable{α:Type}{ρ':Env}{wk:D->Za->Ot (Li D×(Za->Prop))}
section
variable {F:Nat->Fn}{s s' s1 s2 st:Za}{e a b c:CE}{ρ:Env}{d x y z:D}{q p:CS}{n f i j w:Nat}{xs ds:Li D}{k m:Bool}{t:Yb}
theorem ZR{l:Li α}{x:α}(h:l[i]?=some x):i < l.length:=(bN.mp h).1
theorem Grw.refl:Grw s s:=⟨fun _ _=>rfl,aE _⟩
theorem Grw.trans(a:Grw s s1)(b:Grw s1 s2):Grw s s2:=⟨fun i h=>(b.old i (aQ h a.len)).trans (a.old i h),aH a.len b.len⟩
theorem Grw.get(g:Grw s s')(h:s[i]?=some t):s'[i]?=some t:=(g.old i (ZR h)).trans h
theorem Grw.push:Grw s (s++[t]):=⟨fun i h=>bU h,by rw[aK];omega⟩
theorem Grw.nil:Grw [] s:=⟨fun _ h=>absurd h (Nat.not_lt_zero _),bH _⟩
def Gv(s:Za)(f:Za->Res)(d:D):Prop:=∀ st,Grw s st->∃ st',f st=some (d,st')/\Grw st st'
def Y(F:Nat->Fn)(s:Za)(e:CE)(ρ:Env)(d:D):Prop:=Gv s (ev F e ρ) d
def C(F:Nat->Fn)(s:Za)(f:Nat)(ds:Li D)(d:D):Prop:=Gv s (F f ds) d
def R(F:Nat->Fn)(s:Za)(q:CS)(ρ:Env)(d:D):Prop:=∀ st,Grw s st->∃ st',ex F q ρ st=some (.rt d,st')/\Grw st st'
theorem Y.r(h:∀ st,ev F e ρ st=some (d,st)):Y F s e ρ d:=fun st _=>⟨st,h st,.refl⟩
theorem Y.at(h:∀ st,Grw s st->ev F e ρ st=some (d,st)):Y F s e ρ d:=fun st g=>⟨st,h st g,.refl⟩
theorem Gv.mono{f:Za->Res}(h:Gv s f d)(g:Grw s s'):Gv s' f d:=fun st k=>h st (g.trans k)
theorem C.up(h:C F [] f ds d):C F s f ds d:=Gv.mono h .nil
theorem g1{g:D->Za->Res}(ha:Y F s a ρ x)(h:Gv s (g x) d):Gv s (Zm (ev F a) g ρ) d:=fun st k=>by
 obtain⟨s1,e1,k1⟩:=ha st k;obtain⟨s2,e2,k2⟩:=h s1 (k.trans k1);exact⟨s2,by unfold Zm;rw[e1];exact e2,k1.trans k2⟩
theorem g2{g:D->D->Za->Res}(ha:Y F s a ρ x)(hb:Y F s b ρ y)(h:Gv s (g x y) d):Gv s (Zn (ev F a) (ev F b) g ρ) d:=fun st k=>by
 obtain⟨s1,e1,k1⟩:=ha st k;obtain⟨s2,e2,k2⟩:=hb s1 (k.trans k1);obtain⟨s3,e3,k3⟩:=h s2 (k.trans (k1.trans k2));exact⟨s3,by unfold Zn;rw[e1];simp only[e2];exact e3,k1.trans (k2.trans k3)⟩
theorem gp{f:Za->Res}(h:∀ st,f st=some (d,st)):Gv s f d:=fun st _=>⟨st,h st,.refl⟩
theorem gs{f:Za->Res}(h:∀ st,Grw s st->f st=some (d,st)):Gv s f d:=fun st k=>⟨st,h st k,.refl⟩
theorem Y.cmp{op:CmpOp}(ha:Y F s a ρ x)(hb:Y F s b ρ y)(h:∀ st,XB op x y st=some k):Y F s (.cmp op a b) ρ (.bl k):=g2 ha hb (gp fun st=>by unfold ZW;rw[h])
theorem gc{fc ft ff:Ev}(hc:Gv s (fc ρ) (.bl k))(h:Gv s ((if k then ft else ff) ρ) d):Gv s (YC fc ft ff ρ) d:=fun st g=>by
 obtain⟨s1,e1,k1⟩:=hc st g;obtain⟨s2,e2,k2⟩:=h s1 (g.trans k1);exact⟨s2,by unfold YC;rw[e1];cases k<;>exact e2,k1.trans k2⟩
theorem Y.and(ha:Y F s a ρ (.bl k))(hb:k=true->Y F s b ρ (.bl m)):Y F s (.and a b) ρ (.bl (k&&m)):=by
 cases k
 ·exact gc ha (gp fun _=>rfl)
 ·exact gc ha (hb rfl)
theorem Y.or(ha:Y F s a ρ (.bl k))(hb:k=false->Y F s b ρ (.bl m)):Y F s (.or a b) ρ (.bl (k||m)):=by
 cases k
 ·exact gc ha (hb rfl)
 ·exact gc ha (gp fun _=>rfl)
theorem Y.not(ha:Y F s a ρ (.bl k)):Y F s (.not a) ρ (.bl (!k)):=g1 ha (gp fun _=>rfl)
theorem Y.ife(hc:Y F s c ρ (.bl k))(h:Y F s (if k then a else b) ρ d):Y F s (.ife c a b) ρ d:=by
 cases k<;>exact gc hc h
def NX:D->Bool
 |.dct [_] _=>false
 |_=>true
theorem WX(hn:NX d=true):YY (some (d,st))=some (d,st):=by
 unfold YY;split
 ·rename_i z;cases z;cases hn
 ·rfl
theorem gk{g:Fn}(h:Gv s (g (xs++ds)) d)(hn:NX d=true):Gv s (Xd g ds (.tup xs)) d:=fun st k=>by
 obtain⟨s1,e1,k1⟩:=h st k;refine⟨s1,?_,k1⟩;show YY (g (xs++ds) st)=_;rw[e1,WX hn]
theorem Y.call(ha:Y F s a ρ (.tup xs))(h:C F s f (xs++ds) d)(hn:NX d=true:=by rfl):Y F s (.call f a ds) ρ d:=g1 ha (gk h hn)
theorem Y.cons(ha:Y F s a ρ x)(hb:Y F s b ρ (.tup xs))(hl:xs.length < 1000:=by first|decide | (simp only[aR,dN];decide)):Y F s (.aC a b) ρ (.tup (x :: xs)):=g2 ha hb (gp fun st=>if_pos hl)
theorem Y.nil:Y F s .aN ρ (.tup []):=.r fun _=>rfl
theorem Y.call1(ha:Y F s a ρ x)(h:C F s f [x] d)(hn:NX d=true:=by rfl):Y F s (.call f (.aC a .aN) []) ρ d:=.call (.cons ha .nil) h hn
theorem R.ret(h:Y F s e ρ d):R F s (.seq (.ret e) q) ρ d:=fun st g=>by
 obtain⟨s1,e1,k1⟩:=h st g;exact⟨s1,by show Yu (U4 (ev F e)) (ex F q) ρ st=_;unfold Yu U4;rw[e1],k1⟩
theorem R.set(h:Y F s e ρ x)(hq:R F s q (Zj ρ i x) d):R F s (.seq (.set i e) q) ρ d:=fun st g=>by
 obtain⟨s1,e1,k1⟩:=h st g;obtain⟨s2,e2,k2⟩:=hq s1 (g.trans k1);exact⟨s2,by show Yu (YS i (ev F e)) (ex F q) ρ st=_;unfold Yu YS;rw[e1];exact e2,k1.trans k2⟩
theorem R.no(h:Y F s e ρ (.bl false))(hq:R F s q ρ d):R F s (.seq (.ite e p .skip) q) ρ d:=fun st g=>by
 obtain⟨s1,e1,k1⟩:=h st g;obtain⟨s2,e2,k2⟩:=hq s1 (g.trans k1);exact⟨s2,by show Yu (XI (ev F e) (ex F p) (ex F .skip)) (ex F q) ρ st=_;unfold Yu XI;rw[e1];exact e2,k1.trans k2⟩
theorem R.yB(h:Y F s e ρ (.bl true))(hp:R F s p ρ d):R F s (.seq (.ite e p .skip) q) ρ d:=fun st g=>by
 obtain⟨s1,e1,k1⟩:=h st g;obtain⟨s2,e2,k2⟩:=hp s1 (g.trans k1);exact⟨s2,by show Yu (XI (ev F e) (ex F p) (ex F .skip)) (ex F q) ρ st=_;unfold Yu XI;rw[e1];simp only[e2],k1.trans k2⟩
theorem R.yes(h:Y F s e ρ (.bl true))(hq:Y F s a ρ d):R F s (.seq (.ite e (.seq (.ret a) .skip) .skip) q) ρ d:=.yB h (.ret hq)
theorem ZfS{v:FD}(h:T f=some v)(hl:ds.length=v.ps):run T (n+1) f ds st=match ex (run T n) v.body (ds.map some++List.replicate (v.ns - ds.length) none) st with
  |some (.rt d,st')=>some (d,st')
  |some (.nx _,st')=>some (.non,st')
  |_=>none:=by
 show(match T f with|some f=>fnD (run T n) f|none=>fun _ _=>none) ds st=_
 rw[h];exact if_pos hl
theorem XL{v:FD}(h:T f=some v)(hl:ds.length=v.ps)(hx:ex (run T n) v.body (ds.map some++List.replicate (v.ns - ds.length) none) st=some (.rt d,s')):run T (n+1) f ds st=some (d,s'):=by rw[ZfS h hl,hx]
theorem UZ{v:FD}(h:T f=some v)(hl:ds.length=v.ps)(hx:ex (run T n) v.body (ds.map some++List.replicate (v.ns - ds.length) none) st=some (.nx ρ',s')):run T (n+1) f ds st=some (.non,s'):=by rw[ZfS h hl,hx]
theorem C.of{v:FD}(h:T f=some v)(hl:ds.length=v.ps)(hr:R (run T n) s v.body (ds.map some++List.replicate (v.ns - ds.length) none) d):C (run T (n+1)) s f ds d:=fun st g=>by
 obtain⟨s1,e1,k1⟩:=hr st g;exact⟨s1,XL h hl e1,k1⟩
theorem Zg(h:ex F p ρ st=some (.nx ρ',s')):ex F (.seq p q) ρ st=ex F q ρ' s':=by
 show Yu (ex F p) (ex F q) ρ st=_;unfold Yu;rw[h]
theorem Zt(h:ex F p ρ st=some (.rt d,s')):ex F (.seq p q) ρ st=some (.rt d,s'):=by
 show Yu (ex F p) (ex F q) ρ st=_;unfold Yu;rw[h]
theorem Qs{α:Type}{en g:α->D}{ok:Za->Prop}{fe fc:D->Za->Res}(hc:∀ d st,fc d st=some (.bl true,st))(ho:∀ st,Grw s st->ok st):∀ {l:Li α},(∀ a∈l,Gv s (fe (en a)) (g a))->∀ st,Grw s st->∃ st',Z7 ok fe fc (l.map en) st=some (l.map g,st')/\Grw st st'
 |[],_,st,k=>⟨st,if_pos (ho st k),.refl⟩
 |x :: xs,h,st,k=>by
  obtain⟨s1,e1,k1⟩:=h x lQ7 st k;obtain⟨s2,e2,k2⟩:=Qs hc ho (fun d hd=>h d (Lm _ hd)) s1 (k.trans k1)
  refine⟨s2,?_,k1.trans k2⟩;rw[aT,Z7,if_pos (ho st k),hc];simp only[e1,e2,aT]
def Lv(s:Za)(f:Za->Res)(xs:Li D):Prop:=∀ st,Grw s st->∃ st' j b,f st=some (.lst j,st')/\st'[j]?=some (b,xs)/\Grw st st'
theorem ZF:(s++[t])[s.length]?=some t:=by rw[bV (aE _),Nat.sub_self];rfl
def Wk(F:Nat->Fn)(s:Za)(it:CE)(ρ:Env)(wk:D->Za->Ot (Li D×(Za->Prop)))(xs:Li D):Prop:=∀ st,Grw s st->∃ x st1 ok,ev F it ρ st=some (x,st1)/\Grw st st1/\wk x st1=some (xs,ok)/\∀ st',Grw st1 st'->ok st'
theorem Wk.of(hi:Y F s e ρ x)(h:∀ st,wk x st=some (xs,fun _=>True)):Wk F s e ρ wk xs:=fun st k=>by
 obtain⟨s1,e1,k1⟩:=hi st k;exact⟨x,s1,_,e1,k1,h s1,fun _ _=>trivial⟩
theorem XU{b:D->Li (Ot D)}{fr:Li Nat}{it elt:CE}{en g:α->D}{l:Li α}(hi:Wk F s it ρ wk (l.map en))(hl:l.length<=1000)(h:∀ a∈l,Y F s elt (Ys b ρ fr (en a)) (g a)):Lv s (WN b wk fr (ev F it) (ev F elt) (ev F (.cst (.bl true))) ρ) (l.map g):=fun st k=>by
 obtain⟨x,s1,ok,e1,k1,e2,ho⟩:=hi st k;obtain⟨s2,e3,k2⟩:=Qs (s:=s1) (ok:=ok) (fe:=fun d=>ev F elt (Ys b ρ fr d)) (fc:=fun d=>ev F (.cst (.bl true)) (Ys b ρ fr d)) (fun _ _=>rfl) ho (fun a ha=>Gv.mono (h a ha) (k.trans k1)) s1 .refl
 refine⟨s2++[(true,l.map g)],_,_,?_,ZF,(k1.trans k2).trans .push⟩;unfold WN;simp only[e1,e2,aJ,if_pos hl,e3]
theorem WK{α:Type}{g:α->Bool}:∀ {l:Li α},YI (l.map fun x=>.bl (g x))=some (l.map g)
 |[]=>rfl
 |x :: l=>by show(YI (l.map _)).map _=_;rw[WK];rfl
theorem Y.all{l:Li α}{g:α->Bool}(h:Lv s (ev F e ρ) (l.map fun a=>.bl (g a))):Y F s (.all e) ρ (.bl (l.all g)):=fun st k=>by
 obtain⟨s1,j,b,e1,hj,k1⟩:=h st k;refine⟨s1,?_,k1⟩;show Zm (ev F e) (WA fun l=>l.all id) ρ st=_
 unfold Zm WA;simp only[e1,hj,WK,List.all_map];rfl
theorem Y6(h:xs[j]?=some d):atD xs (j:Int)=some d:=by
 have:=ZR h;unfold atD ixN;rw[if_pos (by omega),if_pos (by omega),Ob,bS,h]
theorem Y.ixl(hs:s[w]?=some t)(ha:Y F s a ρ (.lst w))(hb:Y F s b ρ (.int (j:Int)))(h:t.2[j]?=some d):Y F s (.ix a b) ρ d:=g2 ha hb (gs fun st k=>by
 show ixR (.lst w) (.int (j:Int)) st=_;unfold ixR ixD;simp only[k.get hs,Y6 h])
theorem Y.ixt(ha:Y F s a ρ (.tup xs))(hb:Y F s b ρ (.int (j:Int)))(h:xs[j]?=some d):Y F s (.ix a b) ρ d:=g2 ha hb (gp fun st=>by
 show ixR (.tup xs) (.int (j:Int)) st=_;unfold ixR ixD;simp only[Y6 h])
theorem Y.lenl(hs:s[w]?=some t)(ha:Y F s a ρ (.lst w)):Y F s (.len a) ρ (.int (t.2.length:Int)):=g1 ha (gs fun st k=>by
 show Yw (.lst w) st=_;unfold Yw Uc;simp only[k.get hs])
theorem Lv.sl{lo hi:Ot Int}(hs:s[w]?=some t)(ha:Y F s a ρ (.lst w))(hb:Y F s b ρ x)(hc:Y F s c ρ y)(h:∀ st,YT (.lst w) x y st=Yj (.lst w) lo hi st):Lv s (ev F (.slice a b c) ρ) (Wc t.2 lo hi):=fun st k=>by
 obtain⟨s1,e1,k1⟩:=ha st k;obtain⟨s2,e2,k2⟩:=hb s1 (k.trans k1);obtain⟨s3,e3,k3⟩:=hc s2 (k.trans (k1.trans k2));refine⟨s3++[(true,Wc t.2 lo hi)],_,_,?_,ZF,(k1.trans (k2.trans k3)).trans .push⟩;show VA (ev F a) (ev F b) (ev F c) YT ρ st=_;unfold VA;simp only[e1,e2,e3,h];unfold Yj;simp only[(k.trans (k1.trans (k2.trans k3))).get hs]
theorem Lv.mk(h:Y F s e ρ (.tup xs)):Lv s (ev F (.lstE e) ρ) xs:=fun st k=>by
 obtain⟨s1,e1,k1⟩:=h st k;exact⟨_,_,_,by show Zm (ev F e) Jv ρ st=_;unfold Zm;rw[e1];rfl,ZF,k1.trans .push⟩
theorem R.setL(h:Lv s (ev F e ρ) xs)(hq:∀ s' j b,Grw s s'->s'[j]?=some (b,xs)->R F s' q (Zj ρ i (.lst j)) d):R F s (.seq (.set i e) q) ρ d:=fun st g=>by
 obtain⟨s1,j,b,e1,hj,k1⟩:=h st g;obtain⟨s2,e2,k2⟩:=hq s1 j b (g.trans k1) hj s1 .refl;exact⟨s2,by show Yu (YS i (ev F e)) (ex F q) ρ st=_;unfold Yu YS;rw[e1];exact e2,k1.trans k2⟩
theorem Xk{c:Yb}(h:ev F e ρ st=some (.lst j,s'))(h2:s'[j]?=some c):ev F (.tOf e) ρ st=some (.tup c.2,s'):=by
 show Zm (ev F e) VE ρ st=_;unfold Zm;rw[h];show(match s'[j]? with
  |some (_,xs)=>some (D.tup xs,s')
  |none=>none)=_
 rw[h2]
theorem W7(h:ev F e ρ st=some (d,s')):ex F (.ret e) ρ st=some (.rt d,s'):=by
 show U4 (ev F e) ρ st=_;unfold U4;rw[h]
end
def YB(x:Int):Int:=(x+1000000000) % 2000000000 - 1000000000
section
variable {n:Nat}{F:Nat->Fn}{ρ:Env}{s:Za}{x y sg:Str}{m v:Int}{c:Nat}{r l:Li Nat}
theorem YX(h:x.cps.toList=y.cps.toList):x=y:=by
 cases x;cases y
 congr 1
 exact Array.ext' h
theorem len_list:x.cps.toList.length=x.length:=bO
structure Wd(x:Str):Prop where
 len:x.length<=60
 asc:∀ c∈x.cps.toList,c < 128
theorem Wd.le(h:Wd x):x.length<=Zc:=aH h.len (by decide)
theorem Wd.all(h:Wd x):x.cps.all (fun c=>decide (c < 128))=true:=by
 rw[<-Array.all_toList,bP];exact fun c hc=>aF (h.asc c hc)
theorem Zb7:(chS x).length=x.length:=by
 unfold chS;rw[aJ];exact bO
theorem Y.len{e:CE}(h:x.length<=Zc)(he:Y F s e ρ (.str x)):Y F s (.len e) ρ (.int (x.length:Int)):=g1 he (gp fun st=>by
 show Yw (.str x) st=_;unfold Yw Uc;simp only[if_pos h])
def mdB(x sg:Str)(m:Int):Bool:=decide ((1:Int)<=x.length)&&decide ((x.length:Int)<=m)&&(chS x).all fun c=>Jy sg c
theorem JJ(h:Wd x):C (run T (n+1)) [] 209 [.str x,.str sg,.int m] (.bl (mdB x sg m)):=
 .of (v:=c_is_made_of) rfl rfl (.ret (.and (.and (.cmp (.r fun _=>rfl) (.len h.le (.r fun _=>rfl)) fun _=>rfl) fun _=>.cmp (.len h.le (.r fun _=>rfl)) (.r fun _=>rfl) fun _=>rfl) fun _=>
  .all (XU (en:=D.str) (g:=fun c=>.bl (Jy sg c)) (b:=one) (.of (x:=.str x) (.r fun _=>rfl) fun st=>by
   show(if x.cps.all (fun c=>decide (c < 128))=true then some ((chS x).map D.str,fun _=>True) else none)=_
   rw[if_pos h.all]) (by rw[Zb7];have:=h.len;omega) fun c _=>.r fun _=>rfl)))
def AZ:Str:=S "abcdefghijklmnopqrstuvwxyz"
def FG:Str:=S "0123456789"
def nmB(x:Str):Bool:=mdB x AZ 8
theorem UA(h:Wd x):C (run T (n+2)) [] 210 [.str x] (.bl (nmB x)):=
 .of (v:=c_is_name) rfl rfl (.ret (.call (xs:=[.str x,.str AZ,.int 8]) (.r fun _=>rfl) (JJ h)))
def fz(x:Str):Bool:=match x.cps.toList with
 |[]=>false
 |c :: r=>!(c==48)||r.isEmpty
def XF(x:Str)(m:Int):Bool:=mdB x FG m&&fz x
theorem eq0:(x=S "0")↔x.cps.toList=[48]:=⟨fun h=>by rw[h];rfl,fun h=>YX (h.trans rfl)⟩
theorem ZfA(e:x.cps.toList=c :: r):(decide (x=S "0")||!decide ((⟨#[c]⟩:Str)=S "0"))=fz x:=by
 have k:((⟨#[c]⟩:Str)=S "0")↔c=48:=by rw[eq0];simp
 unfold fz;rw[e];by_cases h:c=48
 ·subst h
  by_cases h2:r=[]
  ·subst h2;simp[eq0.mpr e]
  ·have:¬x=S "0":=fun z=>by rw[eq0.mp z]at e;cases e;exact h2 rfl
   simp[this,k.mpr rfl,h2]
 ·have:¬(⟨#[c]⟩:Str)=S "0":=fun z=>h (k.mp z)
  simp[h,this]
theorem Zdn(h:Wd x):C (run T (n+2)) [] 211 [.str x,.int m] (.bl (XF x m)):=
 .of (v:=c_are_figures) rfl rfl (.ret (.and (.call (xs:=[.str x,.str FG,.int m]) (.r fun _=>rfl) (JJ h)) fun q=>by
  cases e:x.cps.toList with
  |nil=>
   unfold mdB at q;rw[<-len_list,e]at q;cases q
  |cons c r=>
   rw[<-ZfA e];refine .or (.cmp (.r fun _=>rfl) (.r fun _=>rfl) fun _=>rfl) fun _=>.cmp (x:=.str ⟨#[c]⟩) (g2 (.r fun _=>rfl) (.r fun _=>rfl) (gp fun st=>?_)) (.r fun _=>rfl) fun _=>rfl
   have i:ixD (.str x) (.int 0) st=some (.str ⟨#[c]⟩):=by
    show(if x.length<=Zc then atD ((chS x).map .str) 0 else none)=_
    rw[if_pos h.le];unfold chS atD ixN;rw[e];rw[if_pos (by decide),if_pos (by simp only[aJ,aR];omega)]
    rfl
   show ixR (.str x) (.int 0) st=_;unfold ixR;rw[i]))
theorem Zaf:∀ c,c < 128->Jy FG ⟨#[c]⟩=WH c:=by decide +kernel
theorem Zan(h:Wd x)(f:XF x m=true):V6 x.cps.toList=true:=by
 have hl:=h.len;unfold XF mdB at f;simp only[Ba,bE,bP]at f;obtain⟨⟨⟨f1,_⟩,f3⟩,_⟩:=f;unfold V6;simp only[Ba,bE,dF,List.isEmpty_eq_false_iff,bP];refine⟨⟨fun z=>?_,fun c hc=>?_⟩,by rw[len_list];omega⟩
 ·rw[<-len_list,z]at f1;exact absurd f1 (by decide)
 ·rw[<-Zaf c (h.asc c hc)]
  exact f3 _ (bC.mpr ⟨c,hc,rfl⟩)
def ngB(x:Str):Bool:=x.cps.toList.head?==some 45
def tlS(x:Str):Str:=Z9 x (some 1) none
theorem Xv:(tlS x).cps.toList=x.cps.toList.drop 1:=by
 show((x.cps.toList.drop (Nat.min 1 x.length)).take (x.length - Nat.min 1 x.length))=_;rw[<-len_list];cases x.cps.toList with
 |nil=>rfl
 |cons c r=>
  have:Nat.min 1 (c :: r).length=1:=by rw[aR];exact bT (by omega)
  rw[this];show r.take (r.length+1 - 1)=r;rw[Nat.add_sub_cancel,dR]
theorem Zf1(h:Wd x):Wd (tlS x):=⟨by
 have:=h.len;rw[<-len_list,Xv,cA,len_list];omega,fun c hc=>h.asc c (List.mem_of_mem_drop (by rw[<-Xv];exact hc))⟩
theorem ZfZ:stW x (S "-")=ngB x:=by
 unfold stW ngB;show(x.cps.toList.take 1==[45])=_;cases x.cps.toList with
 |nil=>rfl
 |cons c r=>simp
def bdS(x:Str):Str:=if ngB x then tlS x else x
def vlI(x:Str):Int:=if ngB x then -(dgV (tlS x).cps.toList:Int) else dgV x.cps.toList
def ZG(x:Str):D:=if x=S "-0" then .non else if XF (bdS x) 10=true/\YB (vlI x)=vlI x then .int (vlI x) else .non
theorem Zdp(h:Wd x):Wd (bdS x):=by unfold bdS;split<;>first|exact Zf1 h|exact h
theorem Zev(h:Wd x)(f:XF (bdS x) 10=true):WG x=some (vlI x):=by
 have g:=Zan (Zdp h) f;unfold bdS at g;unfold vlI WG;cases e:ngB x with
 |true=>
  rw[e,if_pos rfl,Xv]at g;rw[if_pos rfl,Xv];unfold ngB at e;cases q:x.cps.toList with
  |nil=>rw[q]at e;cases e
  |cons c r=>
   rw[q]at e g;cases (show c=45 by simpa using e)
   show(if V6 r=true then some (-(dgV r:Int)) else none)=_
   exact if_pos g
 |false=>
  rw[e,if_neg Bf]at g;rw[if_neg Bf];split
  ·rename_i r q
   unfold ngB at e;rw[q]at e;cases e
  ·rw[if_pos g]
theorem JH:C (run T (n+1)) [] 0 [.int v] (.int (YB v)):=.of (v:=c_around) rfl rfl (.ret (.r fun _=>rfl))
theorem Qg(h:Wd x):C (run T (n+3)) [] 212 [.str x] (ZG x):=by
 have k2:∀ {z},Y (run T (n+2)) [] (.cmp .Eq (.var 0) (.cst (.str (S "-0")))) [some (.str x),some (.str (bdS x)),z] (.bl (decide (x=S "-0"))):=.r fun _=>rfl
 refine .of (v:=c_number_in) rfl rfl (.set (x:=.str (bdS x)) (.ife (k:=ngB x) (g2 (y:=.tup [.str (S "-")]) (.r fun _=>rfl) (.r fun _=>rfl) (gp fun _=>by rw[<-ZfZ];rfl)) ?_) ?_)
 ·unfold bdS
  cases ngB x
  ·exact .r fun _=>rfl
  ·exact .r fun st=>if_pos h.le
 ·unfold ZG
  by_cases q:x=S "-0"
  ·rw[if_pos q]
   exact .yes (.or (k:=true) (m:=true) (by rw[<-aF q];exact k2) fun z=>nomatch z) (.r fun _=>rfl)
  ·rw[if_neg q]
   have k3:∀ {b},XF (bdS x) 10=b->Y (run T (n+2)) [] (.or (.cmp .Eq (.var 0) (.cst (.str (S "-0")))) (.not (.call 211 (.aC (.var 1) (.aC (.cst (.int 10)) .aN)) []))) [some (.str x),some (.str (bdS x)),none] (.bl (!b)):=fun {b} f=>.or (k:=false) (by rw[<-aL q];exact k2) fun _=>.not (.call (xs:=[.str (bdS x),.int 10]) (.r fun _=>rfl) (by rw[<-f];exact Zdn (Zdp h)))
   cases f:XF (bdS x) 10 with
   |false=>
    rw[if_neg (fun z=>nomatch z.1)]
    exact .yes (k3 f) (.r fun _=>rfl)
   |true=>
    refine .no (k3 f) (.set (x:=.int (vlI x)) (g1 (.r fun _=>rfl) (gp fun st=>by
     show(match WG x with|some i=>some (D.int i,st)|none=>none)=_
     rw[Zev h f])) (.ret ?_))
    have k4:Y (run T (n+2)) [] (.cmp .Eq (.call 0 (.aC (.var 2) .aN) []) (.var 2)) [some (.str x),some (.str (bdS x)),some (.int (vlI x))] (.bl (decide (YB (vlI x)=vlI x))):=.cmp (.call1 (.r fun _=>rfl) JH) (.r fun _=>rfl) fun _=>rfl
    by_cases z:YB (vlI x)=vlI x
    ·rw[aF z]at k4
     rw[if_pos (⟨rfl,z⟩:_/\_)];exact .ife k4 (.r fun _=>rfl)
    ·rw[aL z]at k4
     rw[if_neg (fun w:_/\_=>z w.2)];exact .ife k4 (.r fun _=>rfl)
def plD(x:Str):D:=if XF x 2=true then .int (dgV x.cps.toList:Int) else .non
theorem Qh(h:Wd x):C (run T (n+3)) [] 213 [.str x] (plD x):=by
 refine .of (v:=c_place_in) rfl rfl (.ret (.ife (k:=XF x 2) (.call (xs:=[.str x,.int 2]) (.r fun _=>rfl) (Zdn h)) ?_))
 unfold plD;cases f:XF x 2 with
 |false=>exact .r fun _=>rfl
 |true=>
  refine g1 (.r fun _=>rfl) (gp fun st=>?_)
  have g:=Zan h f;have i:WG x=some (dgV x.cps.toList:Int):=by
   unfold WG;split
   ·rename_i r q
    rw[q]at g;simp[V6,WH]at g
   ·rw[if_pos g]
  show(match WG x with|some i=>some (D.int i,st)|none=>none)=_
  rw[i];rfl
end
def isI:D->Bool
 |.int _=>true
 |_=>false
def psL:Li Str:=[S "+",S "-",S "*",S "/",S "mod"]
def isL:Li Str:=[S "<",S "<=",S "=",S ">=",S ">",S "!="]
def fB(x k:Str):Bool:=if k=S "name" then nmB x else if k=S "number" then isI (ZG x) else if k=S "operand" then nmB x||isI (ZG x) else if k=S "put sign" then psL.contains x else if k=S "if sign" then isL.contains x else if k=S "place" then isI (plD x) else decide (x=k)
section
variable {n w:Nat}{F:Nat->Fn}{ρ:Env}{s:Za}{x y k:Str}{b:Bool}{ws:Li Str}{e:CE}{d:D}
theorem Y9:ZG x=.non\/∃ v,ZG x=.int v:=by
 unfold ZG;split
 ·exact .inl rfl
 ·split
  ·exact .inr ⟨_,rfl⟩
  ·exact .inl rfl
theorem QP:plD x=.non\/∃ v,plD x=.int v:=by
 unfold plD;split
 ·exact .inr ⟨_,rfl⟩
 ·exact .inl rfl
theorem nn(hd:d=.non\/∃ v,d=.int v):NX d=true:=by rcases hd with rfl|⟨v,rfl⟩<;>rfl
theorem Y.isnt(hd:d=.non\/∃ v,d=.int v)(h:Y F s e ρ d):Y F s (.cmp .IsNot e (.cst .non)) ρ (.bl (isI d)):=by
 rcases hd with rfl|⟨v,rfl⟩<;>exact .cmp h (.r fun _=>rfl) fun _=>rfl
theorem ZdO(h:Wd x):C (run T (n+4)) [] 232 [.str x,.str k] (.bl (fB x k)):=by
 refine .of (v:=c_fits) rfl rfl ?_;have q:∀ z,Y (run T (n+3)) [] (.cmp .Eq (.var 1) (.cst (.str z))) [some (.str x),some (.str k)] (.bl (decide (k=z))):=fun z=>.r fun _=>rfl
 have nm:Y (run T (n+3)) [] (.call 210 (.aC (.var 0) .aN) []) [some (.str x),some (.str k)] (.bl (nmB x)):=.call1 (.r fun _=>rfl) (UA h)
 have nu:Y (run T (n+3)) [] (.cmp .IsNot (.call 212 (.aC (.var 0) .aN) []) (.cst .non)) [some (.str x),some (.str k)] (.bl (isI (ZG x))):=.isnt Y9 (.call1 (.r fun _=>rfl) (Qg h) (nn Y9))
 have go:∀ {z:Str}{a:CE}{q':CS}{u v:Bool},(k=z->Y (run T (n+3)) [] a [some (.str x),some (.str k)] (.bl u))->R (run T (n+3)) [] q' [some (.str x),some (.str k)] (.bl v)->R (run T (n+3)) [] (.seq (.ite (.cmp .Eq (.var 1) (.cst (.str z))) (.seq (.ret a) .skip) .skip) q') [some (.str x),some (.str k)] (.bl (if k=z then u else v)):=fun {z}{a}{q'}{u}{v} ha hq=>by
  have qz:=q z;by_cases c:k=z
  ·rw[if_pos c];rw[aF c]at qz;exact .yes qz (ha c)
  ·rw[if_neg c];rw[aL c]at qz;exact .no qz hq
 exact go (fun _=>nm) (go (fun _=>nu) (go (fun _=>.or nm fun _=>nu) (go (fun _=>.r fun _=>rfl) (go (fun _=>.r fun _=>rfl) (go (fun _=>.isnt QP (.call1 (.r fun _=>rfl) (Qh h) (nn QP))) (.ret (.r fun _=>rfl)))))))
def fmK:Li Str:=[S "take",S "name",S "put",S "if",S "go",S "tell",S "skip"]
def kinds(k:Str):Li Str:=if k=S "take" then [S "name",S "number",S "number"] else if k=S "name" then [S "name"] else if k=S "put" then [S "name",S "operand",S "put sign",S "operand"] else if k=S "if" then [S "operand",S "if sign",S "operand",S "go",S "place"] else if k=S "go" then [S "place"] else if k=S "tell" then [S "operand"] else []
def vI:D->Int
 |.int v=>v
 |_=>0
def lnB(k:Str)(ws:Li Str):Bool:=fmK.contains k&&(decide (ws.length=(kinds k).length)&&(ws.zip (kinds k)).all (fun p=>fB p.1 p.2))&&(decide (k≠S "take")||decide (vI (ZG (ws.getD 1 (S "")))<=vI (ZG (ws.getD 2 (S "")))))
def LKf:CE:=(.look [(S "take"),(S "name"),(S "put"),(S "if"),(S "go"),(S "tell"),(S "skip")] [(.tup [(.str (S "name")),(.str (S "number")),(.str (S "number"))]),(.tup [(.str (S "name"))]),(.tup [(.str (S "name")),(.str (S "operand")),(.str (S "put sign")),(.str (S "operand"))]),(.tup [(.str (S "operand")),(.str (S "if sign")),(.str (S "operand")),(.str (S "go")),(.str (S "place"))]),(.tup [(.str (S "place"))]),(.tup [(.str (S "operand"))]),(.tup [])] (.ix (.var 0) (.cst (.int 0))))
theorem Zap(h:fmK.contains k=true):k=S "take"\/k=S "name"\/k=S "put"\/k=S "if"\/k=S "go"\/k=S "tell"\/k=S "skip":=by
 have:=cC.mp h;simpa[fmK] using this
variable (hs:s[w]?=some (b,(k :: ws).map D.str))
include hs
theorem Y.w0:Y F s (.ix (.var 0) (.cst (.int 0))) (some (.lst w) :: ρ) (.str k):=.ixl (j:=0) hs (.r fun _=>rfl) (.r fun _=>rfl) rfl
theorem Y.wj{j:Nat}(h:ws[j]?=some x):Y F s (.ix (.var 0) (.cst (.int ((j+1:Nat):Int)))) (some (.lst w) :: ρ) (.str x):=.ixl (j:=j+1) hs (.r fun _=>rfl) (.r fun _=>rfl) (by
 show((D.str k) :: ws.map D.str)[j+1]?=_;rw[eL,aU,h];rfl)
theorem Y.lk(hk:fmK.contains k=true):Y F s LKf (some (.lst w) :: ρ) (.tup ((kinds k).map D.str)):=g1 (Y.w0 hs) (gp fun st=>by
 rcases Zap hk with h|h|h|h|h|h|h<;>subst h<;>rfl)
theorem Lv.w1:Lv s (ev F (.slice (.var 0) (.part (.cst (.int 1))) .nop) (some (.lst w) :: ρ)) (ws.map D.str):=by
 have h:=Lv.sl (F:=F) (ρ:=some (.lst w) :: ρ) (a:=.var 0) (b:=.part (.cst (.int 1))) (c:=.nop) (x:=.int 1) (y:=.non) (lo:=some 1) (hi:=none) hs (.r fun _=>rfl) (.r fun _=>rfl) (.r fun _=>rfl) fun _=>rfl
 have e:Wc ((k :: ws).map D.str) (some 1) none=ws.map D.str:=by
  show(((k :: ws).map D.str).drop (Nat.min 1 ((k :: ws).map D.str).length)).take (((k :: ws).map D.str).length - Nat.min 1 ((k :: ws).map D.str).length)=_;have:Nat.min 1 ((k :: ws).map D.str).length=1:=by rw[aJ,aR];exact bT (by omega)
  rw[this,aT,aR,Nat.add_sub_cancel];exact dR
 rw[<-e];exact h
omit hs in
theorem VG{α β:Type}{f:α->β}:∀ {xs ys:Li α},(xs.map f).zip (ys.map f)=(xs.zip ys).map fun p=>(f p.1,f p.2)
 |[],_=>rfl
 |_ :: _,[]=>rfl
 |x :: xs,y :: ys=>by
  show(f x,f y) :: (xs.map f).zip (ys.map f)=_;rw[VG];rfl
theorem Y.fit(hw:∀ x∈ws,Wd x)(hl:ws.length<=900):Y (run T (n+4)) s (.all XO) [some (.lst w),some (.tup ((kinds k).map D.str))] (.bl ((ws.zip (kinds k)).all fun p=>fB p.1 p.2)):=by
 refine .all (XU (en:=fun p:Str×Str=>.tup [.str p.1,.str p.2]) (g:=fun p=>.bl (fB p.1 p.2)) (b:=two) (fun st g=>?_) (by rw[dA];omega) fun p hp=>.call (xs:=[.str p.1,.str p.2]) (.r fun _=>rfl) (C.up (ZdO (hw _ (dC hp).1))))
 obtain⟨s1,j,b',e1,hj,k1⟩:=Lv.w1 hs (F:=run T (n+4)) (ρ:=[some (.tup ((kinds k).map D.str))]) st g;refine⟨.tup [.lst j,.tup ((kinds k).map D.str)],s1,fun s=>s[j]?=some (b',ws.map D.str),?_,k1,?_,fun st' g'=>g'.get hj⟩
 ·show Zn (ev _ (.slice (.var 0) (.part (.cst (.int 1))) .nop)) (ev _ (.aC (.var 1) .aN)) Ym _ st=_
  unfold Zn;rw[e1];rfl
 ·unfold W6
  simp only[hj];unfold Qe;rw[VG,bI];rfl
theorem ZdP(hw:∀ x∈ws,Wd x)(hl:ws.length<=900):C (run T (n+5)) s 233 [.lst w] (.bl (lnB k ws)):=by
 refine .of (v:=c_is_line) rfl rfl ?_;have e0:Y (run T (n+4)) s (.cmp .NotIn (.ix (.var 0) (.cst (.int 0))) (.cst (.kt [(S "take"),(S "name"),(S "put"),(S "if"),(S "go"),(S "tell"),(S "skip")]))) [some (.lst w),none] (.bl (!fmK.contains k)):=.cmp (.w0 hs) (.r fun _=>rfl) fun _=>rfl
 unfold lnB;cases hk:fmK.contains k with
 |false=>rw[hk]at e0;exact .yes e0 (.r fun _=>rfl)
 |true=>
  rw[hk]at e0;refine .no e0 (.set (.lk hs hk) ?_);have e1:Y (run T (n+4)) s (.cmp .NotEq (.len (.var 0)) (.bin .Add (.cst (.int 1)) (.len (.var 1)))) [some (.lst w),some (.tup ((kinds k).map D.str))] (.bl (!decide (ws.length=(kinds k).length))):=.cmp (.lenl hs (.r fun _=>rfl)) (x:=.int (((k :: ws).map D.str).length:Int)) (y:=.int (1+((kinds k).map D.str).length)) (.r fun _=>rfl) fun _=>by
   show some (!decide ((((k :: ws).map D.str).length:Int)=1+(((kinds k).map D.str).length:Int)))=_;rw[aJ,aJ,aR]
   congr 2
   exact decide_eq_decide.mpr (by omega)
  have e2:=(Y.or e1 fun _=>(Y.fit hs (n:=n) hw hl).not)
  rw[<-Bool.not_and]at e2;cases h2:(decide (ws.length=(kinds k).length)&&(ws.zip (kinds k)).all fun p=>fB p.1 p.2) with
  |false=>rw[h2]at e2;exact .yes e2 (.r fun _=>rfl)
  |true=>
   rw[h2]at e2;refine .no e2 (.ret (.or (.cmp (.w0 hs) (.r fun _=>rfl) fun _=>by show some (!decide (k=S "take"))=_;rw[<-decide_not]) fun q=>?_))
   have q:k=S "take":=by simpa using q
   subst q;have h2:=aX.mp h2;have h3:=of_decide_eq_true h2.1
   match ws,h3 with
   |[x,y,z],_=>
    have h4:(nmB x&&(isI (ZG y)&&(isI (ZG z)&&true)))=true:=h2.2;simp only[Ba]at h4;have num:∀ {i:Nat}{u:Str},[x,y,z][i]?=some u->Wd u->Y (run T (n+4)) s (.call 212 (.aC (.ix (.var 0) (.cst (.int ((i+1:Nat):Int)))) .aN) []) [some (.lst w),some (.tup ((kinds (S "take")).map D.str))] (ZG u):=fun {i}{u} h hy=>.call1 (.wj hs h) (C.up (Qg hy)) (nn Y9)
    have ny:=num (i:=1) (u:=y) rfl (hw _ (by simp))
    have nz:=num (i:=2) (u:=z) rfl (hw _ (by simp))
    rcases @Y9 y with e|⟨a,e⟩
    ·rw[e]at h4;cases h4.2.1
    ·rcases @Y9 z with e'|⟨a',e'⟩
     ·rw[e']at h4;cases h4.2.2.1
     ·show Y _ _ _ _ (.bl (decide (vI (ZG y)<=vI (ZG z))))
      rw[e]at ny ⊢;rw[e']at nz ⊢;exact .cmp ny nz fun _=>rfl
end
section
variable {F:Nat->Fn}{s st st' st1:Za}{e a:CE}{ρ ρ' ρ'':Env}{d x:D}{q p:CS}{n i j w:Nat}{xs ys:Li D}{k:Bool}
structure Kj(j:Nat)(st st':Za):Prop where
 old:∀ i,i < st.length->i≠j->st'[i]?=st[i]?
 len:st.length<=st'.length
theorem Grw.kj(g:Grw st st'):Kj j st st':=⟨fun i h _=>g.old i h,g.len⟩
theorem Kj.trans(a:Kj j st st1)(b:Kj j st1 st'):Kj j st st':=⟨fun i h hn=>(b.old i (aQ h a.len) hn).trans (a.old i h hn),aH a.len b.len⟩
theorem Kj.grw(k:Kj j st st')(hj:s.length<=j)(g:Grw s st):Grw s st':=⟨fun i h=>(k.old i (aQ h g.len) (by omega)).trans (g.old i h),aH g.len k.len⟩
theorem Zr{c:Yb}(h:i < st.length):(st.set i c)[j]?=if i=j then some c else st[j]?:=by
 rw[List.getElem?_set];split
 ·rename_i e;subst e
  first|rfl|rw[if_pos h]
 ·rfl
def Ap(F:Nat->Fn)(s:Za)(j:Nat)(q:CS)(ρ ρ':Env)(xs:Li D):Prop:=∀ st acc,Grw s st->st[j]?=some (true,acc)->acc.length+xs.length<=900->∃ st',ex F q ρ st=some (.nx ρ',st')/\Kj j st st'/\st'[j]?=some (true,acc++xs)
theorem Ap.skip:Ap F s j .skip ρ ρ []:=fun st acc g h _=>⟨st,rfl,Grw.refl.kj,by rw[aP];exact h⟩
theorem Ap.seq(hj:s.length<=j)(h1:Ap F s j q ρ ρ' xs)(h2:Ap F s j p ρ' ρ'' ys):Ap F s j (.seq q p) ρ ρ'' (xs++ys):=fun st acc g h hl=>by
 rw[aK]at hl;obtain⟨s1,e1,g1,k1⟩:=h1 st acc g h (by omega)
 obtain⟨s2,e2,g2,k2⟩:=h2 s1 _ (g1.grw hj g) k1 (by rw[aK];omega)
 exact⟨s2,by show Yu (ex F q) (ex F p) ρ st=_;unfold Yu;rw[e1];exact e2,g1.trans g2,by rw[<-aM];exact k2⟩
theorem Ap.one(h:Ap F s j q ρ ρ' xs):Ap F s j (.seq q .skip) ρ ρ' xs:=fun st acc g hk hl=>by
 obtain⟨s1,e1,g1,k1⟩:=h st acc g hk hl;exact⟨s1,by show Yu (ex F q) (ex F .skip) ρ st=_;unfold Yu;rw[e1];rfl,g1,k1⟩
theorem Ap.app(hi:ρ[i]?=some (some (.lst j)))(h:Y F s e ρ d):Ap F s j (.app i e) ρ ρ [d]:=fun st acc g hk hl=>by
 obtain⟨s1,e1,k1⟩:=h st g;have h1:=k1.get hk;have hl:acc.length+1<=900:=hl;refine⟨s1.set j (true,acc++[d]),?_,⟨fun m hm hn=>?_,by rw[cM];exact k1.len⟩,by rw[Zr (ZR h1),if_pos rfl]⟩
 ·show JT i (ev F e) ρ st=_
  unfold JT Q6;simp only[hi,e1,h1];rw[if_pos (by unfold Zc;omega)]
 ·rw[Zr (ZR h1),if_neg (Ne.symm hn)]
  exact k1.old m hm
theorem Ap.ite(h:Y F s e ρ (.bl k))(hq:Ap F s j (if k then q else p) ρ ρ' xs):Ap F s j (.ite e q p) ρ ρ' xs:=fun st acc g hk hl=>by
 obtain⟨s1,e1,k1⟩:=h st g;obtain⟨s2,e2,g2,k2⟩:=hq s1 acc (g.trans k1) (k1.get hk) hl;exact⟨s2,by show XI (ev F e) (ex F q) (ex F p) ρ st=_;unfold XI;rw[e1];cases k<;>exact e2,k1.kj.trans g2,k2⟩
theorem Ap.set(h:Y F s e ρ d):Ap F s j (.set i e) ρ (Zj ρ i d) []:=fun st acc g hk hl=>by
 obtain⟨s1,e1,k1⟩:=h st g;exact⟨s1,by show YS i (ev F e) ρ st=_;unfold YS;rw[e1],k1.kj,by rw[aP];exact k1.get hk⟩
theorem Qk{α:Type}{la:Nat}{ca:Yb}{b:CS}{i i':Nat}{E:Ot D->Ot D->Env}{u v:α->D}{g:α->Li D}(hS:∀ y z u v,Zj (Zj (E y z) i u) i' v=E (some u) (some v))(hj:s.length<=j)(hn:la≠j):∀ {l:Li α},(∀ a∈l,Ap F s j b (E (some (u a)) (some (v a))) (E (some (u a)) (some (v a))) (g a))->
  ∀ {y z:Ot D}{st:Za}{acc:Li D},Grw s st->st[la]?=some ca->st[j]?=some (true,acc)->acc.length+(l.flatMap g).length<=900->∃ y' z' st',ZZ (fun S=>S[la]?=some ca) (fun x y ρ S=>ex F b (Zj (Zj ρ i x) i' y) S) (l.map fun a=>(u a,v a)) (E y z) st=some (.nx (E y' z'),st')/\Kj j st st'/\st'[j]?=some (true,acc++l.flatMap g)
 |[],_,y,z,st,acc,k,ha,hk,_=>⟨y,z,st,if_pos ha,Grw.refl.kj,by rw[List.flatMap_nil,aP];exact hk⟩
 |a :: l,h,y,z,st,acc,k,ha,hk,hl=>by
  rw[eE,aK]at hl;obtain⟨s1,e1,g1,k1⟩:=h a lQ7 st acc k hk (by omega)
  obtain⟨y',z',s2,e2,g2,k2⟩:=Qk hS hj hn (fun c hc=>h c (Lm _ hc)) (g1.grw hj k) ((g1.old _ (ZR ha) hn).trans ha) k1 (by rw[aK];omega)
  refine⟨y',z',s2,?_,g1.trans g2,by rw[eE,<-aM];exact k2⟩
  rw[aT,ZZ,if_pos ha];simp only[hS,e1];exact e2
end
variable{i':Nat}{acc:Li D}
section
variable {F:Nat->Fn}{s st:Za}{ρ:Env}{n j w:Nat}{x k:Str}{ws l:Li Str}{b c:Bool}{dn:Nat}
def ZPf:CE:=.aC (.slice (.var 0) (.part (.cst (.int 1))) .nop) (.aC LKf .aN)
theorem Zgm:Wc ((k :: ws).map D.str) (some 1) none=ws.map D.str:=by
 show(((k :: ws).map D.str).drop (Nat.min 1 ((k :: ws).map D.str).length)).take (((k :: ws).map D.str).length - Nat.min 1 ((k :: ws).map D.str).length)=_;have:Nat.min 1 ((k :: ws).map D.str).length=1:=by rw[aJ,aR];exact bT (by omega)
 rw[this,aT,aR,Nat.add_sub_cancel];exact dR
theorem Ap.zip{q:CS}{i:Nat}{E:Ot D->Ot D->Env}{g:Str×Str->Li D}(hs:s[w]?=some (b,(k :: ws).map D.str))(hk:fmK.contains k=true)(hE:∀ y z,∃ ρ,E y z=some (.lst w) :: ρ)(hS:∀ y z u v,Zj (Zj (E y z) i u) i' v=E (some u) (some v))(hj:s.length<=j)(h:∀ p∈ws.zip (kinds k),Ap F s j q (E (some (.str p.1)) (some (.str p.2))) (E (some (.str p.1)) (some (.str p.2))) (g p))(y z:Ot D)(g0:Grw s st)(h0:st[j]?=some (true,acc))(hl:acc.length+((ws.zip (kinds k)).flatMap g).length<=900) :
  ∃ y' z' st',ex F (.forP i i' ZPf q) (E y z) st=some (.nx (E y' z'),st')/\Kj j st st'/\st'[j]?=some (true,acc++(ws.zip (kinds k)).flatMap g):=by
 obtain⟨ρ,hρ⟩:=hE y z;have e2:ev F (.slice (.var 0) (.part (.cst (.int 1))) .nop) (some (.lst w) :: ρ) st=some (.lst st.length,st++[(true,ws.map D.str)]):=by
  show Yj (.lst w) (some 1) none st=_;unfold Yj;simp only[g0.get hs,Zgm]
 obtain⟨s3,e3,k3⟩:=Y.lk (F:=F) (ρ:=ρ) hs hk (st++[(true,ws.map D.str)]) (g0.trans .push);have e4:ev F ZPf (some (.lst w) :: ρ) st=some (.tup [.lst st.length,.tup ((kinds k).map D.str)],s3):=by
  show Zn (ev F (.slice (.var 0) (.part (.cst (.int 1))) .nop)) (Zn (ev F LKf) (evC (.tup [])) Ym) Ym (some (.lst w) :: ρ) st=_;unfold Zn;simp only[e2,e3];rfl
 have k4:Grw st s3:=Grw.push.trans k3;obtain⟨y',z',s5,e5,k5,h5⟩:=Qk (ca:=(true,ws.map D.str)) (la:=st.length) (u:=fun p:Str×Str=>D.str p.1) (v:=fun p=>D.str p.2) hS hj (by have:=ZR h0;omega) h (y:=y) (z:=z) (g0.trans k4) (k3.get ZF) (k4.get h0) hl
 refine⟨y',z',s5,?_,k4.kj.trans k5,h5⟩;rw[<-e5,<-VG,hρ];show V0 i i' (ev F ZPf) (ex F q) (some (.lst w) :: ρ) st=_;unfold V0;simp only[e4,k3.get ZF]
def WU(p:Str×Str):Bool:=(p.2==S "name"||p.2==S "operand")&&nmB p.1
def Z0(k:Str)(ws:Li Str):Li Str:=((ws.zip (kinds k)).filter WU).map (·.1)
theorem YM{α β:Type}{f:α->Bool}{g:α->β}:∀ {l:Li α},(l.flatMap fun a=>if f a then [g a] else [])=(l.filter f).map g
 |[]=>rfl
 |a :: l=>by rw[eE,YM];cases h:f a<;>simp[h]
theorem ZbR(hs:s[w]?=some (b,(k :: ws).map D.str))(hk:fmK.contains k=true)(hw:∀ x∈ws,Wd x)(hl:ws.length<=800):Lv s (run T (n+3) 234 [.lst w]) ((Z0 k ws).map D.str):=fun st g=>by
 have g1:Grw s (st++[(true,[])]):=g.trans .push;obtain⟨y',z',s2,e2,k2,h2⟩:=Ap.zip (F:=run T (n+2)) (j:=st.length) (q:=YH) (i:=2) (i':=3) (E:=fun y z=>[some (.lst w),some (.lst st.length),y,z]) (g:=fun p=>if WU p then [.str p.1] else []) hs hk (fun _ _=>⟨_,rfl⟩) (fun _ _ _ _=>rfl) g.len (fun p hp=>by
  refine .one (.ite (k:=WU p) (.and (.cmp (.r fun _=>rfl) (.r fun _=>rfl) fun st=>?_) fun _=>.call1 (.r fun _=>rfl) (C.up (UA (hw _ (dC hp).1)))) ?_)
  ·show Z6 p.2 [.str (S "name"),.str (S "operand")]=_
   show some (decide (S "name"=p.2)||(decide (S "operand"=p.2)||false))=_;rw[cW]
   congr 2<;>exact(decide_eq_decide.mpr ⟨Eq.symm,Eq.symm⟩)
  ·cases h:WU p with
   |true=>exact .one (.app rfl (.r fun _=>rfl))
   |false=>exact .skip) none none g1 ZF (by
  rw[YM,aJ];have:=List.length_filter_le WU (ws.zip (kinds k));rw[dA]at this;show 0+_<=900;omega)
 refine⟨s2,st.length,true,?_,?_,?_⟩
 ·exact XL (v:=c_names_read) rfl rfl ((Zg (p:=.set 1 (.lstE .aN)) (s':=st++[(true,[])]) rfl).trans ((Zg e2).trans rfl))
 ·rw[h2,YM]
  unfold Z0;rw[bI];rfl
 ·exact⟨fun i hi=>(k2.old i (aQ hi Grw.push.len) (by omega)).trans (Grw.push.old i hi),aH Grw.push.len k2.len⟩
def nmZ:Nat->Li Str->Li D
 |_,[]=>[]
 |i,x :: l=>.tup [.str x,.int (i:Int)] :: nmZ (i+1) l
def UP(l:Li Str)(x:Str):D:=.int (l.idxOf x:Int)
theorem QI:UM (nmZ j l)=false:=by cases l<;>rfl
theorem UV:∀ {l:Li Str}{j:Nat},(nmZ j l).length=l.length
 |[],_=>rfl
 |_ :: _,_=>congrArg (·+1) UV
theorem Za3:∀ {l:Li Str}{j:Nat},nmZ j (l++[x])=nmZ j l++[.tup [.str x,.int ((j+l.length:Nat):Int)]]
 |[],_=>rfl
 |y :: l,j=>by
  show _ :: nmZ (j+1) (l++[x])=_ :: (nmZ (j+1) l++_);rw[Za3,aR,show j+1+l.length=j+(l.length+1) by omega]
theorem X3:∀ {l:Li Str}{j:Nat},Yd (nmZ j l) x=if x∈l then some (.int ((j+l.idxOf x:Nat):Int)) else none
 |[],_=>rfl
 |y :: l,j=>by
  have ih:=X3 (l:=l) (j:=j+1);unfold Yd at ih ⊢
  show(List.find? (isK x) (.tup [.str y,.int (j:Int)] :: nmZ (j+1) l)).bind Zf8=_;by_cases h:y=x
  ·subst h
   rw[eK (by show decide (y=y)=true;exact aF rfl),if_pos lQ7,List.idxOf_cons_self];rfl
  ·have hb:(y==x)=false:=bQ.mpr h
   rw[eB (by show ¬decide (y=x)=true;simp[h]),ih,List.idxOf_cons,hb]
   simp only[aG,Ne.symm h,false_or,cond_false];rw[show j+1+l.idxOf x=j+(l.idxOf x+1) by omega]
variable (hd:s[dn]?=some (c,nmZ 0 l))
include hd
theorem Y.nm{a b:CE}(hx:x∈l)(ha:Y F s a ρ (.dic dn))(hb:Y F s b ρ (.str x)):Y F s (.ix a b) ρ (UP l x):=g2 ha hb (gs fun st g=>by
 show ixR (.dic dn) (.str x) st=_;have:dAt x dn st=some (some (UP l x)):=by
  unfold dAt;rw[g.get hd];simp only[QI];rw[X3,if_pos hx,cZ];rfl
 unfold ixR ixD;simp only[this];rfl)
def opD(l:Li Str)(x:Str):D:=if nmB x then .tup [.str (S "name"),UP l x] else .tup [.str (S "number"),ZG x]
theorem Zfd(h:Wd x)(hx:nmB x=true->x∈l):C (run T (n+4)) s 235 [.str x,.dic dn] (opD l x):=by
 have e:Y (run T (n+3)) s (.call 210 (.aC (.var 0) .aN) []) [some (.str x),some (.dic dn)] (.bl (nmB x)):=.call1 (.r fun _=>rfl) (C.up (UA h))
 refine .of (v:=c_operand_in) rfl rfl ?_;unfold opD;cases q:nmB x with
 |true=>rw[q]at e;exact .yes e (.cons (.r fun _=>rfl) (.cons (.nm hd (hx q) (.r fun _=>rfl) (.r fun _=>rfl)) .nil))
 |false=>rw[q]at e;exact .no e (.ret (.cons (.r fun _=>rfl) (.cons (.call1 (.r fun _=>rfl) (C.up (Qg h)) (nn Y9)) .nil)))
def tlD(l:Li Str)(p:Str×Str):Li D:=if p.2=S "name" then [UP l p.1] else if p.2=S "operand" then [opD l p.1] else if p.2=S "place" then [plD p.1] else if p.2=S "go" then [] else [.str p.1]
def ZH(l:Li Str)(k:Str)(ws:Li Str):Li D:=.str k :: (ws.zip (kinds k)).flatMap (tlD l)
theorem Zfe(hs:s[w]?=some (b,(k :: ws).map D.str))(hk:fmK.contains k=true)(hw:∀ x∈ws,Wd x)(hl:ws.length<=400)(hn:∀ x∈Z0 k ws,x∈l)(h1:∀ p∈ws.zip (kinds k),p.2=S "name"->nmB p.1=true):C (run T (n+5)) s 236 [.lst w,.dic dn] (.tup (ZH l k ws)):=fun st g=>by
 have g1:Grw s (st++[(true,[.str k])]):=g.trans .push;have nl:∀ p∈ws.zip (kinds k),(p.2=S "name"\/p.2=S "operand")->nmB p.1=true->p.1∈l:=fun p hp h2 h3=>hn _ (bC.mpr ⟨p,cP.mpr ⟨hp,by unfold WU;rw[h3];rcases h2 with h|h<;>rw[h]<;>rfl⟩,rfl⟩)
 obtain⟨y',z',s2,e2,k2,h2⟩:=Ap.zip (F:=run T (n+4)) (j:=st.length) (q:=Wa) (i:=3) (i':=4) (E:=fun y z=>[some (.lst w),some (.dic dn),some (.lst st.length),y,z]) (g:=tlD l) hs hk (fun _ _=>⟨_,rfl⟩) (fun _ _ _ _=>rfl) g.len (fun p hp=>by
  have q:∀ z,Y (run T (n+4)) s (.cmp .Eq (.var 4) (.cst (.str z))) [some (.lst w),some (.dic dn),some (.lst st.length),some (.str p.1),some (.str p.2)] (.bl (decide (p.2=z))):=fun z=>.r fun _=>rfl
  have wp:=hw _ (dC hp).1;unfold tlD;refine .one (.ite (q _) ?_);by_cases c1:p.2=S "name"
  ·rw[aF c1,if_pos c1]
   exact .one (.app rfl (.nm hd (nl p hp (.inl c1) (h1 p hp c1)) (.r fun _=>rfl) (.r fun _=>rfl)))
  ·rw[aL c1,if_neg c1]
   refine .one (.ite (q _) ?_);by_cases c2:p.2=S "operand"
   ·rw[aF c2,if_pos c2]
    exact .one (.app rfl (.call (xs:=[.str p.1,.dic dn]) (.r fun _=>rfl) (Zfd hd wp (nl p hp (.inr c2))) (by unfold opD;split<;>rfl)))
   ·rw[aL c2,if_neg c2]
    refine .one (.ite (q _) ?_);by_cases c3:p.2=S "place"
    ·rw[aF c3,if_pos c3]
     exact .one (.app rfl (.call1 (.r fun _=>rfl) (C.up (Qh wp)) (nn QP)))
    ·rw[aL c3,if_neg c3]
     refine .one (.ite (k:=!decide (p.2=S "go")) (.r fun _=>rfl) ?_)
     by_cases c4:p.2=S "go"
     ·rw[aF c4,if_pos c4];exact .skip
     ·rw[aL c4,if_neg c4];exact .one (.app rfl (.r fun _=>rfl))) none none g1 ZF (by
  have:∀ q:Li (Str×Str),(q.flatMap (tlD l)).length<=q.length:=fun q=>by
   induction q with
   |nil=>exact aE _
   |cons p q ih=>
    rw[eE,aK,aR];have:(tlD l p).length<=1:=by unfold tlD;repeat (first | (split) | (exact aE 1) | (exact bH 1))
    omega
  have:=this (ws.zip (kinds k));rw[dA]at this;show 1+_<=900;omega)
 refine⟨s2,?_,⟨fun i hi=>(k2.old i (aQ hi Grw.push.len) (by omega)).trans (Grw.push.old i hi),aH Grw.push.len k2.len⟩⟩
 have e0:ev (run T (n+4)) (.ix (.var 0) (.cst (.int 0))) [some (.lst w),some (.dic dn),none,none,none] st=some (.str k,st):=by
  show ixR (.lst w) (.int ((0:Nat):Int)) st=_;unfold ixR ixD;simp only[g.get hs];rw[Y6 (d:=.str k) rfl]
 have e1:ex (run T (n+4)) (.set 2 (.lstE (.aC (.ix (.var 0) (.cst (.int 0))) .aN))) [some (.lst w),some (.dic dn),none,none,none] st=some (.nx [some (.lst w),some (.dic dn),some (.lst st.length),none,none],st++[(true,[.str k])]):=by
  show YS 2 (Zm (Zn (ev (run T (n+4)) (.ix (.var 0) (.cst (.int 0)))) (evC (.tup [])) Ym) Jv) _ st=_;unfold YS Zm Zn;simp only[e0];rfl
 exact XL (v:=c_row_of) rfl rfl ((Zg e1).trans ((Zg e2).trans (Zt (W7 (Xk (s':=s2) rfl h2)))))
end
structure Sd where
 tk:List D
 nm:List Str
 ro:List D
 am:List D
def obC(s:Nat):Yb:=(true,[.int 237,.tup [.str (S "takes"),.lst (s+1)],.tup [.str (S "names"),.dic (s+2)],.tup [.str (S "rows"),.lst (s+3)],.tup [.str (S "aims"),.lst (s+4)]])
structure Dr(st:Za)(s:Nat)(a:Sd):Prop where
 o:st[s]?=some (obC s)
 t:st[s+1]?=some (true,a.tk)
 n:st[s+2]?=some (true,nmZ 0 a.nm)
 r:st[s+3]?=some (true,a.ro)
 a:st[s+4]?=some (true,a.am)
structure Kp(s:Nat)(st st':Za):Prop where
 old:∀ i,i < st.length->(i < s\/s+5<=i)->st'[i]?=st[i]?
 len:st.length<=st'.length
def mkX(c:Nat)(k:Int):D:=.dct [S "!"] [.int c,.int k]
variable{x0:Ot D}
section
variable {F:Nat->Fn}{ρ ρ':Env}{n m s w i j:Nat}{st st' st1 st2:Za}{a:Sd}{b k':Bool}{k x:Str}{ws:Li Str}{line:Int}{v d u:D}{e o:CE}{p q:CS}{xs:Li D}{c:Yb}
theorem Dr.ext(d:Dr st s a)(x:Grw st st'):Dr st' s a:=⟨x.get d.o,x.get d.t,x.get d.n,x.get d.r,x.get d.a⟩
theorem Grw.kp(x:Grw st st'):Kp s st st':=⟨fun i h _=>x.old i h,x.len⟩
theorem Kp.trans(a:Kp s st st1)(b:Kp s st1 st2):Kp s st st2:=⟨fun i h h'=>(b.old i (aQ h a.len) h').trans (a.old i h h'),aH a.len b.len⟩
theorem Kp.set(h:s<=j)(h':j < s+5):Kp s st (st.set j c):=⟨fun i _ hi=>by rw[List.getElem?_set,if_neg (by omega)],by rw[cM];exact aE _⟩
theorem Kp.get(k:Kp s st st')(h:st[i]?=some c)(hi:i < s\/s+5<=i):st'[i]?=some c:=(k.old i (ZR h) hi).trans h
theorem Dr.setT{l:Li D}(d:Dr st s a):Dr (st.set (s+1) (true,l)) s { a with tk:=l }:=by
 have h:=ZR d.t;exact⟨by rw[Zr h,if_neg (by omega)];exact d.o,by rw[Zr h,if_pos rfl],by rw[Zr h,if_neg (by omega)];exact d.n,by rw[Zr h,if_neg (by omega)];exact d.r,by rw[Zr h,if_neg (by omega)];exact d.a⟩
theorem Dr.setN(d:Dr st s a):Dr (st.set (s+2) (true,nmZ 0 a.nm++[.tup [.str x,.int (a.nm.length:Int)]])) s { a with nm:=a.nm++[x] }:=by
 have h:=ZR d.n;exact⟨by rw[Zr h,if_neg (by omega)];exact d.o,by rw[Zr h,if_neg (by omega)];exact d.t,by rw[Zr h,if_pos rfl];show _=some (true,nmZ 0 (a.nm++[x]));rw[Za3,cZ],by rw[Zr h,if_neg (by omega)];exact d.r,by rw[Zr h,if_neg (by omega)];exact d.a⟩
theorem Dr.setR{l:Li D}(d:Dr st s a):Dr (st.set (s+3) (true,l)) s { a with ro:=l }:=by
 have h:=ZR d.r;exact⟨by rw[Zr h,if_neg (by omega)];exact d.o,by rw[Zr h,if_neg (by omega)];exact d.t,by rw[Zr h,if_neg (by omega)];exact d.n,by rw[Zr h,if_pos rfl],by rw[Zr h,if_neg (by omega)];exact d.a⟩
theorem Dr.setA{l:Li D}(d:Dr st s a):Dr (st.set (s+4) (true,l)) s { a with am:=l }:=by
 have h:=ZR d.a;exact⟨by rw[Zr h,if_neg (by omega)];exact d.o,by rw[Zr h,if_neg (by omega)];exact d.t,by rw[Zr h,if_neg (by omega)];exact d.n,by rw[Zr h,if_neg (by omega)];exact d.r,by rw[Zr h,if_pos rfl]⟩
theorem Qx{f:Str}(d:Dr st s a)(h:Yd [.tup [.str (S "takes"),.lst (s+1)],.tup [.str (S "names"),.dic (s+2)],.tup [.str (S "rows"),.lst (s+3)],.tup [.str (S "aims"),.lst (s+4)]] f=some v):ev F (.dict [f] (.var 0)) (some (.dic s) :: ρ) st=some (v,st):=by
 show Zao [f] (.dic s) st=_;unfold Zao;simp only[d.o,obC,h]
theorem Vk(d:Dr st s a):ev F (.dict [(S "takes")] (.var 0)) (some (.dic s) :: ρ) st=some (.lst (s+1),st):=Qx d rfl
theorem Xn(d:Dr st s a):ev F (.dict [(S "names")] (.var 0)) (some (.dic s) :: ρ) st=some (.dic (s+2),st):=Qx d rfl
theorem Vj(d:Dr st s a):ev F (.dict [(S "rows")] (.var 0)) (some (.dic s) :: ρ) st=some (.lst (s+3),st):=Qx d rfl
theorem Zal(d:Dr st s a):ev F (.dict [(S "aims")] (.var 0)) (some (.dic s) :: ρ) st=some (.lst (s+4),st):=Qx d rfl
theorem Y.f(d:Dr st s a)(h:∀ {st},Dr st s a->ev F e (some (.dic s) :: ρ) st=some (v,st)):Y F st e (some (.dic s) :: ρ) v:=.at fun _ g=>h (d.ext g)
theorem Y.lt(d:Dr st s a):Y F st (.len (.dict [(S "takes")] (.var 0))) (some (.dic s) :: ρ) (.int a.tk.length):=.lenl d.t (.f d Vk)
theorem Y.lr(d:Dr st s a):Y F st (.len (.dict [(S "rows")] (.var 0))) (some (.dic s) :: ρ) (.int a.ro.length):=.lenl d.r (.f d Vj)
theorem QE(d:Dr st s a):ev F (.len (.dict [(S "names")] (.var 0))) (some (.dic s) :: ρ) st=some (.int a.nm.length,st):=by
 show Zm (ev F (.dict [(S "names")] (.var 0))) Yw _ st=_;unfold Zm;rw[Xn d];show Yw (.dic (s+2)) st=_;unfold Yw Uc;simp only[d.n,QI,UV];rfl
theorem Y.ln(d:Dr st s a):Y F st (.len (.dict [(S "names")] (.var 0))) (some (.dic s) :: ρ) (.int a.nm.length):=.f d QE
theorem Qv:decide ((i:Int)=(j:Int))=decide (i=j):=decide_eq_decide.mpr (by omega)
theorem Wf:decide ((i:Int) < (j:Int))=decide (i < j):=decide_eq_decide.mpr (by omega)
def rmB(a:Sd)(k:Str):Bool:=if k=S "take" then decide (a.nm.length=a.tk.length)&&decide (a.ro.length=0)&&decide (a.tk.length < 3) else if k=S "name" then decide (a.ro.length=0)&&decide (a.nm.length < 5) else decide (a.ro.length < 12)
theorem ZdS(d:Dr st s a):C (run T (n+1)) st 239 [.dic s,.str k] (.bl (rmB a k)):=by
 refine .of (v:=c_Draft_has_room) rfl rfl ?_;have r0:∀ {ρ},Y (run T n) st (.cmp .Eq (.len (.dict [(S "rows")] (.var 0))) (.cst (.int 0))) (some (.dic s) :: ρ) (.bl (decide (a.ro.length=0))):=.cmp (.lr d) (.r fun _=>rfl) fun _=>by rw[<-Qv];rfl
 unfold rmB;by_cases h:k=S "take"
 ·subst h
  rw[if_pos rfl];intro st1 g;have y1:Y (run T n) st (.and (.cmp .Eq (.len (.dict [(S "names")] (.var 0))) (.len (.dict [(S "takes")] (.var 0)))) (.cmp .Eq (.len (.dict [(S "rows")] (.var 0))) (.cst (.int 0)))) [some (.dic s),some (.str (S "take")),none] (.bl (decide (a.nm.length=a.tk.length)&&decide (a.ro.length=0))):=.and (.cmp (.ln d) (.lt d) fun _=>by rw[<-Qv];rfl) fun _=>r0
  have y2:R (run T n) st (.seq (.set 2 (.and (.cmp .Eq (.len (.dict [(S "names")] (.var 0))) (.len (.dict [(S "takes")] (.var 0)))) (.cmp .Eq (.len (.dict [(S "rows")] (.var 0))) (.cst (.int 0))))) (.seq (.ret (.and (.var 2) (.cmp .Lt (.len (.dict [(S "takes")] (.var 0))) (.cst (.int 3))))) .skip)) [some (.dic s),some (.str (S "take")),none] (.bl (decide (a.nm.length=a.tk.length)&&decide (a.ro.length=0)&&decide (a.tk.length < 3))):=.set y1 (.ret (.and (.r fun _=>rfl) fun _=>.cmp (.lt d) (.r fun _=>rfl) fun _=>by rw[<-Wf];rfl))
  obtain⟨s2,e2,k2⟩:=y2 st1 g;exact⟨s2,Zt e2,k2⟩
 ·rw[if_neg h]
  refine .no (.cmp (.r fun _=>rfl) (.r fun _=>rfl) fun _=>by show some (decide (k=S "take"))=_;rw[aL h]) ?_
  by_cases h2:k=S "name"
  ·subst h2
   rw[if_pos rfl];exact .yes (.r fun _=>rfl) (.and r0 fun _=>.cmp (.ln d) (.r fun _=>rfl) fun _=>by rw[<-Wf];rfl)
  ·rw[if_neg h2]
   exact .no (.cmp (.r fun _=>rfl) (.r fun _=>rfl) fun _=>by show some (decide (k=S "name"))=_;rw[aL h2]) (.ret (.cmp (.lr d) (.r fun _=>rfl) fun _=>by rw[<-Wf];rfl))
theorem YG(h:ev F e ρ st=some (.bl true,st')):ex F (.ite e p q) ρ st=ex F p ρ st':=by
 show XI (ev F e) (ex F p) (ex F q) ρ st=_;unfold XI;rw[h]
theorem XN(h:ev F e ρ st=some (.bl false,st')):ex F (.ite e p q) ρ st=ex F q ρ st':=by
 show XI (ev F e) (ex F p) (ex F q) ρ st=_;unfold XI;rw[h]
theorem Y3(h:ev F e ρ st=some (v,st')):ex F (.set i e) ρ st=some (.nx (Zj ρ i v),st'):=by
 show YS i (ev F e) ρ st=_;unfold YS;rw[h]
theorem ZbJ(h:evX F e ρ st=some (.non,st')):ex F (.act e) ρ st=some (.nx ρ,st'):=by
 show VI (evX F e) ρ st=_;unfold VI;rw[h]
theorem Qd{c:Nat}{k:Int}(h:evX F e ρ st=some (mkX c k,st')):ex F (.act e) ρ st=some (.rt (mkX c k),st'):=by
 show VI (evX F e) ρ st=_;unfold VI;rw[h];rfl
theorem X6{k:Int}(h:ev F e ρ st=some (.int k,st')):ex F (.ext i e) ρ st=some (.rt (mkX i k),st'):=by
 show WB i (ev F e) ρ st=_;unfold WB;rw[h];rfl
theorem Zp:ex F .skip ρ st=some (.nx ρ,st):=rfl
theorem VF{f:Nat}(hi:ρ[i]?=some (some (.dic s)))(ho:st[s]?=some (obC s))(h:ev F e ρ st=some (.tup xs,st1)):evX F (.meth [(237,f)] (.var i) e) ρ st=F f (.dic s :: xs) st1:=by
 show XW F [(237,f)] (ZA i) (ev F e) ρ st=_;unfold XW ZA;simp only[hi,ho,obC,h];rfl
theorem Y.meth{f:Nat}(hi:ρ[i]?=some (some (.dic s)))(ho:st[s]?=some (obC s))(h:Y F st e ρ (.tup xs))(hF:C F st f (.dic s :: xs) v)(hv:NX v=true:=by rfl):Y F st (.meth [(237,f)] (.var i) e) ρ v:=fun st1 g=>by
 obtain⟨s2,e2,k2⟩:=h st1 g;obtain⟨s3,e3,k3⟩:=hF s2 (g.trans k2);refine⟨s3,?_,k2.trans k3⟩;show YY (XW F [(237,f)] (ZA i) (ev F e) ρ st1)=_;rw[show XW F [(237,f)] (ZA i) (ev F e) ρ st1=_ from VF hi (g.get ho) e2,e3,WX hv]
theorem X7(ho:ev F o ρ st=some (.lst j,st))(he:ev F e ρ st=some (v,st1))(h:st1[j]?=some (true,xs))(hl:xs.length < 900):ex F (.app2 o e) ρ st=some (.nx ρ,st1.set j (true,xs++[v])):=by
 show VJ (ev F o) (ev F e) ρ st=_;unfold VJ Q6;simp only[ho,he,h];rw[if_pos (by unfold Zc;omega)]
theorem Zdr(d:Dr st s a):XB .In (.str x) (.dic (s+2)) st=some (decide (x∈a.nm)):=by
 show(dAt x (s+2) st).map Option.isSome=_;unfold dAt;rw[d.n];simp only[QI];rw[show(if false=true then none else some (Yd (nmZ 0 a.nm) x))=some (Yd (nmZ 0 a.nm) x) from rfl,X3]
 by_cases h:x∈a.nm
 ·rw[if_pos h,aF h];rfl
 ·rw[if_neg h,aL h];rfl
theorem Zah(hw:st[w]?=some (b,(k :: ws).map D.str))(h:(k :: ws)[j]?=some x):ev F (.ix (.var 1) (.cst (.int (j:Int)))) (x0 :: some (.lst w) :: ρ) st=some (.str x,st):=by
 show ixR (.lst w) (.int (j:Int)) st=_;unfold ixR ixD;simp only[hw];rw[Y6 (d:=.str x) (by rw[aU,h];rfl)]
end
def ZC(line:Int)(r:Li D)(k:Str):Li D:=if k=S "if"\/k=S "go" then [.tup [.int line,r.getLastD .non]] else []
def rdL(a:Sd)(line:Int)(k:Str)(ws:Li Str):Sum Nat Sd:=
 if (lnB k ws&&rmB a k)=false then .inl 224
 else if k=S "take"\/k=S "name" then (if ws.getD 0 (S "")∈a.nm then .inl 225 else .inr { a with nm:=a.nm++[ws.getD 0 (S "")],tk:=if k=S "take" then a.tk++[.tup [ZG (ws.getD 1 (S "")),ZG (ws.getD 2 (S ""))]] else a.tk })
 else if ∀ x∈Z0 k ws,x∈a.nm then .inr { a with ro:=a.ro++[.tup (ZH a.nm k ws)],am:=a.am++ZC line (ZH a.nm k ws) k } else .inl 226
structure Few(a:Sd):Prop where
 t:a.tk.length<=100
 n:a.nm.length<=100
 r:a.ro.length<=100
 a:a.am.length<=100
def Out(s:Nat)(st:Za)(line:Int)(r:Sum Nat Sd)(y:Ot (D×Za)):Prop:=match r with
 |.inl c=>∃ st',y=some (mkX c line,st')/\Kp s st st'
 |.inr a=>∃ st',y=some (.non,st')/\Dr st' s a/\Kp s st st'
variable{xs:Li D}
section
variable {F:Nat->Fn}{ρ:Env}{n s w i j:Nat}{st st' st1:Za}{a:Sd}{b:Bool}{k x:Str}{ws:Li Str}{line:Int}{v u:D}
theorem Out.grw{r:Sum Nat Sd}{y:Ot (D×Za)}(g:Grw st st1)(h:Out s st1 line r y):Out s st line r y:=by
 cases r with
 |inl c=>obtain⟨st',e,k⟩:=h;exact⟨st',e,g.kp.trans k⟩
 |inr a=>obtain⟨st',e,d,k⟩:=h;exact⟨st',e,d,g.kp.trans k⟩
theorem ZbT(d:Dr st s a)(hf:Few a)(hw:st[w]?=some (b,(k :: ws).map D.str))(hne:w < s\/s+5<=w)(hW:∀ x∈ws,Wd x)(h0:ws[0]?=some x)(h2:k=S "take"->∃ y z,ws[1]?=some y/\ws[2]?=some z) :
  Out s st line (if x∈a.nm then .inl 225 else .inr { a with nm:=a.nm++[x],tk:=if k=S "take" then a.tk++[.tup [ZG (ws.getD 1 (S "")),ZG (ws.getD 2 (S ""))]] else a.tk }) (run T (n+4) 241 [.dic s,.lst w,.int line] st):=by
 have i1:∀ {st},st[w]?=some (b,(k :: ws).map D.str)->ev (run T (n+3)) (.ix (.var 1) (.cst (.int 1))) [some (.dic s),some (.lst w),some (.int line)] st=some (.str x,st):=fun h=>Zah (j:=1) h h0
 have c1:ev (run T (n+3)) (.cmp .In (.ix (.var 1) (.cst (.int 1))) (.dict [(S "names")] (.var 0))) [some (.dic s),some (.lst w),some (.int line)] st=some (.bl (decide (x∈a.nm)),st):=by
  show Zn (ev (run T (n+3)) _) (ev (run T (n+3)) _) (ZW .In) _ st=_;unfold Zn;simp only[i1 hw,Xn d];unfold ZW;rw[Zdr d]
 by_cases h:x∈a.nm
 ·rw[if_pos h]
  rw[aF h]at c1;exact⟨st,XL (v:=c_Draft_read_name) rfl rfl (Zt ((YG c1).trans (Zt (X6 (by rfl))))),Grw.refl.kp⟩
 ·rw[if_neg h]
  rw[aL h]at c1;have hn:(nmZ 0 a.nm).any (isK x)=false:=by
   have e:=X3 (x:=x) (l:=a.nm) (j:=0);rw[if_neg h]at e;cases q:(nmZ 0 a.nm).any (isK x) with
   |false=>rfl
   |true=>
    exfalso
    obtain⟨z,hz,kz⟩:=List.any_eq_true.mp q;have nz:∀ {l:Li Str}{j:Nat},∀ z∈nmZ j l,isK x z=true->x∈l:=fun {l}=>by
     induction l with
     |nil=>intro j z hz;cases hz
     |cons y l ih=>
      intro j z hz kz;rcases aG.mp hz with rfl|hz
      ·rw[<-of_decide_eq_true (show decide (y=x)=true from kz)];exact lQ7
      ·exact Lm _ (ih z hz kz)
    exact h (nz z hz kz)
  have d1:=d.setN (x:=x);have hw1:(st.set (s+2) (true,nmZ 0 a.nm++[.tup [.str x,.int (a.nm.length:Int)]]))[w]?=some (b,(k :: ws).map D.str):=(Kp.set (s:=s) (by omega) (by omega)).get hw hne
  have e2:ex (run T (n+3)) (.dput 0 (.dict [(S "names")] (.var 0)) (.ix (.var 1) (.cst (.int 1))) (.len (.dict [(S "names")] (.var 0)))) [some (.dic s),some (.lst w),some (.int line)] st=some (.nx [some (.dic s),some (.lst w),some (.int line)],st.set (s+2) (true,nmZ 0 a.nm++[.tup [.str x,.int (a.nm.length:Int)]])):=by
   show VV (ev (run T (n+3)) _) (ev (run T (n+3)) _) (ev (run T (n+3)) _) _ st=_;unfold VV;simp only[QE d,Xn d,i1 hw,d.n,QI,hn,and_true,true_and];rw[if_pos (by have:=hf.n;rw[UV];unfold Zc;omega)]
  have e0:∀ {st},st[w]?=some (b,(k :: ws).map D.str)->ev (run T (n+3)) (.cmp .Eq (.ix (.var 1) (.cst (.int 0))) (.cst (.str (S "take")))) [some (.dic s),some (.lst w),some (.int line)] st=some (.bl (decide (k=S "take")),st):=fun {st} h=>by
   show Zn (ev (run T (n+3)) (.ix (.var 1) (.cst (.int ((0:Nat):Int))))) (ev (run T (n+3)) _) (ZW .Eq) _ st=_;unfold Zn;rw[Zah (j:=0) (x:=k) h rfl];rfl
  have e3:=e0 hw1;by_cases ht:k=S "take"
  ·rw[aF ht]at e3
   rw[if_pos ht];obtain⟨y,z,hy,hz⟩:=h2 ht;have gy:ws.getD 1 (S "")=y:=by rw[dI,hy];rfl
   have gz:ws.getD 2 (S "")=z:=by rw[dI,hz];rfl
   rw[gy,gz];have num:∀ {i:Nat}{u:Str},(k :: ws)[i]?=some u->Wd u->Y (run T (n+3)) (st.set (s+2) (true,nmZ 0 a.nm++[.tup [.str x,.int (a.nm.length:Int)]])) (.call 212 (.aC (.ix (.var 1) (.cst (.int (i:Int)))) .aN) []) [some (.dic s),some (.lst w),some (.int line)] (ZG u):=fun {i}{u} h hu=>.call1 (.at fun _ g=>Zah (g.get hw1) h) (C.up (Qg hu)) (nn Y9)
   have yy:=Y.cons (num (i:=2) (u:=y) hy (hW _ (aV hy))) (Y.cons (num (i:=3) (u:=z) hz (hW _ (aV hz))) Y.nil);obtain⟨s2,e4,k4⟩:=yy _ .refl;have d2:=d1.ext k4;refine⟨_,UZ (v:=c_Draft_read_name) rfl rfl ((Zg ((XN c1).trans Zp)).trans ((Zg e2).trans ((Zg ((YG e3).trans ((Zg (X7 (Vk d1) e4 d2.t (by have:=hf.t;show a.tk.length < 900;omega))).trans Zp))).trans Zp))),d2.setT,((Kp.set (by omega) (by omega)).trans k4.kp).trans (Kp.set (by omega) (by omega))⟩
  ·rw[aL ht]at e3
   rw[if_neg ht];exact⟨_,UZ (v:=c_Draft_read_name) rfl rfl ((Zg ((XN c1).trans Zp)).trans ((Zg e2).trans ((Zg ((XN e3).trans Zp)).trans Zp))),d1,Kp.set (by omega) (by omega)⟩
theorem ZbZ(h:xs≠[]):atD xs (-1)=some (xs.getLastD .non):=by
 have hl:=List.length_pos_iff.mpr h;unfold atD ixN;rw[if_neg (by decide),if_pos (by omega),Ob,show((-1+(xs.length:Int)).toNat)=xs.length - 1 by omega,<-List.getLast?_eq_getElem?,List.getLastD_eq_getLast?]
 rw[List.getLast?_eq_some_getLast h];rfl
theorem Wx{xs:Li D}{f:D->Env->Za->Ot (Fl×Za)}{E:Ot D->Env}{P:D->Prop}(hj:st[j]?=some (b,xs))(hf:∀ d∈xs,∀ y,(P d->f d (E y) st=some (.nx (E (some d)),st))/\(¬P d->f d (E y) st=some (.rt u,st))):∀ (m i:Nat) (y:Ot D),i+m=xs.length->((∀ d∈xs.drop i,P d)->∃ y',Zv f j m i (E y) st=some (.nx (E y'),st))/\((¬∀ d∈xs.drop i,P d)->Zv f j m i (E y) st=some (.rt u,st))
 |0,i,y,hi=>⟨fun _=>⟨y,by unfold Zv;rw[hj];exact if_pos (by omega)⟩,fun h=>absurd (fun d hd=>by rw[dE (by omega)]at hd;cases hd) h⟩
 |m+1,i,y,hi=>by
  have hx:i < xs.length:=by omega
  obtain⟨p1,p2⟩:=hf xs[i] (cB hx) y;have ih:=Wx hj hf m (i+1) (some xs[i]) (by omega)
  have e:Zv f j (m+1) i (E y) st=match f xs[i] (E y) st with
    |some (.nx ρ',st')=>Zv f j m (i+1) ρ' st'
    |some (.ct ρ',st')=>Zv f j m (i+1) ρ' st'
    |some (.bk ρ',st')=>some (.nx ρ',st')
    |some (.rt v,st')=>some (.rt v,st')
    |none=>none:=by
   conv=>lhs;unfold Zv
   simp only[hj,Lg hx]<;>rfl
  rw[e,cN hx];refine⟨fun h=>?_,fun h=>?_⟩
  ·rw[p1 (h _ lQ7)]
   exact ih.1 fun d hd=>h d (Lm _ hd)
  ·by_cases q:P xs[i]
   ·rw[p1 q]
    exact ih.2 fun z=>h fun d hd=>by rcases aG.mp hd with rfl|hd;exact q;exact z d hd
   ·rw[p2 q]
theorem Zfs{r:Li D}{x1 x3:Ot D}(hr:r≠[]):ev F (.tupE (.aC (.var 2) (.aC (.ix (.var 4) (.neg (.cst (.int 1)))) .aN))) [x0,x1,some (.int line),x3,some (.tup r)] st=some (.tup [.int line,r.getLastD .non],st):=by
 have e:ev F (.ix (.var 4) (.neg (.cst (.int 1)))) [x0,x1,some (.int line),x3,some (.tup r)] st=some (r.getLastD .non,st):=by
  show ixR (.tup r) (.int (-1)) st=_;unfold ixR ixD;simp only[ZbZ hr]
 show(match ev F (.aC (.ix (.var 4) (.neg (.cst (.int 1)))) .aN) [x0,x1,some (.int line),x3,some (.tup r)] st with
  |some (y,s2)=>Ym (.int line) y s2
  |none=>none)=_
 rw[show ev F (.aC (.ix (.var 4) (.neg (.cst (.int 1)))) .aN) [x0,x1,some (.int line),x3,some (.tup r)] st=(match ev F (.ix (.var 4) (.neg (.cst (.int 1)))) [x0,x1,some (.int line),x3,some (.tup r)] st with
  |some (y,s2)=>Ym y (.tup []) s2
  |none=>none) from rfl,e]
 rfl
theorem ZdT(d:Dr st s a)(hf:Few a)(hw:st[w]?=some (b,(k :: ws).map D.str))(hne:w < s\/s+5<=w)(hk:fmK.contains k=true)(hW:∀ x∈ws,Wd x)(hl:ws.length<=400)(h1:∀ p∈ws.zip (kinds k),p.2=S "name"->nmB p.1=true) :
  Out s st line (if ∀ x∈Z0 k ws,x∈a.nm then .inr { a with ro:=a.ro++[.tup (ZH a.nm k ws)],am:=a.am++ZC line (ZH a.nm k ws) k } else .inl 226) (run T (n+6) 242 [.dic s,.lst w,.int line] st):=by
 obtain⟨st1,j,b',e1,hj,g1⟩:=ZbR (n:=n+2) hw hk hW (by omega) st .refl
 have d1:=d.ext g1;have lp:=Wx (st:=st1) (j:=j) (u:=mkX 226 line) (f:=fun d ρ S=>ex (run T (n+5)) Zs (Zj ρ 3 d) S) (E:=fun y=>[some (.dic s),some (.lst w),some (.int line),y,none]) (P:=fun d=>∃ x,d=.str x/\x∈a.nm) hj (fun z hz y=>by
  obtain⟨x,_,rfl⟩:=bC.mp hz;have c:ev (run T (n+5)) (.cmp .NotIn (.var 3) (.dict [(S "names")] (.var 0))) [some (.dic s),some (.lst w),some (.int line),some (.str x),none] st1=some (.bl (!decide (x∈a.nm)),st1):=by
   show(match ev (run T (n+5)) (.dict [(S "names")] (.var 0)) [some (.dic s),some (.lst w),some (.int line),some (.str x),none] st1 with
    |some (y,st2)=>ZW .NotIn (.str x) y st2
    |none=>none)=_
   rw[Xn d1];show ZW .NotIn (.str x) (.dic (s+2)) st1=_;unfold ZW;rw[show XB .NotIn (.str x) (.dic (s+2)) st1=(XB .In (.str x) (.dic (s+2)) st1).map not from rfl,Zdr d1];rfl
  refine⟨fun⟨x',ex,hx⟩=>?_,fun h=>?_⟩
  ·cases ex
   rw[aF hx]at c;exact(Zg ((XN c).trans Zp)).trans Zp
  ·have hx:¬x∈a.nm:=fun q=>h ⟨x,rfl,q⟩
   rw[aL hx]at c;exact Zt ((YG c).trans (Zt (X6 (by rfl))))) ((Z0 k ws).map D.str).length 0 none (by omega)
 rw[dO]at lp;have ef:ex (run T (n+5)) (.for1 3 false (.call 234 (.aC (.var 1) .aN) []) Zs) [some (.dic s),some (.lst w),some (.int line),none,none] st=Zv (fun d ρ S=>ex (run T (n+5)) Zs (Zj ρ 3 d) S) j ((Z0 k ws).map D.str).length 0 [some (.dic s),some (.lst w),some (.int line),none,none] st1:=by
  show Wn 3 false (Zm (evC (.tup [.lst w])) (Xd (run T (n+5) 234) [])) (ex (run T (n+5)) Zs) _ st=_;unfold Wn;have:Zm (evC (.tup [.lst w])) (Xd (run T (n+5) 234) []) [some (.dic s),some (.lst w),some (.int line),none,none] st=some (.lst j,st1):=by
   show YY (run T (n+5) 234 ([.lst w]++[]) st)=_;rw[aP,e1];rfl
  rw[this];show(match st1[j]? with
   |some (_,xs)=>Zv (fun d ρ s=>ex (run T (n+5)) Zs (Zj ρ 3 d) s) j xs.length 0 _ st1
   |none=>none)=_
  rw[hj]
 have iff:(∀ d∈(Z0 k ws).map D.str,∃ x,d=.str x/\x∈a.nm)↔∀ x∈Z0 k ws,x∈a.nm:=⟨fun h x hx=>by obtain⟨y,e,hy⟩:=h _ (bC.mpr ⟨x,hx,rfl⟩);cases e;exact hy,fun h d hd=>by obtain⟨x,hx,rfl⟩:=bC.mp hd;exact⟨x,rfl,h x hx⟩⟩
 by_cases h:∀ x∈Z0 k ws,x∈a.nm
 ·rw[if_pos h]
  obtain⟨y',e2⟩:=lp.1 (iff.mpr h);have hw1:=g1.get hw;have yr:Y (run T (n+5)) st1 (.call 236 (.aC (.var 1) (.aC (.dict [(S "names")] (.var 0)) .aN)) []) [some (.dic s),some (.lst w),some (.int line),y',none] (.tup (ZH a.nm k ws)):=.call (xs:=[.lst w,.dic (s+2)]) (.cons (.r fun _=>rfl) (.cons (.f d1 Xn) .nil)) (Zfe d1.n hw1 hk hW hl h h1)
  obtain⟨st3,e3,g3⟩:=yr st1 .refl;have d3:=d1.ext g3;have d4:=d3.setR (l:=a.ro++[.tup (ZH a.nm k ws)]);have e4:=X7 (F:=run T (n+5)) (ρ:=[some (.dic s),some (.lst w),some (.int line),y',some (.tup (ZH a.nm k ws))]) (Vj d3) (e:=.var 4) (v:=.tup (ZH a.nm k ws)) (st1:=st3) rfl d3.r (by have:=hf.r;omega)
  have k4:Kp s st (st3.set (s+3) (true,a.ro++[.tup (ZH a.nm k ws)])):=((g1.trans g3).kp).trans (Kp.set (by omega) (by omega))
  have c5:∀ S',ev (run T (n+5)) (.cmp .In (.ix (.var 4) (.cst (.int 0))) (.tupE (.aC (.cst (.str (S "if"))) (.aC (.cst (.str (S "go"))) .aN)))) [some (.dic s),some (.lst w),some (.int line),y',some (.tup (ZH a.nm k ws))] S'=some (.bl (decide (k=S "if"\/k=S "go")),S'):=fun S'=>by
   show(match ixR (.tup (ZH a.nm k ws)) (.int ((0:Nat):Int)) S' with
    |some (x,s1)=>ZW .In x (.tup [.str (S "if"),.str (S "go")]) s1
    |none=>none)=_
   unfold ixR ixD;simp only[Y6 (d:=D.str k) (xs:=ZH a.nm k ws) (j:=0) rfl];show some (D.bl (decide (S "if"=k)||(decide (S "go"=k)||false)),S')=_
   rw[cW,Bool.decide_or,decide_eq_decide.mpr (⟨Eq.symm,Eq.symm⟩:S "if"=k↔k=S "if"),decide_eq_decide.mpr (⟨Eq.symm,Eq.symm⟩:S "go"=k↔k=S "go")]
  have c5:=c5 (st3.set (s+3) (true,a.ro++[.tup (ZH a.nm k ws)]));have hd:=(Zg (ef.trans e2)).trans ((Zg (Y3 (i:=4) e3)).trans (Zg (q:=.seq (.ite (.cmp .In (.ix (.var 4) (.cst (.int 0))) (.tupE (.aC (.cst (.str (S "if"))) (.aC (.cst (.str (S "go"))) .aN)))) (.seq (.app2 (.dict [(S "aims")] (.var 0)) (.tupE (.aC (.var 2) (.aC (.ix (.var 4) (.neg (.cst (.int 1)))) .aN)))) .skip) .skip) .skip) e4))
  unfold ZC;by_cases hg:k=S "if"\/k=S "go"
  ·rw[aF hg]at c5
   rw[if_pos hg];have e6:=X7 (F:=run T (n+5)) (ρ:=[some (.dic s),some (.lst w),some (.int line),y',some (.tup (ZH a.nm k ws))]) (Zal d4) (e:=.tupE (.aC (.var 2) (.aC (.ix (.var 4) (.neg (.cst (.int 1)))) .aN))) (v:=.tup [.int line,(ZH a.nm k ws).getLastD .non]) (st1:=st3.set (s+3) (true,a.ro++[.tup (ZH a.nm k ws)])) (Zfs (dD _ _)) d4.a (by have:=hf.a;show a.am.length < 900;omega)
   exact⟨_,UZ (v:=c_Draft_read_row) rfl rfl (hd.trans ((Zg ((YG c5).trans ((Zg e6).trans Zp))).trans Zp)),d4.setA,k4.trans (Kp.set (by omega) (by omega))⟩
  ·rw[aL hg]at c5
   rw[if_neg hg,aP];exact⟨_,UZ (v:=c_Draft_read_row) rfl rfl (hd.trans ((Zg ((XN c5).trans Zp)).trans Zp)),d4,k4⟩
 ·rw[if_neg h]
  exact⟨st1,XL (v:=c_Draft_read_row) rfl rfl (Zt (ef.trans (lp.2 fun z=>h (iff.mp z)))),g1.kp⟩
end
section
variable {F:Nat->Fn}{ρ:Env}{n s w i j:Nat}{st st' st1:Za}{a:Sd}{b:Bool}{k x:Str}{ws:Li Str}{line:Int}{v u:D}
theorem WV(h:(decide (ws.length=(kinds k).length)&&(ws.zip (kinds k)).all fun p=>fB p.1 p.2)=true):ws.length=(kinds k).length/\∀ p∈ws.zip (kinds k),fB p.1 p.2=true:=
 ⟨of_decide_eq_true (aX.mp h).1,fun p hp=>bP.mp (aX.mp h).2 p hp⟩
theorem ZbS(d:Dr st s a)(hf:Few a)(hw:st[w]?=some (b,(k :: ws).map D.str))(hne:w < s\/s+5<=w)(hW:∀ x∈ws,Wd x)(hl:ws.length<=400):Out s st line (rdL a line k ws) (run T (n+7) 240 [.dic s,.lst w,.int line] st):=by
 have y1:Y (run T (n+6)) st (.or (.not (.call 233 (.aC (.var 1) .aN) [])) (.not (.meth [(237,239)] (.var 0) (.aC (.ix (.var 1) (.cst (.int 0))) .aN)))) [some (.dic s),some (.lst w),some (.int line)] (.bl (!(lnB k ws&&rmB a k))):=by
  rw[Bool.not_and];exact .or (.not (.call1 (.r fun _=>rfl) (ZdP (n:=n+1) hw hW (by omega)))) fun _=>.not (.meth rfl d.o (.cons (.at fun _ g=>Zah (j:=0) (g.get hw) rfl) .nil) (ZdS d))
 obtain⟨st1,e1,g1⟩:=y1 st .refl;have d1:=d.ext g1;have hw1:=g1.get hw;refine .grw g1 ?_;unfold rdL;cases hr:lnB k ws&&rmB a k with
 |false=>
  rw[hr]at e1;rw[if_pos rfl];exact⟨st1,XL (v:=c_Draft_read_line) rfl rfl (Zt ((YG e1).trans (Zt (X6 (by rfl))))),Grw.refl.kp⟩
 |true=>
  rw[hr]at e1;rw[if_neg (fun z=>nomatch z)]
  have hr:=aX.mp hr;have hL:=aX.mp hr.1;have hL1:=aX.mp hL.1;have hk:=hL1.1;obtain⟨q1,q2⟩:=WV hL1.2;have c2:ev (run T (n+6)) (.cmp .In (.ix (.var 1) (.cst (.int 0))) (.tupE (.aC (.cst (.str (S "take"))) (.aC (.cst (.str (S "name"))) .aN)))) [some (.dic s),some (.lst w),some (.int line)] st1=some (.bl (decide (k=S "take"\/k=S "name")),st1):=by
   show(match ev (run T (n+6)) (.ix (.var 1) (.cst (.int ((0:Nat):Int)))) [some (.dic s),some (.lst w),some (.int line)] st1 with
    |some (y,s2)=>ZW .In y (.tup [.str (S "take"),.str (S "name")]) s2
    |none=>none)=_
   rw[Zah (j:=0) (x:=k) hw1 rfl];show some (D.bl (decide (S "take"=k)||(decide (S "name"=k)||false)),st1)=_;rw[cW,Bool.decide_or,decide_eq_decide.mpr (⟨Eq.symm,Eq.symm⟩:S "take"=k↔k=S "take"),decide_eq_decide.mpr (⟨Eq.symm,Eq.symm⟩:S "name"=k↔k=S "name")]
  have xm:∀ f,evX (run T (n+6)) (.meth [(237,f)] (.var 0) (.aC (.var 1) (.aC (.var 2) .aN))) [some (.dic s),some (.lst w),some (.int line)] st1=run T (n+6) f [.dic s,.lst w,.int line] st1:=fun f=>VF (s:=s) (xs:=[.lst w,.int line]) (st1:=st1) rfl d1.o (by rfl)
  -- what the method gives is what the line gives
  have fin:∀ {f:Nat}{r:Sum Nat Sd}{B:CS},Out s st1 line r (run T (n+6) f [.dic s,.lst w,.int line] st1)->(∀ {r'},ex (run T (n+6)) (.seq (.act (.meth [(237,f)] (.var 0) (.aC (.var 1) (.aC (.var 2) .aN)))) .skip) [some (.dic s),some (.lst w),some (.int line)] st1=r'->ex (run T (n+6)) (.ite (.cmp .In (.ix (.var 1) (.cst (.int 0))) (.tupE (.aC (.cst (.str (S "take"))) (.aC (.cst (.str (S "name"))) .aN)))) (.seq (.act (.meth [(237,241)] (.var 0) (.aC (.var 1) (.aC (.var 2) .aN)))) .skip) (.seq (.act (.meth [(237,242)] (.var 0) (.aC (.var 1) (.aC (.var 2) .aN)))) .skip)) [some (.dic s),some (.lst w),some (.int line)] st1=r')->Out s st1 line r (run T (n+7) 240 [.dic s,.lst w,.int line] st):=fun {f}{r}{B} h hi=>by
   cases r with
   |inl c=>
    obtain⟨st',e,k⟩:=h;exact⟨st',XL (v:=c_Draft_read_line) rfl rfl ((Zg ((XN e1).trans Zp)).trans (Zt (hi (Zt (Qd ((xm f).trans e)))))),k⟩
   |inr a'=>
    obtain⟨st',e,d',k⟩:=h;exact⟨st',UZ (v:=c_Draft_read_line) rfl rfl ((Zg ((XN e1).trans Zp)).trans ((Zg (hi ((Zg (ZbJ ((xm f).trans e))).trans Zp))).trans Zp)),d',k⟩
  by_cases hn:k=S "take"\/k=S "name"
  ·rw[aF hn]at c2
   rw[if_pos hn];have w3:ws[0]?=some (ws.getD 0 (S ""))/\(k=S "take"->∃ y z,ws[1]?=some y/\ws[2]?=some z):=by
    rcases hn with rfl|rfl
    ·have q1:ws.length=3:=q1
     have g:∀ i,i < 3->ws[i]?=some (ws.getD i (S "")):=fun i hi=>by rw[dI,Lg (by omega)];rfl
     exact⟨g 0 (by decide),fun _=>⟨_,_,g 1 (by decide),g 2 (by decide)⟩⟩
    ·have q1:ws.length=1:=q1
     exact⟨by rw[dI,Lg (by omega)];rfl,fun z=>absurd z (by decide)⟩
   exact fin (f:=241) (B:=.skip) (ZbT (n:=n+2) d1 hf hw1 hne hW w3.1 w3.2) fun {r'} h=>(YG c2).trans h
  ·rw[aL hn]at c2
   rw[if_neg hn];exact fin (f:=242) (B:=.skip) (ZdT (n:=n) d1 hf hw1 hne hk hW hl fun p hp h=>by have:=q2 p hp;rw[h]at this;exact this) fun {r'} h=>(XN c2).trans h
end
def chk(m:Nat):Li D->Ot Int
 |.tup [.int l,.int p] :: r=>if (m:Int) < p then some l else chk m r
 |_ :: r=>chk m r
 |[]=>none
def W8(l:Li D):Prop:=∀ e∈l,∃ x p,e=.tup [.int x,.int p]
section
variable {F:Nat->Fn}{ρ ρ':Env}{n s w i j:Nat}{st st' st1:Za}{a:Sd}{b:Bool}{k x:Str}{ws:Li Str}{line:Int}{v u:D}{q:CS}{e:CE}
theorem Ww{xs:Li D}{f:D->Env->Za->Ot (Fl×Za)}{I:Env->Prop}{g:D->Ot D}(hj:st[j]?=some (b,xs))(hf:∀ d∈xs,∀ ρ,I ρ->(g d=none->∃ ρ',I ρ'/\f d ρ st=some (.nx ρ',st))/\∀ u,g d=some u->f d ρ st=some (.rt u,st)):∀ (m i:Nat) (ρ:Env),I ρ->i+m=xs.length->((xs.drop i).findSome? g=none->∃ ρ',I ρ'/\Zv f j m i ρ st=some (.nx ρ',st))/\∀ u,(xs.drop i).findSome? g=some u->Zv f j m i ρ st=some (.rt u,st)
 |0,i,ρ,hI,hi=>by
  rw[dE (by omega)]
  exact⟨fun _=>⟨ρ,hI,by unfold Zv;rw[hj];exact if_pos (by omega)⟩,fun u h=>nomatch h⟩
 |m+1,i,ρ,hI,hi=>by
  have hx:i < xs.length:=by omega
  obtain⟨p1,p2⟩:=hf xs[i] (cB hx) ρ hI;have e:Zv f j (m+1) i ρ st=match f xs[i] ρ st with
    |some (.nx ρ',st')=>Zv f j m (i+1) ρ' st'
    |some (.ct ρ',st')=>Zv f j m (i+1) ρ' st'
    |some (.bk ρ',st')=>some (.nx ρ',st')
    |some (.rt v,st')=>some (.rt v,st')
    |none=>none:=by
   conv=>lhs;unfold Zv
   simp only[hj,Lg hx]<;>rfl
  rw[e,cN hx,List.findSome?_cons];cases q:g xs[i] with
  |none=>
   obtain⟨ρ',h1,h2⟩:=p1 q;rw[h2];exact Ww hj hf m (i+1) ρ' h1 (by omega)
  |some u=>
   rw[p2 u q];exact⟨fun h=>(nomatch h),fun u' h=>by cases h;rfl⟩
theorem ZbP(d:Dr st s a)(hA:W8 a.am):(chk a.ro.length a.am=none->run T (n+1) 243 [.dic s] st=some (.non,st))/\∀ l,chk a.ro.length a.am=some l->run T (n+1) 243 [.dic s] st=some (mkX 227 l,st):=by
 let g:D->Ot D:=fun d=>(chk a.ro.length [d]).map (mkX 227)
 have hg:∀ {l:Li D},W8 l->l.findSome? g=(chk a.ro.length l).map (mkX 227):=fun {l}=>by
  induction l with
  |nil=>intro _;rfl
  |cons d l ih=>
   intro h;obtain⟨x,p,rfl⟩:=h d lQ7;rw[List.findSome?_cons,ih fun e he=>h e (Lm _ he),show g (.tup [.int x,.int p])=(if (a.ro.length:Int) < p then some x else none).map (mkX 227) from rfl,show chk a.ro.length (.tup [.int x,.int p] :: l)=if (a.ro.length:Int) < p then some x else chk a.ro.length l from rfl]
   by_cases z:(a.ro.length:Int) < p
   ·rw[if_pos z,if_pos z];rfl
   ·rw[if_neg z,if_neg z];rfl
 have lp:=Ww (st:=st) (f:=QN 1 2 (ex (run T n) Zk)) (I:=fun ρ=>∃ y z,ρ=[some (.dic s),y,z]) (g:=g) d.a (fun z hz ρ hI=>by
  obtain⟨y0,z0,rfl⟩:=hI;obtain⟨x,p,rfl⟩:=hA z hz;have c:ev (run T n) (.cmp .Gt (.var 2) (.len (.dict [(S "rows")] (.var 0)))) [some (.dic s),some (.int x),some (.int p)] st=some (.bl (decide ((a.ro.length:Int) < p)),st):=by
   show(match ev (run T n) (.len (.dict [(S "rows")] (.var 0))) [some (.dic s),some (.int x),some (.int p)] st with
    |some (y,s2)=>ZW .Gt (.int p) y s2
    |none=>none)=_
   rw[show ev (run T n) (.len (.dict [(S "rows")] (.var 0))) [some (.dic s),some (.int x),some (.int p)] st=(match ev (run T n) (.dict [(S "rows")] (.var 0)) [some (.dic s),some (.int x),some (.int p)] st with
    |some (y,s2)=>Yw y s2
    |none=>none) from rfl,Vj d]
   show(match Yw (.lst (s+3)) st with|some (y,s2)=>ZW .Gt (.int p) y s2|none=>none)=_
   unfold Yw Uc;simp only[d.r];rfl
  show((chk a.ro.length [.tup [.int x,.int p]]).map (mkX 227)=none->∃ ρ',_/\ex (run T n) Zk [some (.dic s),some (.int x),some (.int p)] st=_)/\∀ u,(chk a.ro.length [.tup [.int x,.int p]]).map (mkX 227)=some u->ex (run T n) Zk [some (.dic s),some (.int x),some (.int p)] st=_;unfold chk;by_cases h:(a.ro.length:Int) < p
  ·rw[aF h]at c
   rw[if_pos h];exact⟨fun z=>(nomatch z),fun u z=>by cases z;exact Zt ((YG c).trans (Zt (X6 (by rfl))))⟩
  ·rw[aL h]at c
   rw[if_neg h];exact⟨fun _=>⟨_,⟨_,_,rfl⟩,(Zg ((XN c).trans Zp)).trans Zp⟩,fun u z=>(nomatch z)⟩) a.am.length 0 [some (.dic s),none,none] ⟨_,_,rfl⟩ (by omega)
 rw[dO,hg hA]at lp;have ef:ex (run T n) (.for2 1 2 (.dict [(S "aims")] (.var 0)) Zk) [some (.dic s),none,none] st=Zv (QN 1 2 (ex (run T n) Zk)) (s+4) a.am.length 0 [some (.dic s),none,none] st:=by
  show VY 1 2 (ev (run T n) (.dict [(S "aims")] (.var 0))) (ex (run T n) Zk) [some (.dic s),none,none] st=_;unfold VY;rw[Zal d];simp only[d.a]
 refine⟨fun h=>?_,fun l h=>?_⟩
 ·obtain⟨ρ',_,e⟩:=lp.1 (by rw[h];rfl)
  exact UZ (v:=c_Draft_check_places) rfl rfl ((Zg (ef.trans e)).trans Zp)
 ·exact XL (v:=c_Draft_check_places) rfl rfl (Zt (ef.trans (lp.2 _ (by rw[h];rfl))))
def tlP(a:Sd):D:=.tup [.tup a.tk,.int a.nm.length,.tup a.ro]
theorem ZdU(d:Dr st s a):C (run T (n+1)) st 244 [.dic s] (tlP a):=
 .of (v:=c_Draft_told) rfl rfl (.ret (.cons (.at fun _ g=>Xk (Vk (d.ext g)) (d.ext g).t) (.cons (.ln d) (.cons (.at fun _ g=>Xk (Vj (d.ext g)) (d.ext g).r) .nil))))
theorem Xt{es:Li D}{rest:Za}{d:D}(he:ev F e [some (.dic st.length)] (st++(true,.int 237 :: es) :: rest)=some (d,(st++(true,.int 237 :: es) :: rest)++[(true,[])]))(hl:es.length < 900)(hn:es.any (isK x)=false) :
  ex F (.put 0 (.cst (.str x)) e) [some (.dic st.length)] (st++(true,.int 237 :: es) :: rest)=some (.nx [some (.dic st.length)],st++(true,.int 237 :: (es++[.tup [.str x,d]])) :: (rest++[(true,[])])):=by
 show Zbl 0 (.cst (.str x)) (ev F e) [some (.dic st.length)] (st++(true,.int 237 :: es) :: rest)=_;unfold Zbl;simp only[he];show(match ((st++(true,D.int 237 :: es) :: rest)++[((true,[]):Yb)])[st.length]? with
  |some (true,D.int c :: es')=>if es'.length < 900/\es'.any (isK x)=false then some (Fl.nx [some (D.dic st.length)],List.set ((st++(true,D.int 237 :: es) :: rest)++[((true,[]):Yb)]) st.length (true,D.int c :: (es'++[D.tup [D.str x,d]]))) else none
  |_=>none)=_
 have e1:((st++(true,.int 237 :: es) :: rest)++[((true,[]):Yb)])[st.length]?=some (true,.int 237 :: es):=by
  rw[aM,bV (aE _),Nat.sub_self];rfl
 rw[e1];simp only[hl,hn,and_self,if_true]
 congr 2
 rw[aM,List.set_append_right _ _ (aE _),Nat.sub_self];rfl
def nwS(st:Za):Za:=st++[obC st.length,(true,[]),(true,[]),(true,[]),(true,[])]
theorem ZdX:run T (n+1) 238 [.dic st.length] (st++[(true,[.int 237])])=some (.non,nwS st):=by
 have l:∀ c:Yb,∀ r:Za,(st++c :: r).length=st.length+1+r.length:=fun c r=>by rw[aK,aR];omega
 refine UZ (v:=c_Draft___init__) rfl rfl (ρ':=[some (.dic st.length)]) ?_;show ex (run T n) (.seq _ (.seq _ (.seq _ (.seq _ .skip)))) [some (.dic st.length)] (st++(true,.int 237 :: []) :: [])=_;rw[Zg (Xt (x:=S "takes") (d:=.lst (st.length+1)) (by show some (D.lst (st++_ :: []).length,_)=_;rw[l];rfl) (by simp) rfl),Zg (Xt (x:=S "names") (d:=.dic (st.length+2)) (by show some (D.dic (st++_ :: _).length,_)=_;rw[l];rfl) (by simp) rfl),Zg (Xt (x:=S "rows") (d:=.lst (st.length+3)) (by show some (D.lst (st++_ :: _).length,_)=_;rw[l];rfl) (by simp) rfl),Zg (Xt (x:=S "aims") (d:=.lst (st.length+4)) (by show some (D.lst (st++_ :: _).length,_)=_;rw[l];rfl) (by simp) rfl)]
 rfl
def sd0:Sd:=⟨[],[],[],[]⟩
theorem new_dr:Dr (nwS st) st.length sd0:=by
 have g:∀ (j:Nat) (c:Yb),[obC st.length,(true,[]),(true,[]),(true,[]),(true,[])][j]?=some c->(nwS st)[st.length+j]?=some c:=fun j c h=>by
  unfold nwS;rw[bV (by omega),Nat.add_sub_cancel_left];exact h
 exact⟨g 0 _ rfl,g 1 _ rfl,g 2 _ rfl,g 3 _ rfl,g 4 _ rfl⟩
theorem Zff:ev (run T (n+1)) (.isc [237,238] .aN) ρ st=some (.dic st.length,nwS st):=by
 show(match run T (n+1) 238 [.dic st.length] (st++[(true,[.int 237])]) with
  |some (.non,st')=>some (D.dic st.length,st')
  |_=>none)=_
 rw[ZdX]
end
def skB(x:Str):Bool:=decide (x=S "")||stW x (S "#")
def rdX(a:Sd)(line:Int)(x:Str):Sum Nat Sd:=if skB x=true then .inr a else match Xu x (S " ") with
 |k :: ws=>rdL a line k ws
 |[]=>.inr a
def rdA:Sd->Nat->Li Str->Sum (Nat×Nat) Sd
 |a,_,[]=>.inr a
 |a,i,x :: l=>match rdX a (i:Int) x with
  |.inl c=>.inl (c,i)
  |.inr a'=>rdA a' (i+1) l
def VH(x:Str):Prop:=skB x=true\/(x.length<=Zc/\∃ k ws,Xu x (S " ")=k :: ws/\(∀ u∈ws,Wd u)/\ws.length<=400)
structure Iv(a:Sd):Prop where
 t:a.tk.length<=3
 n:a.nm.length<=5
 r:a.ro.length<=12
 m:a.am.length<=a.ro.length
 o:W8 a.am
section
variable {F:Nat->Fn}{ρ ρ':Env}{n s w i j la:Nat}{st st' st1:Za}{a:Sd}{b:Bool}{k x:Str}{ws l:Li Str}{line:Int}{v u:D}{x0:Ot D}
theorem Iv.few(h:Iv a):Few a:=⟨by have:=h.t;omega,by have:=h.n;omega,by have:=h.r;omega,by have:=h.m;have:=h.r;omega⟩
theorem Zbj(h:isI (plD x)=true):∃ p,plD x=.int p:=by
 rcases @QP x with e|e
 ·rw[e]at h;cases h
 ·exact e
theorem ZdY(h:lnB k ws=true)(hk:k=S "if"\/k=S "go"):∃ p,(ZH l k ws).getLastD .non=.int p:=by
 unfold lnB at h;obtain⟨q1,q2⟩:=WV (aX.mp (aX.mp h).1).2;rcases hk with rfl|rfl
 ·match ws,q1,q2 with
  |[x1,x2,x3,x4,x5],_,q2=>
   obtain⟨p,e⟩:=Zbj (x:=x5) (q2 (x5,S "place") (by show _∈[_,_,_,_,(x5,S "place")];simp))
   exact⟨p,e⟩
 ·match ws,q1,q2 with
  |[x1],_,q2=>
   obtain⟨p,e⟩:=Zbj (x:=x1) (q2 (x1,S "place") (by show _∈[(x1,S "place")];simp))
   exact⟨p,e⟩
theorem ZfT{a':Sd}(I:Iv a)(h:rdL a line k ws=.inr a'):Iv a':=by
 unfold rdL at h;split at h
 ·cases h
 ·rename_i hb
  have hb:(lnB k ws&&rmB a k)=true:=by cases q:lnB k ws&&rmB a k<;>first|rfl|exact absurd q hb
  have hb:=aX.mp hb;have hr:=hb.2;have t:=I.t;have n':=I.n;have r:=I.r;have am:=I.m;unfold rmB at hr;split at h
  ·rename_i hk
   split at h
   ·cases h
   ·cases h
    by_cases c:k=S "take"
    ·rw[if_pos c]at hr
     simp only[Ba,bE]at hr;refine⟨?_,?_,I.r,I.m,I.o⟩
     ·show(if k=S "take" then a.tk++[_] else a.tk).length<=3
      rw[if_pos c,aK];show _+1<=3;omega
     ·show(a.nm++[_]).length<=5
      rw[aK];show _+1<=5;omega
    ·rw[if_neg c,if_pos (hk.resolve_left c)]at hr
     simp only[Ba,bE]at hr;refine⟨?_,?_,I.r,I.m,I.o⟩
     ·show(if k=S "take" then a.tk++[_] else a.tk).length<=3
      rw[if_neg c];exact t
     ·show(a.nm++[_]).length<=5
      rw[aK];show _+1<=5;omega
  ·rename_i hk
   split at h
   ·cases h
    rw[if_neg fun z=>hk (.inl z),if_neg fun z=>hk (.inr z)]at hr
    have hr:=of_decide_eq_true hr;refine⟨t,n',?_,?_,?_⟩
    ·show(a.ro++[_]).length<=12
     rw[aK];show _+1<=12;omega
    ·show(a.am++ZC line _ k).length<=(a.ro++[_]).length
     rw[aK,aK];have:(ZC line (ZH a.nm k ws) k).length<=1:=by unfold ZC;split<;>simp
     show _<=_+1;omega
    ·intro e he
     rcases aS.mp he with he|he
     ·exact I.o e he
     ·unfold ZC at he
      split at he
      ·rename_i hg
       obtain⟨p,hp⟩:=ZdY hb.1 hg (l:=a.nm);rw[bG.mp he,hp];exact⟨_,_,rfl⟩
      ·cases he
   ·cases h
theorem JB(I:Iv a)(d:Dr st s a)(hx:VH x):match rdX a line x with
  |.inl c=>∃ st',ex (run T (n+7)) ZV [x0,some (.dic s),some (.int line),some (.str x)] st=some (.rt (mkX c line),st')/\Kp s st st'
  |.inr a'=>∃ st',ex (run T (n+7)) ZV [x0,some (.dic s),some (.int line),some (.str x)] st=some (.nx [x0,some (.dic s),some (.int line),some (.str x)],st')/\Dr st' s a'/\Kp s st st':=by
 have c1:ev (run T (n+7)) (.and (.cmp .NotEq (.var 3) (.cst (.str (S "")))) (.not (.starts (.var 3) (.aC (.cst (.str (S "#"))) .aN)))) [x0,some (.dic s),some (.int line),some (.str x)] st=some (.bl (!skB x),st):=by
  show YC (fun _ st=>some (.bl (!decide (x=S "")),st)) (fun _ st=>some (.bl (!stW x (S "#")),st)) (evC (.bl false)) _ st=_
  unfold skB YC;cases decide (x=S "")<;>rfl
 unfold rdX;cases hs:skB x with
 |true=>
  rw[hs]at c1;rw[if_pos rfl];exact⟨st,(Zg ((XN c1).trans Zp)).trans Zp,d,Grw.refl.kp⟩
 |false=>
  rw[hs]at c1;rw[if_neg (fun z=>nomatch z)]
  rcases hx with h|⟨hl,k,ws,e,hW,h4⟩
  ·rw[hs]at h;cases h
  ·rw[e]
   have et:ev (run T (n+7)) (.tix (.var 3) (.aC (.cst (.str (S " "))) .aN)) [x0,some (.dic s),some (.int line),some (.str x)] st=some (.lst st.length,st++[(true,(k :: ws).map D.str)]):=by
    show(if (S " ").length=1/\x.length<=Zc then some (D.lst st.length,st++[(true,(Xu x (S " ")).map D.str)]) else none)=_
    rw[if_pos ⟨by decide +kernel,hl⟩,e]
   have xm:evX (run T (n+7)) (.meth [(237,240)] (.var 1) (.aC (.tix (.var 3) (.aC (.cst (.str (S " "))) .aN)) (.aC (.var 2) .aN))) [x0,some (.dic s),some (.int line),some (.str x)] st=run T (n+7) 240 [.dic s,.lst st.length,.int line] (st++[(true,(k :: ws).map D.str)]):=VF (s:=s) (xs:=[.lst st.length,.int line]) rfl d.o (by
    show Zn (ev (run T (n+7)) (.tix (.var 3) (.aC (.cst (.str (S " "))) .aN))) (ev (run T (n+7)) (.aC (.var 2) .aN)) Ym _ st=_;unfold Zn;rw[et];rfl)
   have hs4:=ZR d.a;have o:=ZbS (n:=n) (line:=line) (b:=true) (d.ext .push) I.few (w:=st.length) (k:=k) (ws:=ws) ZF (.inr (by omega)) hW h4
   show match rdL a line k ws with|.inl c=>_|.inr a'=>_
   cases r:rdL a line k ws with
   |inl c=>
    rw[r]at o;obtain⟨st',e',k'⟩:=o;exact⟨st',Zt ((YG c1).trans (Zt (Qd (xm.trans e')))),Grw.push.kp.trans k'⟩
   |inr a'=>
    rw[r]at o;obtain⟨st',e',d',k'⟩:=o;exact⟨st',(Zg ((YG c1).trans ((Zg (ZbJ (xm.trans e'))).trans Zp))).trans Zp,d',Grw.push.kp.trans k'⟩
noncomputable abbrev lpR(n la:Nat)(c:Yb)(i:Nat)(l:Li Str)(ρ:Env)(st:Za):Ot (Fl×Za):=ZZ (fun S=>S[la]?=some c) (fun x y ρ S=>ex (run T (n+7)) ZV (Zj (Zj ρ 2 x) 3 y) S) (XR i (l.map D.str)) ρ st
theorem WZ{c:Yb}(ha:s+5<=la):∀ {l:Li Str}{i:Nat}{a:Sd}{st:Za}{y z:Ot D},(∀ x∈l,VH x)->Iv a->Dr st s a->st[la]?=some c->match rdA a i l with
  |.inl (cc,ln)=>∃ st',lpR n la c i l [x0,some (.dic s),y,z] st=some (.rt (mkX cc (ln:Int)),st')/\Kp s st st'
  |.inr a'=>∃ y' z' st',lpR n la c i l [x0,some (.dic s),y,z] st=some (.nx [x0,some (.dic s),y',z'],st')/\Dr st' s a'/\Iv a'/\Kp s st st'
 |[],i,a,st,y,z,_,I,d,hc=>⟨y,z,st,if_pos hc,d,I,Grw.refl.kp⟩
 |x :: l,i,a,st,y,z,h,I,d,hc=>by
  have t:=JB (n:=n) (line:=(i:Int)) (x0:=x0) I d (h x lQ7);have e:∀ {r},ex (run T (n+7)) ZV [x0,some (.dic s),some (.int (i:Int)),some (.str x)] st=r->lpR n la c i (x :: l) [x0,some (.dic s),y,z] st=match r with
    |some (.nx ρ',st')=>lpR n la c (i+1) l ρ' st'
    |some (.ct ρ',st')=>lpR n la c (i+1) l ρ' st'
    |some (.bk ρ',st')=>some (.nx ρ',st')
    |some (.rt v,st')=>some (.rt v,st')
    |none=>none:=fun {r} hr=>by
   unfold lpR;rw[aT,XR,ZZ,if_pos hc];show(match ex (run T (n+7)) ZV [x0,some (.dic s),some (.int (i:Int)),some (.str x)] st with
    |some (.nx ρ',st')=>ZZ _ _ _ ρ' st'
    |some (.ct ρ',st')=>ZZ _ _ _ ρ' st'
    |some (.bk ρ',st')=>some (.nx ρ',st')
    |some (.rt v,st')=>some (.rt v,st')
    |none=>none)=_
   rw[hr]
  unfold rdA;cases r:rdX a (i:Int) x with
  |inl cc=>
   rw[r]at t;obtain⟨st',e1,k1⟩:=t;exact⟨st',e e1,k1⟩
  |inr a'=>
   rw[r]at t;obtain⟨st1,e1,d1,k1⟩:=t;have I1:Iv a':=by
    unfold rdX at r;split at r
    ·cases r;exact I
    ·split at r
     ·exact ZfT I r
     ·cases r;exact I
   have ih:=WZ ha (l:=l) (i:=i+1) (y:=some (.int (i:Int))) (z:=some (.str x)) (fun x hx=>h x (Lm _ hx)) I1 d1 (k1.get hc (.inr ha))
   show match rdA a' (i+1) l with|.inl (cc,ln)=>_|.inr a''=>_
   cases q:rdA a' (i+1) l with
   |inl p=>
    rw[q]at ih;obtain⟨st',e2,k2⟩:=ih;exact⟨st',(e e1).trans e2,k1.trans k2⟩
   |inr a''=>
    rw[q]at ih;obtain⟨y',z',st',e2,d2,I2,k2⟩:=ih;exact⟨y',z',st',(e e1).trans e2,d2,I2,k1.trans k2⟩
def rdT(l:Li Str):Sum (Nat×Int) Sd:=match rdA sd0 1 l with
 |.inl (c,i)=>.inl (c,(i:Int))
 |.inr a=>match chk a.ro.length a.am with
  |some i=>.inl (227,i)
  |none=>.inr a
theorem JL{tx:Str}(hs:Xu tx (S "\n")=l)(hl:tx.length<=Zc)(h:∀ x∈l,VH x):match rdT l with
  |.inl (c,i)=>∃ st',run T (n+8) 245 [.str tx] st=some (mkX c i,st')/\Grw st st'
  |.inr a=>∃ st',run T (n+8) 245 [.str tx] st=some (tlP a,st')/\Grw st st':=by
 have g0:Grw st (nwS st):=⟨fun i hi=>bU hi,by unfold nwS;rw[aK];omega⟩
 have l0:(nwS st).length=st.length+5:=by unfold nwS;rw[aK];rfl
 have lp:=WZ (n:=n) (x0:=some (.str tx)) (s:=st.length) (la:=st.length+5) (c:=(true,l.map D.str)) (aE _) (l:=l) (i:=1) (a:=sd0) (st:=nwS st++[(true,l.map D.str)]) (y:=none) (z:=none) h ⟨bH _,bH _,bH _,aE _,fun _ h=>nomatch h⟩ (new_dr.ext .push) (by rw[<-l0];exact ZF)
 have kg:∀ {st'},Kp st.length (nwS st++[(true,l.map D.str)]) st'->Grw st st':=fun {st'} k=>by
  have g:Grw st (nwS st++[(true,l.map D.str)]):=g0.trans .push;exact⟨fun i hi=>(k.old i (aQ hi g.len) (.inl hi)).trans (g.old i hi),aH g.len k.len⟩
 have ef:ex (run T (n+7)) (.forE 2 3 (.tix (.var 0) (.aC (.cst (.str (S "\n"))) .aN)) ZV) [some (.str tx),some (.dic st.length),none,none] (nwS st)=lpR n (st.length+5) (true,l.map D.str) 1 l [some (.str tx),some (.dic st.length),none,none] (nwS st++[(true,l.map D.str)]):=by
  have e2:ev (run T (n+7)) (.tix (.var 0) (.aC (.cst (.str (S "\n"))) .aN)) [some (.str tx),some (.dic st.length),none,none] (nwS st)=some (.lst (st.length+5),nwS st++[(true,l.map D.str)]):=by
   show(if (S "\n").length=1/\tx.length<=Zc then some (D.lst (nwS st).length,nwS st++[(true,(Xu tx (S "\n")).map D.str)]) else none)=_
   rw[if_pos ⟨by decide +kernel,hl⟩,hs,l0]
  show VZ 2 3 (ev (run T (n+7)) (.tix (.var 0) (.aC (.cst (.str (S "\n"))) .aN))) (ex (run T (n+7)) ZV) [some (.str tx),some (.dic st.length),none,none] _=_;unfold VZ;rw[e2];show(match (match (nwS st++[(true,l.map D.str)])[st.length+5]? with
   |some c=>some (c.2,fun(s:Za)=>s[st.length+5]?=some c)
   |none=>none) with
   |some (xs,ok)=>ZZ ok (fun x y ρ s=>ex (run T (n+7)) ZV (Zj (Zj ρ 2 x) 3 y) s) (XR 1 xs) [some (.str tx),some (.dic st.length),none,none] (nwS st++[(true,l.map D.str)])
   |none=>none)=_
  rw[show(nwS st++[(true,l.map D.str)])[st.length+5]?=some (true,l.map D.str) by rw[<-l0];exact ZF]
 have e1:ex (run T (n+7)) (.set 1 (.isc [237,238] .aN)) [some (.str tx),none,none,none] st=some (.nx [some (.str tx),some (.dic st.length),none,none],nwS st):=Y3 (Zff (n:=n+6));unfold rdT;cases r:rdA sd0 1 l with
 |inl p=>
  rw[r]at lp;obtain⟨st',e2,k2⟩:=lp;exact⟨st',XL (v:=c_read) rfl rfl ((Zg e1).trans (Zt (ef.trans e2))),kg k2⟩
 |inr a=>
  rw[r]at lp;obtain⟨y,z,st',e2,d2,I2,k2⟩:=lp;have ck:=ZbP (n:=n+6) d2 I2.o;have xm:evX (run T (n+7)) (.meth [(237,243)] (.var 1) .aN) [some (.str tx),some (.dic st.length),y,z] st'=run T (n+7) 243 [.dic st.length] st':=VF (s:=st.length) (xs:=[]) (st1:=st') rfl d2.o (by rfl)
  show match (match chk a.ro.length a.am with|some i=>(Sum.inl (227,i):Sum (Nat×Int) Sd)|none=>.inr a) with|.inl (c,i)=>_|.inr a=>_
  cases c:chk a.ro.length a.am with
  |some i=>exact⟨st',XL (v:=c_read) rfl rfl ((Zg e1).trans ((Zg (ef.trans e2)).trans (Zt (Qd (xm.trans (ck.2 i c)))))),kg k2⟩
  |none=>
   obtain⟨s3,e3,g3⟩:=Y.meth (F:=run T (n+7)) (i:=1) (ρ:=[some (.str tx),some (.dic st.length),y,z]) (e:=.aN) (xs:=[]) rfl d2.o (.r fun _=>rfl) (ZdU (n:=n+6) d2) rfl st' .refl
   exact⟨s3,XL (v:=c_read) rfl rfl ((Zg e1).trans ((Zg (ef.trans e2)).trans ((Zg (ZbJ (xm.trans (ck.1 c)))).trans (Zt (W7 e3))))),(kg k2).trans g3⟩
end
section
variable {F:Nat->Fn}{s st st' st1 st2:Za}{e a b:CE}{ρ ρ':Env}{d:D}{q:CS}{n i j:Nat}{xs ys:Li D}{m:Bool}{c:Nat}{tx:Str}{q':CS}
theorem Lv.v(hs:s[j]?=some (m,xs))(h:Y F s e ρ (.lst j)):Lv s (ev F e ρ) xs:=fun st g=>by
 obtain⟨s1,e1,k1⟩:=h st g;exact⟨s1,j,m,e1,(g.trans k1).get hs,k1⟩
theorem Lv.mono{f:Za->Res}(h:Lv s f xs)(g:Grw s st):Lv st f xs:=fun st1 k=>h st1 (g.trans k)
theorem Lv.cat(ha:Lv s (ev F a ρ) xs)(hb:Lv s (ev F b ρ) ys)(hl:xs.length+ys.length<=Zc):Lv s (ev F (.bin .Add a b) ρ) (xs++ys):=fun st g=>by
 obtain⟨s1,j1,m1,e1,h1,k1⟩:=ha st g;obtain⟨s2,j2,m2,e2,h2,k2⟩:=hb s1 (g.trans k1);refine⟨s2++[(true,xs++ys)],_,_,?_,ZF,(k1.trans k2).trans .push⟩;show Zn (ev F a) (ev F b) (VL .Add) ρ st=_;unfold Zn;simp only[e1,e2];show Jf j1 j2 s2=_;unfold Jf;simp only[k2.get h1,h2];exact if_pos hl
def RP(F:Nat->Fn)(q:CS)(ρ:Env)(st:Za)(Q:D->Za->Prop):Prop:=∃ d st',ex F q ρ st=some (.rt d,st')/\Grw st st'/\Q d st'
variable {Q:D->Za->Prop}
theorem RP.pre(h:ex F q ρ st=ex F q' ρ' st1)(g:Grw st st1)(hq:RP F q' ρ' st1 Q):RP F q ρ st Q:=by
 obtain⟨d,st',e,g',k⟩:=hq;exact⟨d,st',h.trans e,g.trans g',k⟩
theorem RP.setL(h:Lv s (ev F e ρ) xs)(g:Grw s st)(hq:∀ s' j b,Grw st s'->s'[j]?=some (b,xs)->RP F q (Zj ρ i (.lst j)) s' Q):RP F (.seq (.set i e) q) ρ st Q:=by
 obtain⟨s1,j,b,e1,hj,k1⟩:=h st g;exact .pre (Zg (Y3 e1)) k1 (hq s1 j b k1 hj)
theorem RP.setY(h:Y F s e ρ d)(g:Grw s st)(hq:∀ s',Grw st s'->RP F q (Zj ρ i d) s' Q):RP F (.seq (.set i e) q) ρ st Q:=by
 obtain⟨s1,e1,k1⟩:=h st g;exact .pre (Zg (Y3 e1)) k1 (hq s1 k1)
theorem RP.no{p:CS}(h:Y F s e ρ (.bl false))(g:Grw s st)(hq:∀ s',Grw st s'->RP F q ρ s' Q):RP F (.seq (.ite e p .skip) q) ρ st Q:=by
 obtain⟨s1,e1,k1⟩:=h st g;exact .pre (Zg ((XN e1).trans Zp)) k1 (hq s1 k1)
theorem RP.ret(h:Y F s e ρ d)(g:Grw s st)(hq:∀ s',Grw st s'->Q d s'):RP F (.seq (.ret e) q) ρ st Q:=by
 obtain⟨s1,e1,k1⟩:=h st g;exact⟨d,s1,Zt (W7 e1),k1,hq s1 k1⟩
theorem RP.yes{p:CS}(h:Y F s e ρ (.bl true))(g:Grw s st)(hq:∀ s',Grw st s'->RP F p ρ s' Q):RP F (.seq (.ite e p .skip) q) ρ st Q:=by
 obtain⟨s1,e1,k1⟩:=h st g;obtain⟨d,s2,e2,k2,hQ⟩:=hq s1 k1;exact⟨d,s2,Zt ((YG e1).trans e2),k1.trans k2,hQ⟩
def CP(F:Nat->Fn)(f:Nat)(ds:Li D)(st:Za)(Q:D->Za->Prop):Prop:=∃ d st',F f ds st=some (d,st')/\Grw st st'/\Q d st'
theorem CP.of{v:FD}{f:Nat}{ds:Li D}(h:T f=some v)(hl:ds.length=v.ps)(hr:RP (run T n) v.body (ds.map some++List.replicate (v.ns - ds.length) none) st Q):CP (run T (n+1)) f ds st Q:=by
 obtain⟨d,s1,e1,k1,hQ⟩:=hr;exact⟨d,s1,XL h hl e1,k1,hQ⟩
def Zag(c:Nat):Li D:=[.bl (c==224),.bl (c==225),.bl (c==226),.bl (c==227),.bl false,.bl false]
def Tl(xs:Li D)(k:Bool)(l:Int)(d:D)(st:Za):Prop:=∃ q b,d=.tup [.lst q,.bl k,.int l]/\st[q]?=some (b,xs)
theorem ZbV{l:Nat}(hc:exNums.contains c=true):CP (run T (n+1)) 230 [.obj (c+1000 * l)] st (Tl (Zag c) true l):=by
 have hc':c=224\/c=225\/c=226\/c=227:=by have:=cC.mp hc;simpa[exNums] using this
 have h1:(c+1000 * l) % 1000=c:=by omega
 have h2:(c+1000 * l) / 1000=l:=by omega
 have a:∀ {ls:Li Nat}{ρ:Env}{s:Za},Y (run T n) s (.isc (0 :: 0 :: 0 :: ls) (.var 0)) (some (.obj (c+1000 * l)) :: ρ) (.bl (ls.contains c)):=fun {ls ρ s}=>.r fun st=>by
  show some (D.bl (ls.contains ((c+1000 * l) % 1000)),st)=_;rw[h1]
 have a1:∀ z:Nat,([z]:Li Nat).contains c=(c==z):=fun z=>by show(c==z||false)=_;rw[cW]
 refine .of (v:=c__law_told_k15) rfl rfl (.setL (s:=st) (xs:=[.bl (c==224),.bl (c==225),.bl (c==226),.bl (c==227)]) (by
  rw[<-a1,<-a1,<-a1,<-a1];exact .mk (.cons a (.cons a (.cons a (.cons a .nil))))) .refl fun s1 j1 b1 g1 hj1=>.setL (s:=s1) (xs:=Zag c) (.cat (.v hj1 (.r fun _=>rfl)) (ys:=[.bl false,.bl false]) (.mk (.cons a (.cons a .nil))) (by show 4+2<=_;decide)) .refl fun s2 j2 b2 g2 hj2=>.ret (s:=s2) (d:=.tup [.lst j2,.bl (exNums.contains c&&exNums.contains c),.int (l:Int)]) (.cons (.r fun _=>rfl) (.cons (.and a fun _=>a) (.cons (.r fun st=>by
  show some (D.int (((c+1000 * l) / 1000:Nat):Int),st)=_;rw[h2]) .nil))) .refl fun s' g'=>⟨j2,b2,by rw[hc];rfl,g'.get hj2⟩)
theorem Zgc{k:Nat}{l:Li Nat}(h:evX F e ρ st=some (mkX c (k:Int),st1))(hc:c < 1000/\l.contains c=true/\exNums.contains c=true)(hq:ex F q (Zj ρ i (.obj (c+1000 * k))) st1=some (.nx ρ',st2)):ex F (.whl (.compT l (.var i) e .nop) q) ρ st=some (.nx (ρ'.set i none),st2):=by
 show(match evX F e ρ st with
  |some (.dct [_] [.int c,.int k],st1)=>if (0<=k/\c.toNat < 1000)/\l.contains c.toNat=true/\exNums.contains c.toNat=true then (match ex F q (Zj ρ i (.obj (c.toNat+1000 * k.toNat))) st1 with
   |some (.nx ρ',st2)=>some (Fl.nx (ρ'.set i none),st2)
   |_=>none) else none
  |_=>none)=_
 rw[h];show(if (0<=(k:Int)/\(c:Int).toNat < 1000)/\l.contains (c:Int).toNat=true/\exNums.contains (c:Int).toNat=true then (match ex F q (Zj ρ i (.obj ((c:Int).toNat+1000 * (k:Int).toNat))) st1 with
   |some (.nx ρ',st2)=>some (Fl.nx (ρ'.set i none),st2)
   |_=>none) else none)=_
 rw[bS,bS,if_pos ⟨⟨by omega,hc.1⟩,hc.2.1,hc.2.2⟩,hq]
theorem Q5{l:Nat}(hc:exNums.contains c=true)(h:∃ st',run T (n+1) 245 [.str tx] st=some (mkX c (l:Int),st')/\Grw st st'):CP (run T (n+2)) 229 [.str tx] st (Tl (Zag c) true l):=by
 obtain⟨st1,e1,g1⟩:=h;obtain⟨d,st2,e2,g2,hq⟩:=ZbV (n:=n) (st:=st1) (l:=l) hc;have hc':c < 1000/\[224,225,226,227].contains c=true/\exNums.contains c=true:=⟨by have:=cC.mp hc;simp[exNums]at this;omega,hc,hc⟩
 have nd:NX d=true:=by obtain⟨_,_,rfl,_⟩:=hq;rfl
 refine .of (v:=c__law_refused) rfl rfl ⟨d,st2,?_,g1.trans g2,hq⟩;show ex (run T (n+1)) (.seq (.set 1 (.cst .non)) (.seq (.whl (.compT [224,225,226,227] (.var 2) (.call 245 (.aC (.var 0) .aN) []) .nop) (.set 1 (.call 230 (.aC (.var 2) .aN) []))) (.seq (.ret (.var 1)) .skip))) [some (.str tx),none,none] st=_;refine(Zg (p:=.set 1 (.cst .non)) (s':=st) (ρ':=[some (.str tx),some .non,none]) rfl).trans ((Zg (Zgc (c:=c) (k:=l) (st1:=st1) (st2:=st2) (ρ':=[some (.str tx),some d,some (.obj (c+1000 * l))]) ?_ hc' (Y3 ?_))).trans rfl)
 ·show run T (n+1) 245 ([.str tx]++[]) st=_
  exact e1
 ·show YY (run T (n+1) 230 ([.obj (c+1000 * l)]++[]) st1)=_
  rw[aP,e2,WX nd]
end
def Sm(a:Int):Prop:=-1000000000<=a/\a<=999999999
section
variable {F:Nat->Fn}{s st:Za}{e a b:CE}{ρ:Env}{d:D}{n w:Nat}{xs:Li D}{i j k c:Int}{op:Operator}{m sz:Nat}{ns:Li Int}
theorem Y.bi(ha:Y F s a ρ (.int i))(hb:Y F s b ρ (.int j))(h:Zb1 op i j=some k):Y F s (.bin op a b) ρ (.int k):=g2 ha hb (gp fun st=>by
 show VL op (.int i) (.int j) st=_;unfold VL;simp only[h])
theorem Y.add(ha:Y F s a ρ (.int i))(hb:Y F s b ρ (.int j)):Y F s (.bin .Add a b) ρ (.int (i+j)):=.bi ha hb rfl
theorem Y.sub(ha:Y F s a ρ (.int i))(hb:Y F s b ρ (.int j)):Y F s (.bin .Sub a b) ρ (.int (i - j)):=.bi ha hb rfl
theorem Y.mul(ha:Y F s a ρ (.int i))(hb:Y F s b ρ (.int j))(h:Yo j=true):Y F s (.bin .Mult a b) ρ (.int (i * j)):=.bi ha hb (by show(if Yo i||Yo j then some (i * j) else none)=_;rw[h,cK];rfl)
theorem Y.md(ha:Y F s a ρ (.int i))(hb:Y F s b ρ (.int j))(h:0 < j):Y F s (.bin .Mod a b) ρ (.int (i % j)):=.bi ha hb (if_pos h)
theorem Y.fd(ha:Y F s a ρ (.int i))(hb:Y F s b ρ (.int j))(h:0 < j/\j < 1073741824):Y F s (.bin .FloorDiv a b) ρ (.int (i / j)):=.bi ha hb (if_pos h)
theorem Y.ixL{j:Nat}(ha:Lv s (ev F a ρ) xs)(hb:Y F s b ρ (.int (j:Int)))(h:xs[j]?=some d):Y F s (.ix a b) ρ d:=fun st g=>by
 obtain⟨s1,q,t,e1,h1,k1⟩:=ha st g;obtain⟨s2,e2,k2⟩:=hb s1 (g.trans k1);refine⟨s2,?_,k1.trans k2⟩;show Zn (ev F a) (ev F b) ixR ρ st=_;unfold Zn;simp only[e1,e2];show ixR (.lst q) (.int (j:Int)) s2=_;unfold ixR ixD;simp only[k2.get h1,Y6 h]
theorem Y.ixE{l:Li α}{f:α->D}(ha:Lv s (ev F a ρ) (l.map f))(hb:Y F s b ρ (.int i))(h0:0<=i)(h1:i < l.length):∃ x∈l,Y F s (.ix a b) ρ (f x):=by
 have hi:i.toNat < l.length:=by omega
 refine⟨l[i.toNat],cB hi,.ixL ha (j:=i.toNat) (by rw[bJ h0];exact hb) ?_⟩
 rw[aU,Lg hi];rfl
theorem Zh(i:Int)(h:0 < j):0<=i % j/\i % j < j:=⟨Int.emod_nonneg _ (by omega),Int.emod_lt_of_pos _ h⟩
theorem UR(h:-(2 ^ 64) < i/\i < 2 ^ 64):Yo i=true:=by unfold Yo;rw[aF h.1,aF h.2];rfl
theorem Yc{b:Bool}(hs:s[0]?=some (b,ns.map D.int)){k:Nat}(hk:k<=1000):∃ v:Int,C (run T (n+1)) s 27 [.lst 0,.int (k:Int)] (.int v):=by
 have c1:Y (run T n) s (.cmp .Lt (.var 1) (.len (.var 0))) [some (.lst 0),some (.int (k:Int))] (.bl (decide (k < ns.length))):=.cmp (.r fun _=>rfl) (.lenl hs (.r fun _=>rfl)) fun _=>by
  show some (decide ((k:Int) < ((ns.map D.int).length:Int)))=_;rw[aJ,Wf]
 have lk:Yo (k:Int)=true:=UR (by omega)
 by_cases h:k < ns.length
 ·rw[aF h]at c1
  exact⟨ns[k],.of (v:=c__law_cell_at) rfl rfl (.yes c1 (.ixl (j:=k) hs (.r fun _=>rfl) (.r fun _=>rfl) (by rw[aU,Lg h];rfl)))⟩
 ·rw[aL h]at c1
  have kk:∀ {s},Y (run T n) s (.bin .Mult (.var 1) (.var 1)) [some (.lst 0),some (.int (k:Int))] (.int ((k:Int) * k)):=.mul (.r fun _=>rfl) (.r fun _=>rfl) lk
  -- the list at hand against a new one
  have c2:Y (run T n) s (.cmp .Eq (.var 0) (.lstE .aN)) [some (.lst 0),some (.int (k:Int))] (.bl ns.isEmpty):=fun st g=>by
   refine⟨st++[(true,[])],?_,.push⟩;show ZW .Eq (.lst 0) (.lst st.length) (st++[(true,[])])=_;unfold ZW;have:XB .Eq (.lst 0) (.lst st.length) (st++[(true,[])])=some ns.isEmpty:=by
    show Zcb (st++[(true,[])]) 0 (.lst st.length)=_;unfold Zcb;simp only[(g.trans (Grw.push (t:=(true,[])))).get hs,ZF];cases ns<;>rfl
   rw[this]
  cases ns with
  |nil=>exact⟨_,.of (v:=c__law_cell_at) rfl rfl (.no c1 (.yes c2 (.md (.mul (.add kk (.r fun _=>rfl)) (.r fun _=>rfl) rfl) (.r fun _=>rfl) (by decide))))⟩
  |cons a ns=>
   have am:=Zh a (j:=2147483647) (by decide)
   exact⟨_,.of (v:=c__law_cell_at) rfl rfl (.no c1 (.no c2 (.ret (.md (.mul (.add (.md (.ixl (j:=0) hs (.r fun _=>rfl) (.r fun _=>rfl) rfl) (.r fun _=>rfl) (by decide)) (.r fun _=>rfl)) (.add kk (.r fun _=>rfl)) (UR (by
    have h3:(k:Int) * k<=1000 * 1000:=Int.mul_le_mul (by omega) (by omega) (by omega) (by omega)
    have h4:0<=(k:Int) * k:=Int.mul_nonneg (by omega) (by omega)
    omega))) (.r fun _=>rfl) (by decide)))))⟩
theorem Va:∃ v,Sm v/\C (run T (n+1)) [] 19 [.int c] (.int v):=by
 have q3:∀ {s}{x:Ot D},Y (run T n) s (.bin .FloorDiv (.var 0) (.cst (.int 3))) [some (.int c),x] (.int (c / 3)):=.fd (.r fun _=>rfl) (.r fun _=>rfl) (by decide)
 have m3:∀ {s}{x:Ot D} (z:Int),Y (run T n) s (.cmp .Eq (.bin .Mod (.var 0) (.cst (.int 3))) (.cst (.int z))) [some (.int c),x] (.bl (decide (c % 3=z))):=fun z=>.cmp (.md (.r fun _=>rfl) (.r fun _=>rfl) (by decide)) (.r fun _=>rfl) fun _=>rfl
 have L:Lv [] (ev (run T n) (.lstE (.aC (.neg (.cst (.int 1000000000))) (.aC (.neg (.cst (.int 999999999))) (.aC (.neg (.cst (.int 2))) (.aC (.neg (.cst (.int 1))) (.aC (.cst (.int 0)) (.aC (.cst (.int 1)) (.aC (.cst (.int 2)) (.aC (.cst (.int 999999999)) .aN))))))))) [some (.int c),none]) (([-1000000000,-999999999,-2,-1,0,1,2,999999999]:Li Int).map D.int):=.mk (.r fun _=>rfl)
 have em:=Zh (c / 3) (j:=8) (by decide)
 by_cases h0:c % 3=0
 ·obtain⟨v,hv,e⟩:∃ v∈([-1000000000,-999999999,-2,-1,0,1,2,999999999]:Li Int),([-1000000000,-999999999,-2,-1,0,1,2,999999999]:Li Int)[(c / 3 % 8).toNat]?=some v:=by
   have hi:(c / 3 % 8).toNat < ([-1000000000,-999999999,-2,-1,0,1,2,999999999]:Li Int).length:=by show _ < 8;omega
   exact⟨_,cB hi,Lg hi⟩
  refine⟨v,((by decide:∀ v∈([-1000000000,-999999999,-2,-1,0,1,2,999999999]:Li Int),-1000000000<=v/\v<=999999999) v hv),.of (v:=c__law_small_by) rfl rfl (.setL L fun s' j b g hj=>.yes (by have:=m3 (s:=s') (x:=some (.lst j)) 0;rw[aF h0]at this;exact this) (.ixl (j:=(c / 3 % 8).toNat) hj (.r fun _=>rfl) (by rw[bJ em.1];exact .md q3 (.r fun _=>rfl) (by decide)) (by rw[aU,e];rfl)))⟩
 ·have n0:∀ {s}{x:Ot D},Y (run T n) s (.cmp .Eq (.bin .Mod (.var 0) (.cst (.int 3))) (.cst (.int 0))) [some (.int c),x] (.bl false):=fun {s}{x}=>by have:=m3 (s:=s) (x:=x) 0;rw[aL h0]at this;exact this
  by_cases h1:c % 3=1
  ·have:=Zh (c / 3) (j:=13) (by decide)
   exact⟨c / 3 % 13 - 6,⟨by omega,by omega⟩,.of (v:=c__law_small_by) rfl rfl (.setL L fun s' j b g hj=>.no n0 (.yes (by have:=m3 (s:=s') (x:=some (.lst j)) 1;rw[aF h1]at this;exact this) (.sub (.md q3 (.r fun _=>rfl) (by decide)) (.r fun _=>rfl))))⟩
  ·have:=Zh (c / 3 * 48271) (j:=2000000000) (by decide)
   exact⟨c / 3 * 48271 % 2000000000 - 1000000000,⟨by omega,by omega⟩,.of (v:=c__law_small_by) rfl rfl (.setL L fun s' j b g hj=>.no n0 (.no (by have:=m3 (s:=s') (x:=some (.lst j)) 1;rw[aL h1]at this;exact this) (.ret (.sub (.md (.mul q3 (.r fun _=>rfl) rfl) (.r fun _=>rfl) (by decide)) (.r fun _=>rfl)))))⟩
inductive Op where
 |nm (i:Nat)|nu (v:Int)
def opE:Op->D
 |.nm i=>.tup [.str (S "name"),.int (i:Int)]
 |.nu v=>.tup [.str (S "number"),.int v]
def OpOk(m:Nat):Op->Prop
 |.nm i=>i < m
 |.nu v=>Sm v
theorem JK:∃ o,OpOk m o/\C (run T (n+2)) [] 28 [.int c,.int (m:Int)] (opE o):=by
 have q3:Y (run T (n+1)) [] (.bin .FloorDiv (.var 0) (.cst (.int 3))) [some (.int c),some (.int (m:Int))] (.int (c / 3)):=.fd (.r fun _=>rfl) (.r fun _=>rfl) (by decide)
 have y:Y (run T (n+1)) [] (.and (.cmp .Gt (.var 1) (.cst (.int 0))) (.cmp .Gt (.bin .Mod (.var 0) (.cst (.int 3))) (.cst (.int 0)))) [some (.int c),some (.int (m:Int))] (.bl (decide (0 < (m:Int))&&decide (0 < c % 3))):=.and (.r fun _=>rfl) fun _=>.cmp (.md (.r fun _=>rfl) (.r fun _=>rfl) (by decide)) (.r fun _=>rfl) fun _=>rfl
 cases h:decide (0 < (m:Int))&&decide (0 < c % 3) with
 |true=>
  rw[h]at y;have hm:0 < (m:Int):=of_decide_eq_true (aX.mp h).1;have em:=Zh (c / 3) hm;refine⟨.nm (c / 3 % m).toNat,by show _ < m;omega,.of (v:=c__law_operand) rfl rfl (.yes y (.cons (.r fun _=>rfl) (.cons ?_ .nil)))⟩
  rw[bJ em.1];exact .md q3 (.r fun _=>rfl) hm
 |false=>
  rw[h]at y;obtain⟨v,hv,cv⟩:=Va (n:=n) (c:=c / 3);exact⟨.nu v,hv,.of (v:=c__law_operand) rfl rfl (.no y (.ret (.cons (.r fun _=>rfl) (.cons (.call1 q3 cv) .nil))))⟩
def Zef(l:Li Str):CE:=l.foldr (fun x r=>.aC (.cst (.str x)) r) .aN
inductive Rw where
 |put (x:Nat) (y:Op) (g:Str) (z:Op)|ifr (y:Op) (g:Str) (z:Op) (t:Nat)|go (t:Nat)|tell (y:Op)|skip
def rwE:Rw->D
 |.put x y g z=>.tup [.str (S "put"),.int (x:Int),opE y,.str g,opE z]
 |.ifr y g z t=>.tup [.str (S "if"),opE y,.str g,opE z,.int (t:Int)]
 |.go t=>.tup [.str (S "go"),.int (t:Int)]
 |.tell y=>.tup [.str (S "tell"),opE y]
 |.skip=>.tup [.str (S "skip")]
def Vb(m sz:Nat):Rw->Prop
 |.put x y g z=>x < m/\OpOk m y/\g∈psL/\OpOk m z
 |.ifr y g z t=>OpOk m y/\g∈isL/\OpOk m z/\t<=sz
 |.go t=>t<=sz
 |.tell y=>OpOk m y
 |.skip=>True
theorem ZdQ(hz:sz<=1000):∃ r,Vb m sz r/\C (run T (n+3)) [] 29 [.int c,.int i,.int (m:Int),.int (sz:Int)] (rwE r):=by
 obtain⟨y,hy,cy⟩:=JK (n:=n) (m:=m) (c:=i * 48271 % 2147483647);obtain⟨z,hz',cz⟩:=JK (n:=n) (m:=m) (c:=(i+5) * 1226874159 % 2147483647);have ea:=Zh ((c+1) * 742938285 % 2147483647) (j:=(sz:Int)+1) (by omega)
 obtain⟨t,ht⟩:∃ t:Nat,(c+1) * 742938285 % 2147483647 % ((sz:Int)+1)=(t:Int):=⟨_,(bJ ea.1).symm⟩;obtain⟨g,hg⟩:∃ g,c * 48271 % 2147483647=g:=⟨_,rfl⟩;have st:∀ {r q},R (run T (n+2)) [] q [some (.int c),some (.int i),some (.int (m:Int)),some (.int (sz:Int)),some (opE y),some (opE z),some (.int g),some (.int (t:Int)),none] r->R (run T (n+2)) [] (.seq (.set 4 (.call 28 (.aC (.bin .Mod (.bin .Mult (.var 1) (.cst (.int 48271))) (.cst (.int 2147483647))) (.aC (.var 2) .aN)) [])) (.seq (.set 5 (.call 28 (.aC (.bin .Mod (.bin .Mult (.bin .Add (.var 1) (.cst (.int 5))) (.cst (.int 1226874159))) (.cst (.int 2147483647))) (.aC (.var 2) .aN)) [])) (.seq (.set 6 (.bin .Mod (.bin .Mult (.var 0) (.cst (.int 48271))) (.cst (.int 2147483647)))) (.seq (.set 7 (.bin .Mod (.bin .Mod (.bin .Mult (.bin .Add (.var 0) (.cst (.int 1))) (.cst (.int 742938285))) (.cst (.int 2147483647))) (.bin .Add (.var 3) (.cst (.int 1))))) q)))) [some (.int c),some (.int i),some (.int (m:Int)),some (.int (sz:Int)),none,none,none,none,none] r:=fun {r q} h=>
  .set (.call (.cons (.md (.mul (.r fun _=>rfl) (.r fun _=>rfl) rfl) (.r fun _=>rfl) (by decide)) (.cons (.r fun _=>rfl) .nil)) cy (by cases y<;>rfl)) (.set (.call (.cons (.md (.mul (.add (.r fun _=>rfl) (.r fun _=>rfl)) (.r fun _=>rfl) rfl) (.r fun _=>rfl) (by decide)) (.cons (.r fun _=>rfl) .nil)) cz (by cases z<;>rfl)) (.set (x:=.int g) (by rw[<-hg];exact .md (.mul (.r fun _=>rfl) (.r fun _=>rfl) rfl) (.r fun _=>rfl) (by decide)) (.set (x:=.int (t:Int)) (by rw[<-ht];exact .md (.md (.mul (.add (.r fun _=>rfl) (.r fun _=>rfl)) (.r fun _=>rfl) rfl) (.r fun _=>rfl) (by decide)) (.add (.r fun _=>rfl) (.r fun _=>rfl)) (by omega)) h)))
 have hc:∀ {op k z f x},(∀ st,XB op (.int (c % 8)) (.int z) st=some k)->Y (run T (n+2)) [] (.cmp op (.bin .Mod (.var 0) (.cst (.int 8))) (.cst (.int z))) [some (.int c),some (.int i),some (.int (m:Int)),some (.int (sz:Int)),f,x,some (.int g),some (.int (t:Int)),none] (.bl k):=fun h=>.cmp (.md (.r fun _=>rfl) (.r fun _=>rfl) (by decide)) (.r fun _=>rfl) h
 have sg:∀ {x:Ot D}{L:CE}{l:Li Str}{zz:Int},Lv [] (ev (run T (n+2)) L [some (.int c),some (.int i),some (.int (m:Int)),some (.int (sz:Int)),some (opE y),some (opE z),some (.int g),some (.int (t:Int)),x]) (l.map D.str)->zz=l.length->0 < zz->∃ u∈l,Y (run T (n+2)) [] (.ix L (.bin .Mod (.var 6) (.cst (.int zz)))) [some (.int c),some (.int i),some (.int (m:Int)),some (.int (sz:Int)),some (opE y),some (opE z),some (.int g),some (.int (t:Int)),x] (.str u):=fun {x L l z'} h e hz=>by
  have em:=Zh g hz;exact Y.ixE (f:=D.str) h (.md (.r fun _=>rfl) (.r fun _=>rfl) hz) em.1 (by omega)
 have ht':t<=sz:=by omega
 have b1:Y (run T (n+2)) [] (.and (.cmp .Lt (.bin .Mod (.var 0) (.cst (.int 8))) (.cst (.int 3))) (.cmp .Gt (.var 2) (.cst (.int 0)))) [some (.int c),some (.int i),some (.int (m:Int)),some (.int (sz:Int)),some (opE y),some (opE z),some (.int g),some (.int (t:Int)),none] (.bl (decide (c % 8 < 3)&&decide (0 < (m:Int)))):=.and (hc fun _=>rfl) fun _=>.r fun _=>rfl
 cases h1:decide (c % 8 < 3)&&decide (0 < (m:Int)) with
 |true=>
  rw[h1]at b1;have hm:0 < (m:Int):=of_decide_eq_true (aX.mp h1).2;have ex:=Zh ((i+3) * 950706376 % 2147483647) hm;obtain⟨x,hx⟩:∃ x:Nat,(i+3) * 950706376 % 2147483647 % (m:Int)=(x:Int):=⟨_,(bJ ex.1).symm⟩;obtain⟨u,hu,yu⟩:=sg (x:=some (.int (x:Int))) (L:=.lstE (Zef psL)) (l:=psL) (zz:=5) (.mk (.r fun _=>rfl)) rfl (by decide)
  exact⟨.put x y u z,⟨by omega,hy,hu,hz'⟩,.of (v:=c__law_row) rfl rfl (st (.yB b1 (.set (x:=.int (x:Int)) (by rw[<-hx];exact .md (.md (.mul (.add (.r fun _=>rfl) (.r fun _=>rfl)) (.r fun _=>rfl) rfl) (.r fun _=>rfl) (by decide)) (.r fun _=>rfl) hm) (.ret (.cons (.r fun _=>rfl) (.cons (.r fun _=>rfl) (.cons (.r fun _=>rfl) (.cons yu (.cons (.r fun _=>rfl) .nil)))))))))⟩
 |false=>
  rw[h1]at b1;by_cases h2:c % 8 < 6
  ·obtain⟨u,hu,yu⟩:=sg (x:=none) (L:=.lstE (Zef isL)) (l:=isL) (zz:=6) (.mk (.r fun _=>rfl)) rfl (by decide)
   exact⟨.ifr y u z t,⟨hy,hu,hz',ht'⟩,.of (v:=c__law_row) rfl rfl (st (.no b1 (.yes (hc fun _=>by rw[<-aF h2];rfl) (.cons (.r fun _=>rfl) (.cons (.r fun _=>rfl) (.cons yu (.cons (.r fun _=>rfl) (.cons (.r fun _=>rfl) .nil))))))))⟩
  ·by_cases h3:c % 8=6
   ·have em:=Zh g (j:=2) (by decide)
    obtain⟨r,hr,yr⟩:=Y.ixE (F:=run T (n+2)) (s:=[]) (ρ:=[some (.int c),some (.int i),some (.int (m:Int)),some (.int (sz:Int)),some (opE y),some (opE z),some (.int g),some (.int (t:Int)),none]) (a:=.lstE (.aC (.tupE (.aC (.cst (.str (S "go"))) (.aC (.var 7) .aN))) (.aC (.tupE (.aC (.cst (.str (S "skip"))) .aN)) .aN))) (b:=.bin .Mod (.var 6) (.cst (.int 2))) (l:=[Rw.go t,.skip]) (f:=rwE) (.mk (.r fun _=>rfl)) (.md (.r fun _=>rfl) (.r fun _=>rfl) (by decide)) em.1 em.2
    refine⟨r,by simp at hr;rcases hr with rfl|rfl;exact ht';trivial,.of (v:=c__law_row) rfl rfl (st (.no b1 (.no (hc fun _=>by rw[<-aL h2];rfl) (.yes (hc fun _=>by rw[<-aF h3];rfl) yr))))⟩
   ·exact⟨.tell y,hy,.of (v:=c__law_row) rfl rfl (st (.no b1 (.no (hc fun _=>by rw[<-aL h2];rfl) (.no (hc fun _=>by rw[<-aL h3];rfl) (.ret (.cons (.r fun _=>rfl) (.cons (.r fun _=>rfl) .nil)))))))⟩
end
variable{i0:Nat}
section
variable {F:Nat->Fn}{s st:Za}{e:CE}{ρ ρ':Env}{q:CS}{n i j N:Nat}{xs:Li D}{ns:Li Int}{Q:D->Za->Prop}
theorem Ul{I:Env->Prop}{P:Nat->D->Prop}(hj:s.length<=j)(hb:∀ k,k < N->∀ ρ,I ρ->∃ d ρ',P k d/\I ρ'/\Ap F s j q (Zj ρ i (.int (k:Int))) ρ' [d]):∀ (M a:Nat),a+M=N->∀ ρ,I ρ->∃ xs ρ',xs.length=M/\(∀ t d,xs[t]?=some d->P (a+t) d)/\I ρ'/\∀ st acc,Grw s st->st[j]?=some (true,acc)->acc.length+M<=900->∃ st',Yx (fun d ρ s=>ex F q (Zj ρ i d) s) ((List.range' a M).map fun(k:Nat)=>D.int (k:Int)) ρ st=some (.nx ρ',st')/\Kj j st st'/\st'[j]?=some (true,acc++xs)
 |0,a,_,ρ,hI=>⟨[],ρ,rfl,fun t d h=>(nomatch h),hI,fun st acc g h _=>⟨st,rfl,Grw.refl.kj,by rw[aP];exact h⟩⟩
 |M+1,a,ha,ρ,hI=>by
  obtain⟨d,ρ1,hP,hI1,hA⟩:=hb a (by omega) ρ hI
  obtain⟨xs,ρ2,hl,hx,hI2,hr⟩:=Ul hj hb M (a+1) (by omega) ρ1 hI1
  refine⟨d :: xs,ρ2,by rw[aR,hl],fun t d' h=>?_,hI2,fun st acc g h hc=>?_⟩
  ·cases t with
   |zero=>cases h;exact hP
   |succ t=>have:=hx t d' h;rw[show a+1+t=a+(t+1) by omega]at this;exact this
  ·obtain⟨s1,e1,k1,h1⟩:=hA st acc g h (by show _+1<=900;omega)
   obtain⟨s2,e2,k2,h2⟩:=hr s1 _ (k1.grw hj g) h1 (by rw[aK];show _+1+M<=900;omega)
   refine⟨s2,?_,k1.trans k2,by rw[h2,aM];rfl⟩
   rw[List.range'_succ,aT];show(match ex F q (Zj ρ i (.int (a:Int))) st with
    |some (.nx ρ',st')=>Yx _ _ ρ' st'
    |some (.ct ρ',st')=>Yx _ _ ρ' st'
    |some (.bk ρ',st')=>some (.nx ρ',st')
    |some (.rt v,st')=>some (.rt v,st')
    |none=>none)=_
   rw[e1];exact e2
theorem ZaR{v:Int}(h1:v < 2 ^ 62)(h2:-(2 ^ 62)<=v):UO true (.int v)=some ((List.range v.toNat).map fun(k:Nat)=>D.int (k:Int)):=by
 show(if v < 2 ^ 62/\-(2 ^ 62)<=v then some ((List.range v.toNat).map fun(k:Nat)=>D.int (k:Int)) else none)=_
 rw[if_pos ⟨h1,h2⟩]
theorem Qy{v:Int}{st1:Za}(h1:v < 2 ^ 62)(h2:-(2 ^ 62)<=v)(e1:ev F e ρ st=some (.int v,st1)):ex F (.for1 i true e q) ρ st=Yx (fun d ρ s=>ex F q (Zj ρ i d) s) ((List.range v.toNat).map fun(k:Nat)=>D.int (k:Int)) ρ st1:=by
 show Wn i true (ev F e) (ex F q) ρ st=_;unfold Wn;rw[e1];simp only[ZaR h1 h2]
theorem RP.fill{I:Nat->Env->Prop}{P:Nat->D->Prop}{v:Int}{q':CS}(hY:∀ j,Y F s e (Zj ρ i0 (.lst j)) (.int v))(hv:v=(N:Int))(hN:N<=800)(hI:∀ j,I j (Zj ρ i0 (.lst j)))(g:Grw s st)(hb:∀ j,s.length<=j->∀ k,k < N->∀ ρ,I j ρ->∃ d ρ',P k d/\I j ρ'/\Ap F s j q (Zj ρ i (.int (k:Int))) ρ' [d])(hq:∀ j xs ρ' st',xs.length=N->(∀ t d,xs[t]?=some d->P t d)->I j ρ'->Grw st st'->st'[j]?=some (true,xs)->RP F q' ρ' st' Q):RP F (.seq (.set i0 (.lstE .aN)) (.seq (.for1 i true e q) q')) ρ st Q:=by
 have g0:Grw s (st++[(true,[])]):=g.trans .push;obtain⟨s1,e1,k1⟩:=hY st.length (st++[(true,[])]) g0;obtain⟨xs,ρ',hl,hx,hI',hr⟩:=Ul (I:=I st.length) g.len (hb st.length g.len) N 0 (by omega) _ (hI st.length)
 obtain⟨s2,e2,k2,h2⟩:=hr s1 [] (g0.trans k1) (k1.get ZF) (by show 0+N<=900;omega)
 have k3:Grw st s2:=(k1.kj.trans k2).grw (aE _) .push;refine .pre ((Zg (p:=.set i0 (.lstE .aN)) (s':=st++[(true,[])]) rfl).trans (Zg ?_)) k3 (hq st.length xs ρ' s2 hl (fun t d h=>by have:=hx t d h;rw[cZ]at this;exact this) hI' k3 h2)
 rw[Qy (v:=v) (by omega) (by omega) e1,hv,bS,List.range_eq_range']
 exact e2
structure Pg where
 tk:List (Int×Int)
 m:Nat
 rw:List Rw
def tkE(t:Int×Int):D:=.tup [.int t.1,.int t.2]
def pgE(p:Pg):D:=.tup [.tup (p.tk.map tkE),.int (p.m:Int),.tup (p.rw.map rwE)]
structure PgOk(most:Nat)(p:Pg):Prop where
 t3:p.tk.length<=3
 tm:p.tk.length<=p.m
 m5:p.m<=5
 r:p.rw.length<=most
 tk:∀ t∈p.tk,Sm t.1/\Sm t.2/\t.1<=t.2
 ro:∀ x∈p.rw,Vb p.m p.rw.length x
theorem UI{α:Type}{f:α->D}{R:α->Prop}:∀ {xs:Li D},(∀ d∈xs,∃ a,R a/\d=f a)->∃ l:Li α,xs=l.map f/\∀ a∈l,R a
 |[],_=>⟨[],rfl,fun _ h=>nomatch h⟩
 |d :: xs,h=>by
  obtain⟨a,ha,rfl⟩:=h d lQ7;obtain⟨l,rfl,hl⟩:=UI fun d hd=>h d (Lm _ hd)
  exact⟨a :: l,rfl,fun x hx=>by rcases aG.mp hx with rfl|hx;exact ha;exact hl x hx⟩
theorem ZdR{b:Bool}{most:Nat}(hm:most<=12)(hs:s[0]?=some (b,ns.map D.int))(g:Grw s st):CP (run T (n+4)) 30 [.lst 0,.int (most:Int)] st (fun d _=>∃ p,PgOk most p/\d=pgE p):=by
 obtain⟨h0,ch⟩:=Yc (n:=n+2) hs (k:=0) (by decide)
 obtain⟨z0,cz⟩:=Yc (n:=n+2) hs (k:=1) (by decide)
 obtain⟨hd,ehd⟩:∃ hd,h0 % 2147483647=hd:=⟨_,rfl⟩;have et:=Zh hd (j:=4) (by decide)
 obtain⟨t,ht⟩:∃ t:Nat,hd % 4=(t:Int):=⟨_,(bJ et.1).symm⟩;have em:=Zh (hd * 48271 % 2147483647) (j:=6 - (t:Int)) (by omega)
 obtain⟨m,hm'⟩:∃ m:Nat,(t:Int)+hd * 48271 % 2147483647 % (6 - (t:Int))=(m:Int):=⟨_,(bJ (by omega)).symm⟩
 have ez:=Zh z0 (j:=(most:Int)+1) (by omega)
 obtain⟨z,hz⟩:∃ z:Nat,z0 % ((most:Int)+1)=(z:Int):=⟨_,(bJ ez.1).symm⟩;refine .of (v:=c__law_program) rfl rfl ?_;refine .setY (s:=s) (d:=.int hd) (by rw[<-ehd];exact .md (.call (xs:=[.lst 0,.int 0]) (.r fun _=>rfl) ch) (.r fun _=>rfl) (by decide)) g fun s1 g1=>?_
 refine .setY (s:=s) (d:=.int (t:Int)) (by rw[<-ht];exact .md (.r fun _=>rfl) (.r fun _=>rfl) (by decide)) (g.trans g1) fun s2 g2=>?_
 have g2':=g.trans (g1.trans g2);refine .setY (s:=s) (d:=.int (m:Int)) (by rw[<-hm'];exact .add (.r fun _=>rfl) (.md (.md (.mul (.r fun _=>rfl) (.r fun _=>rfl) rfl) (.r fun _=>rfl) (by decide)) (.sub (.r fun _=>rfl) (.r fun _=>rfl)) (by omega))) g2' fun s3 g3=>?_
 refine .setY (s:=s) (d:=.int (z:Int)) (by rw[<-hz];exact .md (.call (xs:=[.lst 0,.int 1]) (.r fun _=>rfl) cz) (.add (.r fun _=>rfl) (.r fun _=>rfl)) (by omega)) (g2'.trans g3) fun s4 g4=>?_
 have g4':=g2'.trans (g3.trans g4);refine .fill (s:=s) (N:=z) (I:=fun j ρ=>∃ y w,ρ=[some (.lst 0),some (.int (most:Int)),some (.int hd),some (.int (t:Int)),some (.int (m:Int)),some (.int (z:Int)),some (.lst j),y,w,none,none,none]) (P:=fun _ d=>∃ r,Vb m z r/\d=rwE r) (fun j=>.r fun _=>rfl) rfl (by omega) (fun j=>⟨_,_,rfl⟩) g4' (fun j hj k hk ρ hI=>by
  obtain⟨y,w,rfl⟩:=hI;obtain⟨c1,e1⟩:=Yc (n:=n+2) hs (k:=8+2 * k) (by omega)
  obtain⟨c2,e2⟩:=Yc (n:=n+2) hs (k:=9+2 * k) (by omega)
  obtain⟨r,hr,er⟩:=ZdQ (n:=n) (m:=m) (sz:=z) (c:=c1) (i:=c2) (by omega)
  have kk:∀ {a:Nat}{ρ:Env},ρ[7]?=some (some (.int (k:Int)))->Y (run T (n+3)) s (.bin .Add (.cst (.int (a:Int))) (.bin .Mult (.cst (.int 2)) (.var 7))) ρ (.int ((a+2 * k:Nat):Int)):=fun {a ρ} h=>by
   rw[show((a+2 * k:Nat):Int)=(a:Int)+2 * (k:Int) by omega]
   exact .add (.r fun _=>rfl) (.mul (.r fun _=>rfl) (.r fun st=>by show ZA 7 ρ st=_;unfold ZA;rw[h]) (UR (by omega)))
  refine⟨rwE r,_,⟨r,hr,rfl⟩,⟨some (.int (k:Int)),some (.int c1),rfl⟩,.seq hj (xs:=[]) (.set (.call (xs:=[.lst 0,.int ((8+2 * k:Nat):Int)]) (.cons (.r fun _=>rfl) (.cons (kk (a:=8) rfl) .nil)) e1)) (.one (.app rfl (.call (xs:=[.int c1,.int c2,.int (m:Int),.int (z:Int)]) (.cons (.r fun _=>rfl) (.cons (.call (xs:=[.lst 0,.int ((9+2 * k:Nat):Int)]) (.cons (.r fun _=>rfl) (.cons (kk (a:=9) rfl) .nil)) e2) (.cons (.r fun _=>rfl) (.cons (.r fun _=>rfl) .nil)))) (C.up er) (by cases r<;>rfl))))⟩) fun j xs ρ' st' hl hx hI g5 hj=>?_
 obtain⟨y,w,rfl⟩:=hI;have g5':=g4'.trans g5;obtain⟨rs,rfl,hrs⟩:=UI (f:=rwE) (R:=Vb m z) (xs:=xs) fun d hd=>by obtain⟨t,ht,e⟩:=List.mem_iff_getElem.mp hd;exact hx t d (by rw[Lg ht,e])
 rw[aJ]at hl;refine .fill (s:=s) (N:=t) (I:=fun j' ρ=>∃ y w u v,ρ=[some (.lst 0),some (.int (most:Int)),some (.int hd),some (.int (t:Int)),some (.int (m:Int)),some (.int (z:Int)),some (.lst j),y,w,some (.lst j'),u,v]) (P:=fun _ d=>∃ p:Int×Int,(Sm p.1/\Sm p.2/\p.1<=p.2)/\d=tkE p) (fun j=>.r fun _=>rfl) rfl (by omega) (fun j=>⟨_,_,_,_,rfl⟩) g5' (fun j' hj' k hk ρ hI=>by
  obtain⟨y,w,u,v,rfl⟩:=hI;obtain⟨c1,e1⟩:=Yc (n:=n+2) hs (k:=2+2 * k) (by omega)
  obtain⟨c2,e2⟩:=Yc (n:=n+2) hs (k:=3+2 * k) (by omega)
  obtain⟨v1,s1',q1⟩:=Va (n:=n+2) (c:=c1);obtain⟨v2,s2',q2⟩:=Va (n:=n+2) (c:=c2);have kk:∀ {a:Nat}{ρ:Env},ρ[7]?=some (some (.int (k:Int)))->Y (run T (n+3)) s (.bin .Add (.cst (.int (a:Int))) (.bin .Mult (.cst (.int 2)) (.var 7))) ρ (.int ((a+2 * k:Nat):Int)):=fun {a ρ} h=>by
   rw[show((a+2 * k:Nat):Int)=(a:Int)+2 * (k:Int) by omega]
   exact .add (.r fun _=>rfl) (.mul (.r fun _=>rfl) (.r fun st=>by show ZA 7 ρ st=_;unfold ZA;rw[h]) (UR (by omega)))
  have mn:Sm (if v2 < v1 then v2 else v1)/\Sm (if v2 > v1 then v2 else v1)/\(if v2 < v1 then v2 else v1)<=if v2 > v1 then v2 else v1:=by
   unfold Sm at *
   split<;>split<;>omega
  exact⟨tkE (if v2 < v1 then v2 else v1,if v2 > v1 then v2 else v1),_,⟨_,mn,rfl⟩,⟨some (.int (k:Int)),w,some (.int v1),some (.int v2),rfl⟩,.seq hj' (xs:=[]) (.set (.call1 (.call (xs:=[.lst 0,.int ((2+2 * k:Nat):Int)]) (.cons (.r fun _=>rfl) (.cons (kk (a:=2) rfl) .nil)) e1) (C.up q1))) (.seq hj' (xs:=[]) (.set (.call1 (.call (xs:=[.lst 0,.int ((3+2 * k:Nat):Int)]) (.cons (.r fun _=>rfl) (.cons (kk (a:=3) rfl) .nil)) e2) (C.up q2))) (.one (.app rfl (.r fun _=>rfl))))⟩) fun j' xs' ρ' st'' hl' hx' hI g6 hj'=>?_
 obtain⟨y,w,u,v,rfl⟩:=hI;obtain⟨ts,rfl,hts⟩:=UI (f:=tkE) (R:=fun p:Int×Int=>Sm p.1/\Sm p.2/\p.1<=p.2) (xs:=xs') fun d hd=>by obtain⟨t,ht,e⟩:=List.mem_iff_getElem.mp hd;exact hx' t d (by rw[Lg ht,e])
 rw[aJ]at hl';refine .ret (s:=st'') (d:=pgE ⟨ts,m,rs⟩) (.cons (.at fun _ k=>Xk rfl (k.get hj')) (.cons (.r fun _=>rfl) (.cons (.at fun _ k=>Xk rfl (k.get (g6.get hj))) .nil))) .refl fun _ _=>⟨_,⟨?_,?_,?_,?_,hts,?_⟩,rfl⟩
 ·show ts.length<=3;omega
 ·show ts.length<=m;omega
 ·show m<=5;omega
 ·show rs.length<=most;omega
 ·show ∀ x∈rs,Vb m rs.length x
  rw[hl];exact hrs
end
def Vis(x:Str):Prop:=∀ c∈x.cps.toList,33<=c
structure Lw(x:Str):Prop where
 lc:∀ c∈x.cps.toList,97<=c/\c<=122
 lo:1<=x.length
 hi:x.length<=8
section
variable {F:Nat->Fn}{s st:Za}{e a b c:CE}{ρ:Env}{n i:Nat}{x y:Str}{k:Nat}{v w:Int}{l:Li Str}{z:Str}
theorem Zd5:∀ c,c < 123->97<=c->Jy AZ ⟨#[c]⟩=true:=by decide +kernel
theorem Lw.nm(h:Lw x):nmB x=true:=by
 unfold nmB mdB chS;have h1:=h.lo;have h2:=h.hi;rw[Ba,Ba,bE,bE,bP];refine⟨⟨by omega,by omega⟩,fun w hw=>?_⟩
 obtain⟨c,hc,rfl⟩:=bC.mp hw;have:=h.lc c hc;exact Zd5 c (by omega) this.1
theorem Lw.wd(h:Lw x):Wd x:=⟨aH h.hi (by decide),fun c hc=>by have:=h.lc c hc;omega⟩
theorem Lw.vis(h:Lw x):Vis x:=fun c hc=>by have:=h.lc c hc;omega
def lcS(i:Nat):Str:=⟨#[97+i]⟩
theorem Zb0:AZ.cps.toList=(List.range 26).map (97+·):=by decide +kernel
theorem Y.az(ha:Y F s a ρ (.str AZ))(hb:Y F s b ρ (.int (i:Int)))(h:i < 26):Y F s (.ix a b) ρ (.str (lcS i)):=g2 ha hb (gp fun st=>by
 show ixR (.str AZ) (.int (i:Int)) st=_;have:ixD (.str AZ) (.int (i:Int)) st=some (.str (lcS i)):=by
  show(if AZ.length<=Zc then atD ((chS AZ).map .str) (i:Int) else none)=_
  rw[if_pos (by decide +kernel),Y6]
  unfold chS;rw[Zb0,bI,bI,aU,dQ h];rfl
 unfold ixR;rw[this])
theorem Yv:(Z9 x none (some (k:Int))).cps.toList=x.cps.toList.take k:=by
 show((x.cps.toList.drop 0).take ((if (k:Int) < 0 then ((k:Int)+(x.length:Int)).toNat else Nat.min (k:Int).toNat x.length) - 0))=_
 rw[if_neg (by omega),bS,dO,Nat.sub_zero,<-len_list]
 by_cases h:k<=x.cps.toList.length
 ·rw[show Nat.min k x.cps.toList.length=k from bT h]
 ·rw[show Nat.min k x.cps.toList.length=x.cps.toList.length from dB (by omega),dR,bR (by omega)]
theorem We:(Z9 x (some (k:Int)) none).cps.toList=x.cps.toList.drop k:=by
 show((x.cps.toList.drop (if (k:Int) < 0 then ((k:Int)+(x.length:Int)).toNat else Nat.min (k:Int).toNat x.length)).take (x.length - (if (k:Int) < 0 then ((k:Int)+(x.length:Int)).toNat else Nat.min (k:Int).toNat x.length)))=_
 rw[if_neg (by omega),bS,<-len_list]
 by_cases h:k<=x.cps.toList.length
 ·rw[show Nat.min k x.cps.toList.length=k from bT h]
  exact bR (by rw[cA];exact aE _)
 ·rw[show Nat.min k x.cps.toList.length=x.cps.toList.length from dB (by omega),List.drop_length,dE (by omega)]
  exact List.take_nil
theorem Y.tk(hl:x.length<=Zc)(ha:Y F s a ρ (.str x))(hb:Y F s b ρ (.int (k:Int))):Y F s (.slice a .nop (.part b)) ρ (.str (Z9 x none (some (k:Int)))):=fun st g=>by
 obtain⟨s1,e1,k1⟩:=ha st g;obtain⟨s2,e2,k2⟩:=hb s1 (g.trans k1);refine⟨s2,?_,k1.trans k2⟩;show VA (ev F a) (evC .non) (Zm (ev F b) Ui) YT ρ st=_;unfold VA Zm;simp only[e1,e2,evC];exact if_pos hl
theorem Y.dp(hl:x.length<=Zc)(ha:Y F s a ρ (.str x))(hb:Y F s b ρ (.int (k:Int))):Y F s (.slice a (.part b) .nop) ρ (.str (Z9 x (some (k:Int)) none)):=fun st g=>by
 obtain⟨s1,e1,k1⟩:=ha st g;obtain⟨s2,e2,k2⟩:=hb s1 (g.trans k1);refine⟨s2,?_,k1.trans k2⟩;show VA (ev F a) (Zm (ev F b) Ui) (evC .non) YT ρ st=_;unfold VA Zm;simp only[e1,e2,evC];exact if_pos hl
theorem Zi:(x++y).cps.toList=x.cps.toList++y.cps.toList:=by
 show(x.cps++y.cps).toList=_;rw[Array.toList_append]
theorem Y.ct(ha:Y F s a ρ (.str x))(hb:Y F s b ρ (.str y))(hl:x.length+y.length<=Zc):Y F s (.bin .Add a b) ρ (.str (x++y)):=g2 ha hb (gp fun st=>if_pos ⟨rfl,hl⟩)
theorem WE:∀ {l:Li Str},XY (l.map D.str)=some l
 |[]=>rfl
 |y :: l=>by
  show(XY (l.map D.str)).map (y :: ·)=_;rw[WE];rfl
theorem Y.join0(h:Lv s (ev F e ρ) (l.map D.str))(hl:(Xe l).length<=Zc):Y F s (.joinE (.cst (.str (S ""))) e) ρ (.str ⟨(Xe l).toArray⟩):=fun st g=>by
 obtain⟨s1,j,b,e1,hj,k1⟩:=h st g;refine⟨s1,?_,k1⟩;show Zn (evC (.str (S ""))) (ev F e) Ws ρ st=_;unfold Zn;simp only[evC,e1];show(match s1[j]? with
  |some (_,ds)=>if (S "").length=0 then Ua ds s1 else V9 (S "") ds s1
  |none=>none)=_
 rw[hj];show(if (S "").length=0 then Ua (l.map D.str) s1 else V9 (S "") (l.map D.str) s1)=_
 rw[if_pos (by decide +kernel)]
 unfold Ua;rw[WE];exact if_pos hl
theorem J9:∀ l:Li Nat,Xe (l.map lcS)=l.map (97+·)
 |[]=>rfl
 |i :: l=>by show(97+i) :: Xe (l.map lcS)=_;rw[J9];rfl
structure Nms(N:List Str):Prop where
 l:N.length=5
 lw:∀ x∈N,Lw x
 nd:N.Nodup
theorem ZbI{v:Int}(h1:v < 2 ^ 62)(h2:-(2 ^ 62)<=v):Ux true (.int v) st=some ((List.range v.toNat).map fun(k:Nat)=>D.int (k:Int),fun _=>True):=by
 unfold Ux;rw[ZaR h1 h2]
theorem Wk.rng{f:Nat}{v:Int}(h:Y F s e ρ (.int v))(hv:v=(f:Int))(hf:f<=800):Wk F s e ρ (Ux true) ((List.range f).map fun(k:Nat)=>D.int (k:Int)):=.of h fun st=>(ZbI (by omega) (by omega)).trans (by rw[hv,bS])
theorem Zgr{α:Type}{P:Nat->α->Prop}(h:∀ k,k < 5->∃ x,P k x):∃ g:Nat->α,∀ k,k < 5->P k (g k):=by
 classical
 obtain⟨x0,_⟩:=h 0 (by decide)
 exact⟨fun k=>if q:k < 5 then (h k q).choose else x0,fun k q=>by simp only[dif_pos q];exact(h k q).choose_spec⟩
theorem UW{g:Nat->Str}(h:∀ k,k < 5->Lw (g k))(hi:∀ i j,i < j->j < 5->g i≠g j):Nms ((List.range 5).map g):=
 ⟨rfl,fun x hx=>by obtain⟨k,hk,rfl⟩:=bC.mp hx;exact h k (cQ.mp hk),by
  show[g 0,g 1,g 2,g 3,g 4].Nodup;simp only[cJ,aG,bB,or_false,not_or,List.nodup_nil,not_false_eq_true,and_true];exact⟨⟨hi 0 1 (by decide) (by decide),hi 0 2 (by decide) (by decide),hi 0 3 (by decide) (by decide),hi 0 4 (by decide) (by decide)⟩,⟨hi 1 2 (by decide) (by decide),hi 1 3 (by decide) (by decide),hi 1 4 (by decide) (by decide)⟩,⟨hi 2 3 (by decide) (by decide),hi 2 4 (by decide) (by decide)⟩,hi 3 4 (by decide) (by decide)⟩⟩
theorem RP.retL{Q:D->Za->Prop}{q:CS}(h:Lv s (ev F e ρ) xs)(g:Grw s st)(hq:∀ s' j b,Grw st s'->s'[j]?=some (b,xs)->Q (.lst j) s'):RP F (.seq (.ret e) q) ρ st Q:=by
 obtain⟨s1,j,b,e1,hj,k1⟩:=h st g;exact⟨_,s1,Zt (W7 e1),k1,hq s1 j b k1 hj⟩
def wdL:Li Str:=[S "go",S "put",S "if",S "mod",S "take",S "name",S "tell",S "skip"]
theorem Zga:∀ x∈wdL,Lw x:=by
 have:∀ x∈wdL,(x.cps.toList.all fun c=>decide (97<=c/\c<=122))=true/\1<=x.length/\x.length<=8:=by decide +kernel
 exact fun x hx=>⟨fun c hc=>of_decide_eq_true (bP.mp (this x hx).1 c hc),(this x hx).2.1,(this x hx).2.2⟩
theorem Zgb:wdL.Nodup:=by decide +kernel
theorem ZfL{a:Int}{j st:Nat}(hs:1<=st)(h5:st<=5)(h:i < j)(hj:j < 5):(a+(i:Int) * st) % 26≠(a+(j:Int) * st) % 26:=fun z=>by
 have e:(j:Int) * st - (i:Int) * st=((j - i:Nat):Int) * st:=by rw[<-Int.sub_mul];congr 1;omega
 have h1:1 * 1<=(j - i) * st:=Nat.mul_le_mul (by omega) hs
 have h2:(j - i) * st<=4 * 5:=Nat.mul_le_mul (by omega) h5
 have e2:(((j - i:Nat):Int) * st)=(((j - i) * st:Nat):Int):=by push_cast;rfl
 omega
theorem JI:CP (run T (n+1)) 249 [.int v,.int w] st (fun d st'=>∃ q b N,Nms N/\d=.lst q/\st'[q]?=some (b,N.map D.str)):=by
 -- the base
 obtain⟨g0,hg0⟩:∃ g0:Nat->Nat,∀ k:Nat,g0 k < 26/\((g0 k:Nat):Int)=v / ((k:Int)+1) % 26:=⟨fun k=>(v / ((k:Int)+1) % 26).toNat,fun k=>by have:=Zh (v / ((k:Int)+1)) (j:=26) (by decide);show(v / ((k:Int)+1) % 26).toNat < 26/\(((v / ((k:Int)+1) % 26).toNat:Nat):Int)=_;omega⟩
 let B:Str:=⟨(Xe ((List.range 8).map fun k=>lcS (g0 k))).toArray⟩
 have hB:B.cps.toList=(List.range 8).map fun k=>97+g0 k:=by
  show Xe _=_;have:=J9 ((List.range 8).map g0);rw[bI,bI]at this;exact this
 have hl:B.length=8:=by rw[<-len_list,hB];rfl
 have hc:∀ c∈B.cps.toList,97<=c/\c<=122:=fun c hc=>by
  rw[hB]at hc;obtain⟨k,_,rfl⟩:=bC.mp hc;have:=(hg0 k).1;omega
 have hm:B.length<=Zc:=by rw[hl];decide
 have yB:Y (run T n) st (.joinE (.cst (.str (S ""))) YK) [some (.int v),some (.int w),some (.str AZ),none,none,none,none,none,none] (.str B):=.join0 (l:=(List.range 8).map fun k=>lcS (g0 k)) (by
  rw[bI];exact XU (b:=one) (en:=fun(k:Nat)=>D.int (k:Int)) (g:=fun k=>.str (lcS (g0 k))) (.rng (f:=8) (v:=8) (.r fun _=>rfl) rfl (by decide)) (by rw[bX];decide) fun k hk=>.az (.r fun _=>rfl) (by
   rw[(hg0 k).2];have:=cQ.mp hk;exact .md (.fd (.r fun _=>rfl) (.add (.r fun _=>rfl) (.r fun _=>rfl)) (by omega)) (.r fun _=>rfl) (by decide)) (hg0 k).1) (by rw[show(Xe ((List.range 8).map fun k=>lcS (g0 k))).length=B.length from len_list.symm.symm ▸ rfl,hl];decide)
 refine .of (v:=c__law_names) rfl rfl (.setY (s:=st) (d:=.str AZ) (.r fun _=>rfl) .refl fun s1 g1=>.setY (s:=st) yB g1 fun s2 g2=>?_)
 have g2':=g1.trans g2;have m4:∀ {z:Int}{k:Bool}{y5:Ot D},decide (w % 4=z)=k->Y (run T n) st (.cmp .Eq (.bin .Mod (.var 1) (.cst (.int 4))) (.cst (.int z))) [some (.int v),some (.int w),some (.str AZ),none,some (.str B),y5,none,none,none] (.bl k):=fun {z k y5} h=>by rw[<-h];exact .cmp (.md (.r fun _=>rfl) (.r fun _=>rfl) (by decide)) (.r fun _=>rfl) fun _=>rfl
 have tkB:∀ {k:Nat},k<=8->(Z9 B none (some (k:Int))).length=k:=fun {k} h=>by rw[<-len_list,Yv,bF,len_list,hl];exact bT h
 have tkc:∀ {k:Nat},∀ c∈(Z9 B none (some (k:Int))).cps.toList,97<=c/\c<=122:=fun {k} c h=>hc c (eF (by rw[Yv]at h;exact h))
 by_cases h0:w % 4=0
 ·have ea:=Zh (w / 4) (j:=4) (by decide)
  obtain⟨a,ha⟩:∃ a:Nat,w / 4 % 4=(a:Int):=⟨_,(bJ ea.1).symm⟩;refine .yes (m4 (aF h0)) g2' fun s3 g3=>.retL (s:=st) (xs:=((List.range 5).map fun k=>Z9 B none (some ((1+a+k:Nat):Int))).map D.str) (by
   rw[bI];exact XU (b:=one) (en:=fun(k:Nat)=>D.int (k:Int)) (g:=fun k=>.str (Z9 B none (some ((1+a+k:Nat):Int)))) (.rng (f:=5) (v:=5) (.r fun _=>rfl) rfl (by decide)) (by rw[bX];decide) fun k hk=>.tk hm (.r fun _=>rfl) (by
    rw[show((1+a+k:Nat):Int)=1+(a:Int)+k by omega,<-ha]
    exact .add (.add (.r fun _=>rfl) (.md (.fd (.r fun _=>rfl) (.r fun _=>rfl) (by decide)) (.r fun _=>rfl) (by decide))) (.r fun _=>rfl))) (g2'.trans g3) fun s' j b g' hj=>⟨j,b,_,UW (g:=fun k=>Z9 B none (some ((1+a+k:Nat):Int))) (fun k hk=>⟨tkc,by rw[tkB (by omega)];omega,by rw[tkB (by omega)];omega⟩) (fun i j hi hj z=>?_),rfl,hj⟩
  have:=congrArg Str.length z;rw[tkB (by omega),tkB (by omega)]at this
  omega
 ·by_cases h1:w % 4=1
  ·refine .no (m4 (aL h0)) g2' fun s3 g3=>.yes (m4 (aF h1)) (g2'.trans g3) fun s4 g4=>.setL (s:=s4) (e:=.lstE (Zef wdL)) (xs:=wdL.map D.str) (.mk (.r fun _=>rfl)) .refl fun s5 j5 b5 g5 hj5=>?_
   have ix:∀ k:Nat,k < 5->∃ x,∃ i:Nat,i < 8/\((i:Nat):Int)=(w / 4+(k:Int)) % 8/\wdL[i]?=some x:=fun k hk=>by
    have e:=Zh (w / 4+(k:Int)) (j:=8) (by decide)
    have hi:((w / 4+(k:Int)) % 8).toNat < wdL.length:=by show _ < 8;omega
    exact⟨_,_,by show((w / 4+(k:Int)) % 8).toNat < 8;omega,by omega,Lg hi⟩
   obtain⟨g,hg⟩:=Zgr ix;refine .retL (s:=s5) (xs:=((List.range 5).map g).map D.str) (by
    rw[bI];exact XU (b:=one) (en:=fun(k:Nat)=>D.int (k:Int)) (g:=fun k=>.str (g k)) (.rng (f:=5) (v:=5) (.r fun _=>rfl) rfl (by decide)) (by rw[bX];decide) fun k hk=>by
     obtain⟨i,_,hi,hx⟩:=hg k (cQ.mp hk);exact .ixl (j:=i) hj5 (.r fun _=>rfl) (by rw[hi];exact .md (.add (.fd (.r fun _=>rfl) (.r fun _=>rfl) (by decide)) (.r fun _=>rfl)) (.r fun _=>rfl) (by decide)) (by rw[aU,hx];rfl)) .refl fun s' j b g' hj=>⟨j,b,_,UW (fun k hk=>by obtain⟨i,_,_,hx⟩:=hg k hk;exact Zga _ (aV hx)) (fun i j hi hj z=>?_),rfl,hj⟩
   obtain⟨a,ha,ha',hx⟩:=hg i (by omega)
   obtain⟨b,hb,hb',hy⟩:=hg j hj;rw[z]at hx;have:=(List.getElem?_inj (show a < wdL.length from ha) Zgb).mp (hx.trans hy.symm);omega
  ·refine .no (m4 (aL h0)) g2' fun s3 g3=>.no (m4 (aL h1)) (g2'.trans g3) fun s4 g4=>?_
   have ea:=Zh (w / 4) (j:=8) (by decide)
   obtain⟨a,ha⟩:∃ a:Nat,w / 4 % 8=(a:Int):=⟨_,(bJ ea.1).symm⟩;obtain⟨B2,hB2⟩:∃ B2,B2=Z9 B none (some ((1+a:Nat):Int)):=⟨_,rfl⟩;have l2:B2.length=1+a:=by rw[hB2,tkB (by omega)]
   have c2:∀ c∈B2.cps.toList,97<=c/\c<=122:=by rw[hB2];exact tkc
   have m2:B2.length<=Zc:=by unfold Zc;omega
   have et:=Zh (w / 32) (j:=(1+a:Int)) (by omega)
   obtain⟨t,ht⟩:∃ t:Nat,w / 32 % (1+a:Int)=(t:Int):=⟨_,(bJ et.1).symm⟩;have g4':=g2'.trans (g3.trans g4);refine .setY (s:=st) (d:=.str B2) (by rw[hB2];exact .tk hm (.r fun _=>rfl) (by rw[show((1+a:Nat):Int)=1+(a:Int) by omega,<-ha];exact .add (.r fun _=>rfl) (.md (.fd (.r fun _=>rfl) (.r fun _=>rfl) (by decide)) (.r fun _=>rfl) (by decide)))) g4' fun s5 g5=>?_
   refine .setY (s:=st) (d:=.int (t:Int)) (by rw[<-ht,show(1+a:Int)=(B2.length:Int) by omega];exact .md (.fd (.r fun _=>rfl) (.r fun _=>rfl) (by decide)) (.len m2 (.r fun _=>rfl)) (by omega)) (g4'.trans g5) fun s6 g6=>?_
   have es:=Zh (w / 6656) (j:=5) (by decide)
   obtain⟨q,hq⟩:∃ q:Nat,1+w / 6656 % 5=(q:Int):=⟨_,(bJ (by omega)).symm⟩
   obtain⟨f,hf⟩:∃ f:Nat->Nat,∀ k:Nat,f k < 26/\((f k:Nat):Int)=(w / 256+(k:Int) * q) % 26:=⟨fun k=>((w / 256+(k:Int) * q) % 26).toNat,fun k=>by have:=Zh (w / 256+(k:Int) * q) (j:=26) (by decide);show((w / 256+(k:Int) * q) % 26).toNat < 26/\((((w / 256+(k:Int) * q) % 26).toNat:Nat):Int)=_;omega⟩
   let nm:Nat->Str:=fun k=>Z9 B2 none (some (t:Int))++lcS (f k)++Z9 B2 (some ((t+1:Nat):Int)) none
   have nl:∀ k,(nm k).cps.toList=B2.cps.toList.take t++[97+f k]++B2.cps.toList.drop (t+1):=fun k=>by
    show(_++_++_:Str).cps.toList=_;rw[Zi,Zi,Yv,We];rfl
   have lt:(B2.cps.toList.take t).length=t:=by rw[bF,len_list];exact bT (by omega)
   have ld:(B2.cps.toList.drop (t+1)).length=a - t:=by rw[cA,len_list];omega
   refine .fill (s:=st) (N:=5) (v:=5) (I:=fun j ρ=>∃ y8 y3,ρ=[some (.int v),some (.int w),some (.str AZ),y3,some (.str B2),none,some (.int (t:Int)),some (.lst j),y8]) (P:=fun k d=>d=.str (nm k)) (fun j=>.r fun _=>rfl) rfl (by decide) (fun j=>⟨_,_,rfl⟩) (g4'.trans (g5.trans g6)) (fun j hj k hk ρ hI=>?_) fun j xs ρ' st' hl' hx hI g7 hj=>?_
   ·obtain⟨y8,y3,rfl⟩:=hI
    refine⟨.str (nm k),_,rfl,⟨some (.str (lcS (f k))),some (.int (k:Int)),rfl⟩,.seq hj (xs:=[]) (.set (.az (.r fun _=>rfl) (by
     rw[(hf k).2,<-hq];exact .md (.add (.fd (.r fun _=>rfl) (.r fun _=>rfl) (by decide)) (.mul (.r fun _=>rfl) (.add (.r fun _=>rfl) (.md (.fd (.r fun _=>rfl) (.r fun _=>rfl) (by decide)) (.r fun _=>rfl) (by decide))) (UR (by omega)))) (.r fun _=>rfl) (by decide)) (hf k).1)) (.one (.app rfl (.ct (.ct (.tk m2 (.r fun _=>rfl) (.r fun _=>rfl)) (.r fun _=>rfl) ?_) (.dp m2 (.r fun _=>rfl) (by rw[show((t+1:Nat):Int)=(t:Int)+1 by omega];exact .add (.r fun _=>rfl) (.r fun _=>rfl))) ?_)))⟩
    ·rw[<-len_list,<-len_list,Yv,lt];show t+1<=_;unfold Zc;omega
    ·rw[<-len_list,<-len_list,Zi,aK,Yv,We,lt,ld];show t+1+_<=_;unfold Zc;omega
   ·obtain⟨y8,y3,rfl⟩:=hI
    have ex:xs=((List.range 5).map nm).map D.str:=by
     apply List.ext_getElem?
     intro t';rw[bI,aU];by_cases h:t' < 5
     ·rw[dQ h,Lg (by omega),hx t' _ (Lg (by omega))];rfl
     ·rw[cY (by omega),cY (by rw[bX];omega)];rfl
    subst ex;refine .retL (s:=st') (.v hj (.r fun _=>rfl)) .refl fun s' j b g' hj=>⟨j,b,_,UW (g:=nm) (fun k hk=>⟨fun c hc=>?_,?_,?_⟩) (fun i j hi hj z=>?_),rfl,hj⟩
    ·rw[nl]at hc
     rcases aS.mp hc with hc|hc
     ·rcases aS.mp hc with hc|hc
      ·exact c2 c (eF hc)
      ·have:=(hf k).1;rw[bG.mp hc];omega
     ·exact c2 c (List.mem_of_mem_drop hc)
    ·rw[<-len_list,nl,aK,aK];show 1<=_+1+_;omega
    ·rw[<-len_list,nl,aK,aK,lt,ld];show t+1+_<=8;omega
    ·have z:=congrArg (fun x:Str=>x.cps.toList) z
     have z:(nm i).cps.toList=(nm j).cps.toList:=z;rw[nl,nl,aM,aM]at z;have z:=List.append_cancel_left z;have:97+f i=97+f j:=by injection z
     have h1:=(hf i).2;have h2:=(hf j).2;exact ZfL (a:=w / 256) (st:=q) (by omega) (by omega) hi hj (by rw[<-h1,<-h2];omega)
end
section
variable {n:Nat}{x:Str}{m:Int}{c:Int}{i t:Nat}
def nuS(c:Int):Str:=Str.ofString (toString c)
theorem Uf{m:Nat}:(toString m).toList=Nat.toDigits 10 m:=by
 show(Nat.repr m).toList=_;rw[Nat.toList_repr]
def dgl(n:Nat):Li Nat:=(Nat.toDigits 10 n).map Char.toNat
theorem Wg:∀ c∈dgl n,WH c=true:=by
 intro c hc;obtain⟨ch,hch,rfl⟩:=bC.mp hc;have h:=Nat.isDigit_of_mem_toDigits (by decide) (by decide) hch
 unfold Char.isDigit at h;simp only[Ba,bE]at h;have h1:48<=ch.val.toNat:=h.1;have h2:ch.val.toNat<=57:=h.2;unfold WH;rw[Ba,bE,bE];exact⟨h1,h2⟩
theorem Vh:0 < (dgl n).length:=by unfold dgl;rw[aJ];exact Nat.length_toDigits_pos
theorem Vg{k:Nat}(hk:1<=k)(h:n < 10 ^ k):(dgl n).length<=k:=by
 unfold dgl;rw[aJ];exact PyProof.Rows.digits10_le hk h
theorem Vi:dgV (dgl n)=n:=by
 have h:=Nat.ofDigitChars_ten_toDigits (n:=n);rw[Nat.ofDigitChars_eq_foldl]at h;unfold dgV dgl;rw[List.foldl_map];refine Eq.trans ?_ h
 congr 1
 funext a ch
 show a * 10+(ch.toNat - 48)=10 * a+(ch.toNat - '0'.toNat);rw[Nat.mul_comm];rfl
theorem Zgo:∀ n,n < 10->0 < n->¬(Nat.digitChar n).toNat=48:=by decide
theorem Wh:∀ (k n:Nat),n<=k->0 < n->(dgl n).head?≠some 48
 |0,n,h,h0=>by omega
 |k+1,n,h,h0=>by
  unfold dgl;by_cases c:n < 10
  ·rw[Nat.toDigits_of_lt_base c]
   intro e;exact Zgo n c h0 (Option.some.inj e)
  ·rw[Nat.toDigits_of_base_le (by decide) (by omega),cD,List.head?_append]
   have h2:=Wh k (n / 10) (by omega) (by omega)
   unfold dgl at h2;have h3:0 < ((Nat.toDigits 10 (n / 10)).map Char.toNat).length:=Vh;cases e:(Nat.toDigits 10 (n / 10)).map Char.toNat with
   |nil=>rw[e]at h3;exact absurd h3 (by decide)
   |cons a l=>rw[e]at h2;exact h2
theorem XJ:(nuS (n:Int)).cps.toList=dgl n:=by
 unfold nuS dgl;rw[Str.ofString_eq_toList];show(((toString n).toList.map Char.toNat).toArray).toList=_;rw[List.toList_toArray,Uf]
theorem Vw:(nuS (Int.negSucc n)).cps.toList=45 :: dgl (n+1):=by
 unfold nuS dgl;rw[Str.ofString_eq_toList];show(((toString (Int.negSucc n)).toList.map Char.toNat).toArray).toList=_;have e:(toString (Int.negSucc n)).toList='-' :: Nat.toDigits 10 (n+1):=by
  show("-"++toString (n+1)).toList=_;rw[String.toList_append,Uf];rfl
 rw[List.toList_toArray,e,aT];rfl
theorem Vl{k:Nat}(e:x.cps.toList=dgl n)(hk:1<=k)(h:n < 10 ^ k):XF x (k:Int)=true:=by
 have l1:x.length=(dgl n).length:=by rw[<-len_list,e]
 have l2:=Vg hk h;have l3:=Vh (n:=n);unfold XF mdB;rw[Ba,Ba,Ba,bE,bE,bP];refine⟨⟨⟨by omega,by omega⟩,fun w hw=>?_⟩,?_⟩
 ·unfold chS at hw
  rw[e]at hw;obtain⟨c,hc,rfl⟩:=bC.mp hw;have d:=Wg c hc;have d2:=d;unfold WH at d2;rw[Ba,bE,bE]at d2;rw[Zaf c (by omega)]
  exact d
 ·unfold fz
  rw[e];by_cases h0:n=0
  ·subst h0;rfl
  ·have h2:=Wh n n (aE _) (by omega)
   cases q:dgl n with
   |nil=>rw[q]at l3;exact absurd l3 (by decide)
   |cons a l=>
    rw[q]at h2;have:a≠48:=fun z=>h2 (by rw[z];rfl)
    show(!(a==48)||l.isEmpty)=true;rw[bQ.mpr this];rfl
theorem VU{r:Li Nat}:dgl n≠45 :: r:=by
 intro e;have:=Wg (n:=n) 45 (by rw[e];exact lQ7)
 exact absurd this (by decide)
theorem Za1:ngB (nuS (n:Int))=false:=by
 unfold ngB;rw[XJ];cases q:dgl n with
 |nil=>rfl
 |cons a l=>
  have:a≠45:=fun z=>VU (n:=n) (r:=l) (by rw[q,z])
  show(some a==some 45)=false;simp[this]
theorem QH:(x=S "-0")->x.cps.toList=[45,48]:=fun h=>by rw[h];rfl
theorem YQ(h:Sm c):ZG (nuS c)=.int c:=by
 obtain⟨h1,h2⟩:=h;have ar:YB c=c:=by unfold YB;omega
 cases c with
 |ofNat k=>
  have h2:(k:Int)<=999999999:=h2;have ar:YB (k:Int)=(k:Int):=ar;show ZG (nuS (k:Int))=.int (k:Int);have e:=XJ (n:=k);have v:vlI (nuS (k:Int))=(k:Int):=by unfold vlI;rw[Za1,if_neg Bf,e,Vi]
  have b:bdS (nuS (k:Int))=nuS (k:Int):=by unfold bdS;rw[Za1,if_neg Bf]
  unfold ZG;rw[if_neg (fun z=>VU (n:=k) (r:=[48]) (by rw[<-e,QH z])),b,v,if_pos ⟨Vl (k:=10) e (by decide) (by omega),ar⟩]
 |negSucc k=>
  have h1:(-1000000000:Int)<=-((k:Int)+1):=h1;have e:=Vw (n:=k);have g:ngB (nuS (Int.negSucc k))=true:=by unfold ngB;rw[e];rfl
  have e2:(tlS (nuS (Int.negSucc k))).cps.toList=dgl (k+1):=by rw[Xv,e];rfl
  have n0:¬nuS (Int.negSucc k)=S "-0":=fun z=>by
   have:=QH z;rw[e]at this;have h3:=Wh (k+1) (k+1) (aE _) (by omega)
   rw[List.cons.injEq]at this;rw[this.2]at h3;exact h3 rfl
  have v:vlI (nuS (Int.negSucc k))=Int.negSucc k:=by unfold vlI;rw[g,if_pos rfl,e2,Vi,Int.negSucc_eq];congr 1
  have b:bdS (nuS (Int.negSucc k))=tlS (nuS (Int.negSucc k)):=by unfold bdS;rw[g,if_pos rfl]
  unfold ZG;rw[if_neg n0,b,v,if_pos ⟨Vl (k:=10) e2 (by decide) (by omega),ar⟩]
theorem Uj(h:t < 100):plD (nuS (t:Int))=.int (t:Int):=by
 have e:=XJ (n:=t);unfold plD;rw[if_pos (show XF (nuS (t:Int)) 2=true from Vl (k:=2) e (by decide) (by omega)),e,Vi]
theorem Zgi:∀ c,c < 58->Jy AZ ⟨#[c]⟩=false:=by decide +kernel
theorem Zbc:∃ a l,(nuS c).cps.toList=a :: l/\a < 58:=by
 cases c with
 |ofNat k=>
  have e:=XJ (n:=k);have l3:=Vh (n:=k);cases q:dgl k with
  |nil=>rw[q]at l3;exact absurd l3 (by decide)
  |cons a l=>
   have:=Wg (n:=k) a (by rw[q];exact lQ7)
   unfold WH at this;rw[Ba,bE,bE]at this;exact⟨a,l,e.trans q,by omega⟩
 |negSucc k=>exact⟨45,_,Vw,by decide⟩
theorem QK:nmB (nuS c)=false:=by
 obtain⟨a,l,e,h⟩:=Zbc (c:=c);unfold nmB mdB chS;rw[e,aT,bK,Zgi a h,dL,Bool.and_false]
theorem Zbb:∀ a∈(nuS c).cps.toList,a < 58/\45<=a:=by
 intro a ha;cases c with
 |ofNat k=>
  rw[show nuS (Int.ofNat k)=nuS (k:Int) from rfl,XJ]at ha;have:=Wg a ha;unfold WH at this;rw[Ba,bE,bE]at this;omega
 |negSucc k=>
  rw[Vw]at ha;rcases aG.mp ha with rfl|ha
  ·omega
  ·have:=Wg a ha
   unfold WH at this;rw[Ba,bE,bE]at this;omega
theorem ZdM(h:(nuS c).length<=13):Wd (nuS c):=⟨by omega,fun a ha=>by have:=Zbb a ha;omega⟩
theorem Vv(h:Sm c):(nuS c).length<=12:=by
 rw[<-len_list];obtain⟨h1,h2⟩:=h;cases c with
 |ofNat k=>
  have h2:(k:Int)<=999999999:=h2;rw[show nuS (Int.ofNat k)=nuS (k:Int) from rfl,XJ];have:=Vg (n:=k) (k:=10) (by decide) (by omega)
  omega
 |negSucc k=>
  have h1:(-1000000000:Int)<=-((k:Int)+1):=h1;rw[Vw,aR];have:=Vg (n:=k+1) (k:=10) (by decide) (by omega)
  omega
theorem Zbd:Vis (nuS c):=fun a ha=>by have:=Zbb a ha;omega
end
def lnS(ws:Li Str):Str:=⟨(ZL (S " ") ws).toArray⟩
def wdO(N:Li Str):Op->Str
 |.nm i=>N.getD i (S "")
 |.nu v=>nuS v
def rwW(N:Li Str):Rw->Li Str
 |.put x y g z=>[S "put",N.getD x (S ""),wdO N y,g,wdO N z]
 |.ifr y g z t=>[S "if",wdO N y,g,wdO N z,S "go",nuS (t:Int)]
 |.go t=>[S "go",nuS (t:Int)]
 |.tell y=>[S "tell",wdO N y]
 |.skip=>[S "skip"]
section
variable {F:Nat->Fn}{s st:Za}{e a b:CE}{ρ:Env}{n w i j k:Nat}{x y z g:Str}{N:Li Str}{m:Bool}{o:Op}{r:Rw}{sz:Nat}
structure Tx(F:Nat->Fn)(s:Za)(ρ:Env)(j:Nat)(e:CE)(x:Str):Prop where
 y:Y F s e ρ (.str x)
 l:x.length<=j
theorem Y.fin{ws:Li Str}(h:Y F s e ρ (.str x))(k:x.cps.toList=ZL (S " ") ws):Y F s e ρ (.str (lnS ws)):=by
 rw[show lnS ws=x from YX (by rw[k];rfl)]
 exact h
theorem ZT:(S "put ").cps.toList=(S "put").cps.toList++(S " ").cps.toList/\(S "if ").cps.toList=(S "if").cps.toList++(S " ").cps.toList/\(S "go ").cps.toList=(S "go").cps.toList++(S " ").cps.toList/\(S "tell ").cps.toList=(S "tell").cps.toList++(S " ").cps.toList/\(S " go ").cps.toList=(S " ").cps.toList++((S "go").cps.toList++(S " ").cps.toList)/\(S "take ").cps.toList=(S "take").cps.toList++(S " ").cps.toList/\(S "name ").cps.toList=(S "name").cps.toList++(S " ").cps.toList:=by decide +kernel
theorem Vd:(x++y).length=x.length+y.length:=by rw[<-len_list,Zi,aK,len_list,len_list]
theorem Tx.add(ha:Tx F s ρ j a x)(hb:Tx F s ρ k b y)(h:j+k<=1000:=by decide):Tx F s ρ (j+k) (.bin .Add a b) (x++y):=by
 have h1:=ha.l;have h2:=hb.l;exact⟨.ct ha.y hb.y (by unfold Zc;omega),by rw[Vd];omega⟩
theorem Tx.c(h:x.length<=12:=by decide +kernel):Tx F s ρ 12 (.cst (.str x)) x:=⟨.r fun _=>rfl,h⟩
theorem Zz(hN:Nms N)(h:i < 5):N[i]?=some (N.getD i (S ""))/\Lw (N.getD i (S "")):=by
 have hl:=hN.l;have e:N[i]?=some (N.getD i (S "")):=by rw[dI,Lg (by omega)];rfl
 exact⟨e,hN.lw _ (aV e)⟩
theorem Tx.nu{v:Int}(h:Sm v)(he:Y F s e ρ (.int v)):Tx F s ρ 12 (.strOf e) (nuS v):=⟨g1 he (gp fun st=>if_pos (UR (by have:=h.1;have:=h.2;omega))),Vv h⟩
variable (hN:Nms N) (hs:s[w]?=some (m,N.map D.str))
include hN hs
theorem Tx.nm(ha:Y F s a ρ (.lst w))(hb:Y F s b ρ (.int (i:Int)))(h:i < 5):Tx F s ρ 12 (.ix a b) (N.getD i (S "")):=by
 obtain⟨e,hl⟩:=Zz hN h;exact⟨.ixl (j:=i) hs ha hb (by rw[aU,e];rfl),aH hl.hi (by decide)⟩
theorem ZdV(h:OpOk 5 o):C (run T (n+1)) s 214 [opE o,.lst w] (.str (wdO N o)):=by
 cases o with
 |nm i=>exact .of (v:=c__law_word) rfl rfl (.yes (.r fun _=>rfl) (Tx.nm hN hs (.r fun _=>rfl) (.r fun _=>rfl) h).y)
 |nu v=>exact .of (v:=c__law_word) rfl rfl (.no (.r fun _=>rfl) (.ret (Tx.nu h (.r fun _=>rfl)).y))
theorem Zfb(h:OpOk 5 o):(wdO N o).length<=12:=by
 cases o with
 |nm i=>exact aH (Zz hN h).2.hi (by decide)
 |nu v=>exact Vv h
theorem Tx.wd{c:CE}(h:OpOk 5 o)(ha:Y F s a ρ (opE o))(hb:Y F s b ρ (.lst w))(hF:F=run T (n+1)):Tx F s ρ 12 (.call 214 (.aC a (.aC b .aN)) []) (wdO N o):=by
 subst hF;exact⟨.call (xs:=[opE o,.lst w]) (.cons ha (.cons hb .nil)) (ZdV hN hs h),Zfb hN hs h⟩
theorem Zbw(h:g∈psL\/g∈isL):g.length<=12:=by
 have:∀ x∈psL++isL,x.length<=12:=by decide +kernel
 exact this g (aS.mpr h)
omit hs hN in
theorem OpOk.up{m:Nat}(hm:m<=5)(h:OpOk m o):OpOk 5 o:=by
 cases o with
 |nm i=>exact aQ h hm
 |nu v=>exact h
theorem JM{m':Nat}(hm:m'<=5)(hz:sz<=50)(h:Vb m' sz r):C (run T (n+2)) s 221 [rwE r,.lst w] (.str (lnS (rwW N r))):=by
 cases r with
 |put x y g z=>
  obtain⟨hx,hy,hg,hz'⟩:=h;have t1:=((((Tx.c (F:=run T (n+1)) (s:=s) (ρ:=[some (rwE (.put x y g z)),some (.lst w),none]) (x:=S "put ")).add (Tx.nm hN hs (a:=.var 1) (b:=.ix (.var 0) (.cst (.int 1))) (i:=x) (.r fun _=>rfl) (.r fun _=>rfl) (by omega))).add (Tx.c (x:=S " "))).add (Tx.wd hN hs (c:=.nop) (a:=.ix (.var 0) (.cst (.int 2))) (b:=.var 1) (hy.up hm) (.r fun _=>rfl) (.r fun _=>rfl) rfl)).add (Tx.c (x:=S " ")) |>.add (⟨.r fun _=>rfl,Zbw hN hs (.inl hg)⟩:Tx _ _ _ 12 (.ix (.var 0) (.cst (.int 3))) g)
  refine .of (v:=c__law_line) rfl rfl (.yB (.r fun _=>rfl) (.set t1.y (.ret ?_)))
  have t2:=(⟨.r fun _=>rfl,t1.l⟩:Tx (run T (n+1)) s (Zj [some (rwE (.put x y g z)),some (.lst w),none] 2 (.str _)) _ (.var 2) _)
  have t3:=(t2.add (Tx.c (x:=S " "))).add (Tx.wd hN hs (c:=.nop) (a:=.ix (.var 0) (.cst (.int 4))) (b:=.var 1) (hz'.up hm) (.r fun _=>rfl) (.r fun _=>rfl) rfl)
  refine t3.y.fin ?_;simp only[Zi,ZT.1,rwW,ZL,Zu,aM,aP]
 |ifr y g z t=>
  obtain⟨hy,hg,hz',ht⟩:=h;have t1:=((((Tx.c (F:=run T (n+1)) (s:=s) (ρ:=[some (rwE (.ifr y g z t)),some (.lst w),none]) (x:=S "if ")).add (Tx.wd hN hs (c:=.nop) (a:=.ix (.var 0) (.cst (.int 1))) (b:=.var 1) (hy.up hm) (.r fun _=>rfl) (.r fun _=>rfl) rfl)).add (Tx.c (x:=S " "))).add (⟨.r fun _=>rfl,Zbw hN hs (.inr hg)⟩:Tx _ _ _ 12 (.ix (.var 0) (.cst (.int 2))) g)).add (Tx.c (x:=S " ")) |>.add (Tx.wd hN hs (c:=.nop) (a:=.ix (.var 0) (.cst (.int 3))) (b:=.var 1) (hz'.up hm) (.r fun _=>rfl) (.r fun _=>rfl) rfl)
  refine .of (v:=c__law_line) rfl rfl (.no (.r fun _=>rfl) (.yB (.r fun _=>rfl) (.set t1.y (.ret ?_))))
  have t2:=(⟨.r fun _=>rfl,t1.l⟩:Tx (run T (n+1)) s (Zj [some (rwE (.ifr y g z t)),some (.lst w),none] 2 (.str _)) _ (.var 2) _)
  have t3:=(t2.add (Tx.c (x:=S " go "))).add (Tx.nu (e:=.ix (.var 0) (.cst (.int 4))) (v:=(t:Int)) ⟨by omega,by omega⟩ (.r fun _=>rfl))
  refine t3.y.fin ?_;simp only[Zi,ZT.2.1,ZT.2.2.2.2.1,rwW,ZL,Zu,aM,aP]
 |go t=>
  have t1:=(Tx.c (F:=run T (n+1)) (s:=s) (ρ:=[some (rwE (.go t)),some (.lst w),none]) (x:=S "go ")).add (Tx.nu (e:=.ix (.var 0) (.cst (.int 1))) (v:=(t:Int)) ⟨by have:t<=sz:=h;omega,by have:t<=sz:=h;omega⟩ (.r fun _=>rfl))
  refine .of (v:=c__law_line) rfl rfl (.no (.r fun _=>rfl) (.no (.r fun _=>rfl) (.yes (.r fun _=>rfl) (t1.y.fin ?_))))
  simp only[Zi,ZT.2.2.1,rwW,ZL,Zu,aM,aP]
 |tell y=>
  have t1:=(Tx.c (F:=run T (n+1)) (s:=s) (ρ:=[some (rwE (.tell y)),some (.lst w),none]) (x:=S "tell ")).add (Tx.wd hN hs (c:=.nop) (a:=.ix (.var 0) (.cst (.int 1))) (b:=.var 1) (OpOk.up hm h) (.r fun _=>rfl) (.r fun _=>rfl) rfl)
  refine .of (v:=c__law_line) rfl rfl (.no (.r fun _=>rfl) (.no (.r fun _=>rfl) (.no (.r fun _=>rfl) (.yes (.r fun _=>rfl) (t1.y.fin ?_)))))
  simp only[Zi,ZT.2.2.2.1,rwW,ZL,Zu,aM,aP]
 |skip=>
  exact .of (v:=c__law_line) rfl rfl (.no (.r fun _=>rfl) (.no (.r fun _=>rfl) (.no (.r fun _=>rfl) (.no (.r fun _=>rfl) (.ret (Y.fin (x:=S "skip") (.r fun _=>rfl) (aP _).symm))))))
end
def hdW(N:Li Str)(p:Pg)(k:Nat):Li Str:=match p.tk[k]? with
 |some t=>[S "take",N.getD k (S ""),nuS t.1,nuS t.2]
 |none=>[S "name",N.getD k (S "")]
def lnL(N:Li Str)(p:Pg):Li (Li Str):=(List.range p.m).map (hdW N p)++p.rw.map (rwW N)
section
variable {F:Nat->Fn}{s st:Za}{e a b:CE}{ρ:Env}{n w i j k:Nat}{x y z g:Str}{N:Li Str}{m:Bool}{p:Pg}{sz:Nat}
theorem Ap.set2{u v:D}(h:Y F s e ρ (.tup [u,v])):Ap F s j (.set2 i i' e) ρ (Zj (Zj ρ i u) i' v) []:=fun st acc g hk hl=>by
 obtain⟨s1,e1,k1⟩:=h st g;exact⟨s1,by show Uq i i' (ev F e) ρ st=_;unfold Uq;rw[e1],k1.kj,by rw[aP];exact k1.get hk⟩
theorem Y.lent(ha:Y F s a ρ (.tup xs)):Y F s (.len a) ρ (.int (xs.length:Int)):=g1 ha (gp fun st=>rfl)
theorem Zcf{f:Nat->D}{M:Nat}(hl:xs.length=M)(h:∀ t d,xs[t]?=some d->d=f t):xs=(List.range M).map f:=by
 apply List.ext_getElem?
 intro t;rw[aU];by_cases ht:t < M
 ·rw[dQ ht,Lg (by omega),h t _ (Lg (by omega))];rfl
 ·rw[cY (by omega),cY (by rw[bX];omega)];rfl
variable (hN:Nms N) (hs:st[w]?=some (m,N.map D.str))
include hN hs
theorem ZbQ(hp:PgOk sz p)(hz:sz<=12):CP (run T (n+3)) 250 [pgE p,.lst w] st (fun d st'=>∃ j b,d=.lst j/\st'[j]?=some (b,((lnL N p).map lnS).map D.str)):=by
 have m5:=hp.m5;refine .of (v:=c__law_lines) rfl rfl (.fill (s:=st) (N:=p.m) (v:=(p.m:Int)) (I:=fun j ρ=>∃ y3 y4 y5,ρ=[some (pgE p),some (.lst w),some (.lst j),y3,y4,y5]) (P:=fun k d=>d=.str (lnS (hdW N p k))) (fun j=>.r fun _=>rfl) rfl (by omega) (fun j=>⟨_,_,_,rfl⟩) .refl (fun j hj k hk ρ hI=>?_) fun j xs ρ' st' hl hx hI g1 hj=>?_)
 ·obtain⟨y3,y4,y5,rfl⟩:=hI
  have nm:∀ {y4 y5:Ot D},Tx (run T (n+2)) st [some (pgE p),some (.lst w),some (.lst j),some (.int (k:Int)),y4,y5] 12 (.ix (.var 1) (.var 3)) (N.getD k (S "")):=Tx.nm hN hs (.r fun _=>rfl) (.r fun _=>rfl) (by omega)
  have c:∀ {y4 y5:Ot D},Y (run T (n+2)) st (.cmp .Lt (.var 3) (.len (.ix (.var 0) (.cst (.int 0))))) [some (pgE p),some (.lst w),some (.lst j),some (.int (k:Int)),y4,y5] (.bl (decide (k < p.tk.length))):=fun {y4 y5}=>.cmp (.r fun _=>rfl) (.lent (xs:=p.tk.map tkE) (.r fun _=>rfl)) fun _=>by
   show some (decide ((k:Int) < ((p.tk.map tkE).length:Int)))=_;rw[aJ,Wf]
  by_cases h:k < p.tk.length
  ·have e:p.tk[k]?=some p.tk[k]:=Lg h
   obtain⟨h1,h2,_⟩:=hp.tk _ (cB h);refine⟨_,_,rfl,⟨some (.int (k:Int)),some (.int p.tk[k].1),some (.int p.tk[k].2),rfl⟩,.one (.ite c ?_)⟩;rw[aF h];refine .seq hj (xs:=[]) (.set2 (.ixt (xs:=p.tk.map tkE) (j:=k) (.r fun _=>rfl) (.r fun _=>rfl) (by rw[aU,e];rfl))) (.one (.app rfl ?_))
   refine((((((Tx.c (x:=S "take ")).add nm).add (Tx.c (x:=S " "))).add (Tx.nu (e:=.var 4) h1 (.r fun _=>rfl))).add (Tx.c (x:=S " "))).add (Tx.nu (e:=.var 5) h2 (.r fun _=>rfl))).y.fin ?_
   unfold hdW;simp only[Zi,ZT.2.2.2.2.2.1,e,ZL,Zu,aM,aP]
  ·refine⟨_,_,rfl,⟨some (.int (k:Int)),y4,y5,rfl⟩,.one (.ite c ?_)⟩
   rw[aL h];refine .one (.app rfl (((Tx.c (x:=S "name ")).add nm).y.fin ?_));have e:p.tk[k]?=none:=cY (by omega)
   unfold hdW;simp only[Zi,ZT.2.2.2.2.2.2,e,ZL,Zu,aM,aP]
 ·obtain⟨y3,y4,y5,rfl⟩:=hI
  have:=Zcf hl hx;subst this;refine .retL (s:=st') (.cat (.v hj (.r fun _=>rfl)) (ys:=p.rw.map fun r=>.str (lnS (rwW N r))) (XU (b:=one) (en:=rwE) (g:=fun r=>.str (lnS (rwW N r))) (.of (x:=.tup (p.rw.map rwE)) (.r fun _=>rfl) fun _=>rfl) (by have:=hp.r;omega) fun r hr=>.call (xs:=[rwE r,.lst w]) (.r fun _=>rfl) (Gv.mono (JM hN hs m5 (by have:=hp.r;omega) (hp.ro r hr)) g1)) ?_) .refl fun s' j b g' hj'=>⟨j,b,rfl,?_⟩
  ·rw[aJ,aJ,bX];have:=hp.r;unfold Zc;omega
  ·rw[hj']
   unfold lnL;rw[cD,cD,bI,bI,bI,bI];rfl
end
def Yl(v:Int)(i:Nat)(x:Str):Li Str:=if v / (3+2 * (i:Int)) % 9 < 3 then List.replicate (1+v / (5+(i:Int)) % 3).toNat ([S "",S "#",S "#"++x].getD (v / (3+2 * (i:Int)) % 9).toNat (S "")) else []
def spG(v:Int):Nat->Li Str->Li Str
 |_,[]=>[]
 |i,x :: l=>(x :: Yl v i x)++spG v (i+1) l
def spS(v:Int)(l:Li Str):Li Str:=List.replicate (v % 3).toNat (S "")++spG v 0 l
theorem QV{v:Int}:∀ {l m:Li Str}{i:Nat},spG v i (l++m)=spG v i l++spG v (i+l.length) m
 |[],m,i=>rfl
 |x :: l,m,i=>by
  show(x :: Yl v i x)++spG v (i+1) (l++m)=(x :: Yl v i x)++spG v (i+1) l++spG v (i+(l.length+1)) m;rw[QV,aM,show i+1+l.length=i+(l.length+1) by omega]
theorem QM{v:Int}{i:Nat}{x:Str}:(Yl v i x).length<=3:=by
 unfold Yl;split
 ·rw[cV];have:=Zh (v / (5+(i:Int))) (j:=3) (by decide);omega
 ·exact bH _
section
variable {F:Nat->Fn}{s st:Za}{e a b:CE}{ρ:Env}{d:D}{n w i j k:Nat}{x:Str}{L:Li Str}{m:Bool}{v:Int}{xs ys:Li D}
def Lt(s:Za)(f:Za->Res)(xs:Li D):Prop:=∀ st,Grw s st->∃ st' j,f st=some (.lst j,st')/\st'[j]?=some (true,xs)/\Grw st st'/\st.length<=j
theorem Lt.rep{k:Int}(h:Y F s e ρ d)(hb:Y F s b ρ (.int k))(hk:k<=1000/\-1000<=k):Lt s (ev F (.bin .Mult (.lstE (.aC e .aN)) b) ρ) (List.replicate k.toNat d):=fun st g=>by
 obtain⟨s1,e1,k1⟩:=h st g;have e2:ev F (.lstE (.aC e .aN)) ρ st=some (.lst s1.length,s1++[(true,[d])]):=by
  show Zm (Zn (ev F e) (ev F .aN) _) Jv ρ st=_;unfold Zm Zn;rw[e1];rfl
 obtain⟨s3,e3,k3⟩:=hb _ (g.trans (k1.trans (Grw.push (t:=(true,[d])))));refine⟨s3++[(true,List.replicate k.toNat d)],s3.length,?_,ZF,(k1.trans (Grw.push.trans k3)).trans .push,(k1.trans (Grw.push.trans k3)).len⟩;show Zn (ev F (.lstE (.aC e .aN))) (ev F b) (VL .Mult) ρ st=_;unfold Zn;simp only[e2,e3];show ZcM s1.length k s3=_;unfold ZcM;rw[k3.get ZF];exact if_pos hk
theorem Lt.cat(ha:Lv s (ev F a ρ) xs)(hb:Lt s (ev F b ρ) ys)(hl:xs.length+ys.length<=Zc):Lt s (ev F (.bin .Add a b) ρ) (xs++ys):=fun st g=>by
 obtain⟨s1,j1,m1,e1,h1,k1⟩:=ha st g;obtain⟨s2,j2,e2,h2,k2,_⟩:=hb s1 (g.trans k1);refine⟨s2++[(true,xs++ys)],_,?_,ZF,(k1.trans k2).trans .push,(k1.trans k2).len⟩;show Zn (ev F a) (ev F b) (VL .Add) ρ st=_;unfold Zn;simp only[e1,e2];show Jf j1 j2 s2=_;unfold Jf;simp only[k2.get h1,h2];exact if_pos hl
variable (hs:s[w]?=some (m,L.map D.str)) (hL:∀ x∈L,x.length<=900) (hn:L.length<=100)
include hs hL hn
theorem Zdg{y3 y4:Ot D}(hx:L[i]?=some x)(g:Grw s st)(hj:s.length<=j)(h:st[j]?=some (true,acc))(ha:acc.length<=3+4 * i):∃ y4' j' st',ex F ZP [some (.lst w),some (.int v),some (.lst j),some (.int (i:Int)),y4] st=some (.nx [some (.lst w),some (.int v),some (.lst j'),some (.int (i:Int)),y4'],st')/\Grw s st'/\s.length<=j'/\st'[j']?=some (true,acc++(x :: Yl v i x).map D.str):=by
 have hi:=ZR hx;have xl:=hL x (aV hx);have yx:∀ {st1 y2 y4},Grw s st1->Y F st1 (.ix (.var 0) (.var 3)) [some (.lst w),some (.int v),y2,some (.int (i:Int)),y4] (.str x):=fun g=>.ixl (j:=i) (g.get hs) (.r fun _=>rfl) (.r fun _=>rfl) (by rw[aU,hx];rfl)
 obtain⟨s1,e1,k1,h1⟩:=Ap.app (F:=F) (s:=s) (j:=j) (i:=2) (ρ:=[some (.lst w),some (.int v),some (.lst j),some (.int (i:Int)),y4]) rfl (yx .refl) st acc g h (by show _+1<=900;omega)
 have g1:=k1.grw hj g;obtain⟨q,hq⟩:∃ q,v / (3+2 * (i:Int)) % 9=q:=⟨_,rfl⟩;obtain⟨r,hr⟩:∃ r,1+v / (5+(i:Int)) % 3=r:=⟨_,rfl⟩;have q9:=Zh (v / (3+2 * (i:Int))) (j:=9) (by decide)
 have r3:=Zh (v / (5+(i:Int))) (j:=3) (by decide)
 obtain⟨s2,e2,k2⟩:∃ s2,ev F (.bin .Mod (.bin .FloorDiv (.var 1) (.bin .Add (.cst (.int 3)) (.bin .Mult (.cst (.int 2)) (.var 3)))) (.cst (.int 9))) [some (.lst w),some (.int v),some (.lst j),some (.int (i:Int)),y4] s1=some (.int q,s2)/\Grw s1 s2:=by
  rw[<-hq];exact Y.md (s:=s1) (.fd (.r fun _=>rfl) (.add (.r fun _=>rfl) (.mul (.r fun _=>rfl) (.r fun _=>rfl) (UR (by omega)))) (by omega)) (.r fun _=>rfl) (by decide) s1 .refl
 have g2:=g1.trans k2;have h2:=k2.get h1;have j1:s1.length<=s1.length:=aE _;unfold Yl;rw[hq,hr];by_cases h3:q < 3
 ·rw[if_pos h3]
  have qn:∃ qn:Nat,q=(qn:Int):=⟨q.toNat,by omega⟩
  obtain⟨qn,rfl⟩:=qn;have hg:([S "",S "#",S "#"++x].map D.str)[qn]?=some (.str ([S "",S "#",S "#"++x].getD qn (S ""))):=by
   have:qn < 3:=by omega
   rw[aU,dI,Lg this];rfl
  have s1':(S "#").length=1:=by decide +kernel
  have yh:Y F s2 (.bin .Add (.cst (.str (S "#"))) (.ix (.var 0) (.var 3))) [some (.lst w),some (.int v),some (.lst j),some (.int (i:Int)),some (.int (qn:Int))] (.str (S "#"++x)):=.ct (.r fun _=>rfl) (yx g2) (by unfold Zc;omega)
  have yl:=Lv.mk (F:=F) (s:=s2) (.cons (a:=.cst (.str (S ""))) (.r fun _=>rfl) (.cons (a:=.cst (.str (S "#"))) (.r fun _=>rfl) (.cons yh .nil)))
  have yr:=Lt.rep (k:=r) (b:=.bin .Add (.cst (.int 1)) (.bin .Mod (.bin .FloorDiv (.var 1) (.bin .Add (.cst (.int 5)) (.var 3))) (.cst (.int 3)))) (.ixL (b:=.var 4) yl (.r fun _=>rfl) hg) (by rw[<-hr];exact .add (.r fun _=>rfl) (.md (.fd (.r fun _=>rfl) (.add (.r fun _=>rfl) (.r fun _=>rfl)) (by omega)) (.r fun _=>rfl) (by decide))) (by omega)
  obtain⟨s3,j3,e3,h3',k3,l3⟩:=Lt.cat (a:=.var 2) (xs:=acc++[.str x]) (.v h2 (.r fun _=>rfl)) yr (by rw[aK,cV];show _+1+_<=_;unfold Zc;omega) s2 .refl
  refine⟨some (.int (qn:Int)),j3,s3,?_,g2.trans k3,aH (aH g2.len (aE _)) l3,?_⟩
  ·exact(Zg e1).trans ((Zg (Y3 e2)).trans ((Zg ((YG (st':=s2) (by show some (D.bl (decide ((qn:Int) < 3)),s2)=_;rw[aF h3])).trans ((Zg (Y3 e3)).trans Zp))).trans Zp))
  ·rw[h3',aM,aT,List.map_replicate,bS];rfl
 ·rw[if_neg h3]
  exact⟨some (.int q),j,s2,(Zg e1).trans ((Zg (Y3 e2)).trans ((Zg ((XN (st':=s2) (by show some (D.bl (decide (q < 3)),s2)=_;rw[aL h3])).trans Zp)).trans Zp)),g2,hj,h2⟩
theorem QW:∀ (M a:Nat),a+M=L.length->∀ {y3 y4:Ot D}{j:Nat}{st:Za}{acc:Li D},Grw s st->s.length<=j->st[j]?=some (true,acc)->acc.length<=3+4 * a->∃ y3' y4' j' st',Yx (fun d ρ st=>ex F ZP (Zj ρ 3 d) st) ((List.range' a M).map fun(k:Nat)=>D.int (k:Int)) [some (.lst w),some (.int v),some (.lst j),y3,y4] st=some (.nx [some (.lst w),some (.int v),some (.lst j'),y3',y4'],st')/\Grw s st'/\s.length<=j'/\st'[j']?=some (true,acc++(spG v a (L.drop a)).map D.str)
 |0,a,e,y3,y4,j,st,acc,g,hj,h,_=>⟨y3,y4,j,st,rfl,g,hj,by rw[dE (by omega),show spG v a []=[] from rfl,List.map_nil,aP];exact h⟩
 |M+1,a,e,y3,y4,j,st,acc,g,hj,h,hl=>by
  have ha:a < L.length:=by omega
  obtain⟨y4',j1,s1,e1,g1,hj1,h1⟩:=Zdg (F:=F) (v:=v) (y3:=y3) (y4:=y4) hs hL hn (Lg ha) g hj h hl;have:=QM (v:=v) (i:=a) (x:=L[a]);obtain⟨y3'',y4'',j2,s2,e2,g2,hj2,h2⟩:=QW M (a+1) (by omega) (y3:=some (.int (a:Int))) (y4:=y4') g1 hj1 h1 (by rw[aK,aJ,aR];omega)
  refine⟨y3'',y4'',j2,s2,?_,g2,hj2,?_⟩
  ·rw[List.range'_succ,aT]
   show(match ex F ZP [some (.lst w),some (.int v),some (.lst j),some (.int (a:Int)),y4] st with
    |some (.nx ρ',st')=>Yx _ _ ρ' st'
    |some (.ct ρ',st')=>Yx _ _ ρ' st'
    |some (.bk ρ',st')=>some (.nx ρ',st')
    |some (.rt v,st')=>some (.rt v,st')
    |none=>none)=_
   rw[e1];exact e2
  ·rw[h2,aM,<-cD,cN ha];rfl
theorem JN(g:Grw s st):CP (run T (n+1)) 254 [.lst w,.int v] st (fun d st'=>∃ j b,d=.lst j/\st'[j]?=some (b,(spS v L).map D.str)):=by
 have v3:=Zh v (j:=3) (by decide)
 obtain⟨s1,j1,e1,h1,k1,l1⟩:=Lt.rep (F:=run T n) (s:=s) (ρ:=[some (.lst w),some (.int v),none,none,none]) (e:=.cst (.str (S ""))) (b:=.bin .Mod (.var 1) (.cst (.int 3))) (k:=v % 3) (.r fun _=>rfl) (.md (.r fun _=>rfl) (.r fun _=>rfl) (by decide)) (by omega) st g
 have g1:=g.trans k1;obtain⟨y3,y4,j2,s2,e2,g2,hj2,h2⟩:=QW (F:=run T n) (v:=v) (s:=st) (g.get hs) hL hn L.length 0 (by omega) (y3:=none) (y4:=none) k1 l1 h1 (by rw[cV];omega)
 have e0:ev (run T n) (.len (.var 0)) [some (.lst w),some (.int v),some (.lst j1),none,none] s1=some (.int (L.length:Int),s1):=by
  show Yw (.lst w) s1=_;unfold Yw Uc;simp only[(g.trans k1).get hs,aJ]
 refine .of (v:=c__law_spread) rfl rfl ⟨.lst j2,s2,?_,g2,j2,true,rfl,?_⟩
 ·refine(Zg (Y3 e1)).trans ((Zg (ρ':=[some (.lst w),some (.int v),some (.lst j2),y3,y4]) (s':=s2) ?_).trans (Zt (W7 (by rfl))))
  refine(Qy (v:=(L.length:Int)) (by omega) (by omega) e0).trans ?_
  rw[bS,List.range_eq_range'];exact e2
 ·rw[h2]
  unfold spS;rw[cD,List.map_replicate];rfl
end
def ltL:Li Str:=[S "a",S "b",S "c",S "d",S "e",S "f"]
theorem ZfK:ltL.Nodup:=by decide +kernel
theorem Zbi:∀ {l M:Li Str},l.Nodup->(∀ x∈l,x∈M)->l.length<=M.length
 |[],M,_,_=>bH _
 |x :: l,M,h,k=>by
  have hx:=k x lQ7;have:=Zbi (l:=l) (M:=M.erase x) (cJ.mp h).2 fun y hy=>(List.mem_erase_of_ne fun(e:y=x)=>(cJ.mp h).1 (e ▸ hy)).mpr (k y (Lm _ hy))
  rw[List.length_erase_of_mem hx]at this;have:=List.length_pos_of_mem hx;rw[aR];omega
theorem QD{k:Str}:∀ {M:Li Str},Z6 k (M.map D.str)=some (decide (k∈M))
 |[]=>rfl
 |x :: M=>by
  show(Z6 k (M.map D.str)).map (fun b=>decide (x=k)||b)=_
  rw[QD];show some (decide (x=k)||decide (k∈M))=_;rw[show decide (k∈x :: M)=(decide (x=k)||decide (k∈M)) by rw[<-Bool.decide_or];exact decide_eq_decide.mpr ⟨fun h=>(aG.mp h).imp Eq.symm id,fun h=>aG.mpr (h.imp Eq.symm id)⟩]
section
variable {F:Nat->Fn}{s st:Za}{e a b c:CE}{ρ:Env}{d x z:D}{n w i j k:Nat}{M:Li Str}{m:Bool}{v:Int}{xs:Li D}
theorem UB(hM:M.length<=5):∃ x∈ltL,x∉M/\∀ {s:Za}{w:Nat}{m:Bool},s[w]?=some (m,M.map D.str)->C (run T (n+1)) s 255 [.lst w] (.str x):=by
 let g:D->Ot D:=fun d=>match d with
  |.str x=>if x∈M then none else some (.str x)
  |_=>none
 obtain⟨u,hu⟩:∃ u,(ltL.map D.str).findSome? g=some u:=by
  cases h:(ltL.map D.str).findSome? g with
  |some u=>exact⟨u,rfl⟩
  |none=>
   have h:=List.findSome?_eq_none_iff.mp h;have:=Zbi ZfK (M:=M) fun x hx=>by
    have:=h _ (List.mem_map_of_mem hx);by_cases z:x∈M
    ·exact z
    ·rw[show g (.str x)=if x∈M then none else some (.str x) from rfl,if_neg z]at this;cases this
   have:6<=M.length:=this;omega
 obtain⟨d,hd,hg⟩:=List.exists_of_findSome?_eq_some hu;obtain⟨x,hx,rfl⟩:=bC.mp hd;have hx':x∉M:=fun z=>by rw[show g (.str x)=if x∈M then none else some (.str x) from rfl,if_pos z]at hg;cases hg
 rw[show g (.str x)=if x∈M then none else some (.str x) from rfl,if_neg hx']at hg
 cases hg;refine⟨x,hx,hx',fun {s w m} hs st k=>?_⟩
 have g0:Grw st (st++[(true,ltL.map D.str)]):=.push;have lp:=Ww (st:=st++[(true,ltL.map D.str)]) (j:=st.length) (b:=true) (xs:=ltL.map D.str) (f:=fun d ρ S=>ex (run T n) Zx (Zj ρ 1 d) S) (I:=fun ρ=>∃ y,ρ=[some (.lst w),y]) (g:=g) ZF (fun d hd ρ hI=>by
  obtain⟨y,rfl⟩:=hI;obtain⟨u,hu,rfl⟩:=bC.mp hd;have c:ev (run T n) (.cmp .NotIn (.var 1) (.var 0)) [some (.lst w),some (.str u)] (st++[(true,ltL.map D.str)])=some (.bl (!decide (u∈M)),st++[(true,ltL.map D.str)]):=by
   show ZW .NotIn (.str u) (.lst w) _=_;unfold ZW;have:XB .NotIn (.str u) (.lst w) (st++[(true,ltL.map D.str)])=some (!decide (u∈M)):=by
    show(match (st++[(true,ltL.map D.str)])[w]? with
     |some (_,xs)=>Z6 u xs
     |none=>none).map not=_
    rw[g0.get (k.get hs)];show(Z6 u (M.map D.str)).map not=_;rw[QD];rfl
   rw[this]
  rw[show g (.str u)=if u∈M then none else some (.str u) from rfl]
  by_cases z:u∈M
  ·rw[aF z]at c
   rw[if_pos z];exact⟨fun _=>⟨_,⟨_,rfl⟩,(Zg ((XN c).trans Zp)).trans Zp⟩,fun u z=>(nomatch z)⟩
  ·rw[aL z]at c
   rw[if_neg z];exact⟨fun z=>(nomatch z),fun u' z=>by cases z;exact Zt ((YG c).trans (Zt (W7 rfl)))⟩) 6 0 [some (.lst w),none] ⟨_,rfl⟩ rfl
 refine⟨_,XL (v:=c__law_stranger) rfl rfl (Zt (?_:ex (run T n) (.for1 1 false _ Zx) [some (.lst w),none] st=_)),g0⟩;refine Eq.trans ?_ (lp.2 _ hu);show Wn 1 false (ev (run T n) _) (ex (run T n) Zx) [some (.lst w),none] st=_;unfold Wn;rw[show ev (run T n) (.lstE (.aC (.cst (.str (S "a"))) (.aC (.cst (.str (S "b"))) (.aC (.cst (.str (S "c"))) (.aC (.cst (.str (S "d"))) (.aC (.cst (.str (S "e"))) (.aC (.cst (.str (S "f"))) .aN))))))) [some (.lst w),none] st=some (.lst st.length,st++[(true,ltL.map D.str)]) from rfl]
 show(match (st++[(true,ltL.map D.str)])[st.length]? with
    |some (_,xs)=>Zv (fun d ρ S=>ex (run T n) Zx (Zj ρ 1 d) S) st.length xs.length 0 [some (.lst w),none] (st++[(true,ltL.map D.str)])
    |none=>none)=_
 rw[ZF];rfl
end
section
variable {F:Nat->Fn}{s st:Za}{e a b c:CE}{ρ:Env}{d x z:D}{n w i j k:Nat}{N M:Li Str}{m:Bool}{v:Int}{xs ys:Li D}{p:Pg}{sz:Nat}
theorem ZfY{d:Nat}:sIx n d (some (k:Int))=Nat.min k n:=by
 show(if (k:Int) < 0 then ((k:Int)+(n:Int)).toNat else Nat.min (k:Int).toNat n)=_
 rw[if_neg (by omega),bS]
theorem Ze8:xs.take (Nat.min k xs.length)=xs.take k:=by
 by_cases h:k<=xs.length
 ·rw[show Nat.min k xs.length=k from bT h]
 ·rw[show Nat.min k xs.length=xs.length from dB (by omega),bR (by omega),bR (by omega)]
theorem Zeh:xs.drop (Nat.min k xs.length)=xs.drop k:=by
 by_cases h:k<=xs.length
 ·rw[show Nat.min k xs.length=k from bT h]
 ·rw[show Nat.min k xs.length=xs.length from dB (by omega),List.drop_of_length_le (by omega),List.drop_of_length_le (by omega)]
theorem Jk:Wc xs none (some (k:Int))=xs.take k:=by
 unfold Wc;rw[ZfY];exact Ze8
theorem Jj:Wc xs (some (k:Int)) none=xs.drop k:=by
 unfold Wc;rw[ZfY,Zeh];exact bR (by rw[cA];show _<=xs.length - Nat.min k xs.length;have:Nat.min k xs.length<=k:=Nat.min_le_left _ _;omega)
theorem Lv.tk(hs:s[w]?=some (m,xs))(ha:Y F s a ρ (.lst w))(hb:Y F s b ρ (.int (k:Int))):Lv s (ev F (.slice a .nop (.part b)) ρ) (xs.take k):=by
 rw[<-Jk];exact .sl hs ha (.r fun _=>rfl) (x:=.non) (y:=.int (k:Int)) (g1 hb (gp fun _=>rfl)) fun _=>rfl
theorem Lv.dp(hs:s[w]?=some (m,xs))(ha:Y F s a ρ (.lst w))(hb:Y F s b ρ (.int (k:Int))):Lv s (ev F (.slice a (.part b) .nop) ρ) (xs.drop k):=by
 rw[<-Jj];exact .sl hs ha (x:=.int (k:Int)) (y:=.non) (g1 hb (gp fun _=>rfl)) (.r fun _=>rfl) fun _=>rfl
theorem Y.mx{i j:Int}(ha:Y F s a ρ (.int i))(hb:Y F s b ρ (.int j)):Y F s (.max a b) ρ (.int (if j > i then j else i)):=g2 ha hb (gp fun _=>rfl)
end
structure WL(k:Str)(ws:List Str):Prop where
 w:∀ x∈k :: ws,Wd x/\Vis x
 k0:∃ c r,k.cps.toList=c :: r/\c≠35
 n:ws.length<=5
structure GL(x:Str):Prop where
 ok:VH x
 nl:10∉x.cps.toList
 len:x.length<=400
section
variable {k x y:Str}{ws l m:Li Str}{a a':Sd}{line v:Int}{i j:Nat}
theorem QX{c:Nat}{z:Str}(hz:z=⟨#[c]⟩)(hne:l≠[])(h:∀ p∈l,c∉p.cps.toList):Xu ⟨(ZL z l).toArray⟩ z=l:=by
 subst hz;unfold Xu;show(YZ c (ZL ⟨#[c]⟩ l)).map _=l;rw[WC hne h,bI];exact(List.map_congr_left fun p _=>YX rfl).trans (List.map_id l)
theorem QB{c d:Nat}:∀ {l:Li Str},c∈Zu ⟨#[d]⟩ l->c=d\/∃ x∈l,c∈x.cps.toList
 |[],h=>nomatch h
 |x :: l,h=>by
  rcases aS.mp h with h|h
  ·rcases aS.mp h with h|h
   ·exact .inl (bG.mp h)
   ·exact .inr ⟨x,lQ7,h⟩
  ·rcases QB h with h|⟨y,hy,h⟩
   ·exact .inl h
   ·exact .inr ⟨y,Lm _ hy,h⟩
theorem X1{d n:Nat}:∀ {l:Li Str},(∀ x∈l,x.length<=n)->(Zu ⟨#[d]⟩ l).length<=l.length * (n+1)
 |[],_=>bH _
 |x :: l,h=>by
  have h1:=h x lQ7;have h2:=X1 (d:=d) fun y hy=>h y (Lm x hy)
  show((([d]:Li Nat)++x.cps.toList)++Zu ⟨#[d]⟩ l).length<=_;rw[aK,aK,len_list,aR (as:=l),Nat.succ_mul];show 1+_+_<=_;omega
theorem Zby:S " "=⟨#[32]⟩:=by decide +kernel
theorem Za2:S "\n"=⟨#[10]⟩:=by decide +kernel
variable (h:WL k ws)
include h
theorem WL.spl:Xu (lnS (k :: ws)) (S " ")=k :: ws:=QX Zby (dD _ _) fun p hp z=>by have:=(h.w p hp).2 32 z;omega
theorem WL.nl:10∉(lnS (k :: ws)).cps.toList:=fun z=>by
 have z:10∈k.cps.toList++Zu (S " ") ws:=z;rw[Zby]at z;rcases aS.mp z with z|z
 ·have:=(h.w k lQ7).2 10 z;omega
 ·rcases QB z with z|⟨x,hx,z⟩
  ·cases z
  ·have:=(h.w x (Lm _ hx)).2 10 z;omega
theorem WL.len:(lnS (k :: ws)).length<=400:=by
 rw[<-len_list];show(k.cps.toList++Zu (S " ") ws).length<=_;have h1:=(h.w k lQ7).1.len;have h2:=X1 (d:=32) (n:=60) (l:=ws) fun x hx=>(h.w x (Lm _ hx)).1.len
 have h3:=h.n;have:ws.length * (60+1)<=5 * 61:=Nat.mul_le_mul_right _ h3;rw[aK,len_list,Zby];omega
theorem WL.sk:skB (lnS (k :: ws))=false:=by
 obtain⟨c,r,e,hc⟩:=h.k0;have el:(lnS (k :: ws)).cps.toList=c :: (r++Zu (S " ") ws):=by
  show k.cps.toList++Zu (S " ") ws=_;rw[e];rfl
 unfold skB stW;rw[el];have h1:lnS (k :: ws)≠S "":=fun z=>by
  have:=congrArg (fun x:Str=>x.cps.toList) z
  have:(lnS (k :: ws)).cps.toList=[]:=this;rw[el]at this;cases this
 rw[aL h1,show(S "#").cps.toList=[35] by decide +kernel]
 show(([c]:Li Nat)==[35])=false;exact bQ.mpr fun z=>hc (by injection z)
theorem WL.ok:VH (lnS (k :: ws)):=.inr ⟨aH h.len (by decide),k,ws,h.spl,fun u hu=>(h.w u (Lm _ hu)).1,aH h.n (by decide)⟩
theorem WL.gl:GL (lnS (k :: ws)):=⟨h.ok,h.nl,h.len⟩
theorem WL.rd:rdX a line (lnS (k :: ws))=rdL a line k ws:=by
 unfold rdX;rw[if_neg (by rw[h.sk];decide),h.spl]
omit h
structure Idl(x:Str):Prop where
 s:skB x=true
 nl:10∉x.cps.toList
 len:x.length<=401
theorem QL(h:GL x):∀ y∈Yl v i x,Idl y:=fun y hy=>by
 unfold Yl at hy;split at hy
 ·rw[(List.mem_replicate.mp hy).2]
  have l1:=h.nl;have l2:=h.len;have e1:Idl (S ""):=⟨by decide +kernel,by decide +kernel,by decide +kernel⟩
  have e2:Idl (S "#"):=⟨by decide +kernel,by decide +kernel,by decide +kernel⟩
  have e3:Idl (S "#"++x):=by
   have hs:(S "#").cps.toList=[35]:=by decide +kernel
   refine⟨?_,?_,?_⟩
   ·unfold skB stW
    rw[Zi,hs];exact cK _
   ·rw[Zi,hs]
    intro z;rcases aS.mp z with z|z
    ·cases bG.mp z
    ·exact l1 z
   ·rw[<-len_list,Zi,hs,aK,len_list];show 1+_<=_;omega
  generalize (v / (3+2 * (i:Int)) % 9).toNat=q
  match q with
  |0=>exact e1
  |1=>exact e2
  |2=>exact e3
  |q+3=>exact e1
 ·cases hy
theorem X4:∀ {l:Li Str}{i:Nat},(∀ y∈l,Idl y)->rdA a i (l++m)=rdA a (i+l.length) m
 |[],i,_=>rfl
 |x :: l,i,h=>by
  have h1:rdX a (i:Int) x=.inr a:=if_pos (h x lQ7).s;show(match rdX a (i:Int) x with|.inl c=>(Sum.inl (c,i):Sum (Nat×Nat) Sd)|.inr a'=>rdA a' (i+1) (l++m))=_
  rw[h1];show rdA a (i+1) (l++m)=_;rw[X4 fun y hy=>h y (Lm _ hy),aR,show i+1+l.length=i+(l.length+1) by omega]
end
section
variable {k x y z g w:Str}{ws l:Li Str}{v c:Int}{i t:Nat}{N:Li Str}{o:Op}{b:Nat}
theorem Zfx:fB x (S "name")=nmB x:=rfl
theorem Zfy:fB x (S "number")=isI (ZG x):=rfl
theorem Zgq:fB x (S "operand")=(nmB x||isI (ZG x)):=rfl
theorem QG(h1:nmB x=true)(h2:ZG y=.int v)(h3:ZG z=.int c)(h:v<=c):lnB (S "take") [x,y,z]=true:=by
 show((fB x (S "name")&&(fB y (S "number")&&(fB z (S "number")&&true)))&&(false||decide (vI (ZG y)<=vI (ZG z))))=true;rw[Zfx,Zfy,Zfy,h1,h2,h3];exact aF h
theorem QF:lnB (S "name") [x]=nmB x:=by
 show((fB x (S "name")&&true)&&true)=_;rw[Zfx,bY,bY]
theorem ZaW:lnB (S "put") [x,y,g,z]=(nmB x&&(fB y (S "operand")&&(psL.contains g&&fB z (S "operand")))):=by
 show((fB x (S "name")&&(fB y (S "operand")&&(fB g (S "put sign")&&(fB z (S "operand")&&true))))&&true)=_;rw[bY,bY];rfl
theorem ZaV:lnB (S "if") [y,g,z,S "go",w]=(fB y (S "operand")&&(isL.contains g&&(fB z (S "operand")&&isI (plD w)))):=by
 show((fB y (S "operand")&&(fB g (S "if sign")&&(fB z (S "operand")&&(true&&(fB w (S "place")&&true)))))&&true)=_
 rw[bY,bY,Bool.true_and];rfl
theorem ZdD:lnB (S "go") [w]=isI (plD w):=by
 show((fB w (S "place")&&true)&&true)=_;rw[bY,bY];rfl
theorem ZcA:lnB (S "tell") [y]=fB y (S "operand"):=by
 show((fB y (S "operand")&&true)&&true)=_;rw[bY,bY]
theorem lst_if:(ZH l (S "if") [y,g,z,S "go",w]).getLastD .non=plD w:=rfl
theorem lst_go:(ZH l (S "go") [w]).getLastD .non=plD w:=rfl
theorem Zbe(hN:Nms N)(h:OpOk 5 o):fB (wdO N o) (S "operand")=true:=by
 rw[Zgq];cases o with
 |nm i=>rw[show nmB (wdO N (.nm i))=true from(Zz hN h).2.nm];rfl
 |nu v=>rw[show ZG (wdO N (.nu v))=.int v from YQ h];exact cK _
theorem ZgH(hN:Nms N)(hb:b<=5)(h:OpOk b o)(hn:nmB (wdO N o)=true):wdO N o∈N.take b:=by
 cases o with
 |nm i=>
  have hi:i < b:=h;have e:=(Zz hN (i:=i) (by omega)).1
  exact aV (i:=i) (by rw[dS,if_pos hi];exact e)
 |nu v=>rw[show nmB (wdO N (.nu v))=false from QK]at hn;cases hn
theorem Zbf(hN:Nms N)(h:OpOk 5 o):Wd (wdO N o)/\Vis (wdO N o):=by
 cases o with
 |nm i=>exact⟨(Zz hN h).2.wd,(Zz hN h).2.vis⟩
 |nu v=>exact⟨ZdM (aH (Vv h) (by decide)),Zbd⟩
end
structure Gd(N:List Str)(p:Pg)(t x:Nat)(f:Option Int)(a:Sd):Prop where
 nm:a.nm=N.take (min t p.m)
 tk:a.tk=(p.tk.take t).map tkE
 ro:a.ro.length=(t - p.m)+x
 rq:x=0->a.ro=(p.rw.take (t - p.m)).map rwE
 am:∀ M,p.rw.length<=M->M<=p.rw.length+1->chk M a.am=f
 o:W8 a.am
section
variable {k x y z g w:Str}{ws l N:Li Str}{v c line:Int}{i t e:Nat}{a:Sd}{p:Pg}{r:Rw}{f:Ot Int}{sz:Nat}
theorem cw(h:(x.cps.toList.all (fun c=>decide (33<=c)&&decide (c < 128))&&decide (x.length<=60))=true):Wd x/\Vis x:=by
 obtain⟨h1,h2⟩:=aX.mp h;have h1:=bP.mp h1;exact⟨⟨of_decide_eq_true h2,fun c hc=>of_decide_eq_true (aX.mp (h1 c hc)).2⟩,fun c hc=>of_decide_eq_true (aX.mp (h1 c hc)).1⟩
theorem Jx(h:Sm v):Wd (nuS v)/\Vis (nuS v):=⟨ZdM (aH (Vv h) (by decide)),Zbd⟩
theorem ZdJ(h1:(lnB k ws&&rmB a k)=true)(hk:k=S "take"\/k=S "name")(hx:ws.getD 0 (S "")∉a.nm):rdL a line k ws=.inr { a with nm:=a.nm++[ws.getD 0 (S "")],tk:=if k=S "take" then a.tk++[.tup [ZG (ws.getD 1 (S "")),ZG (ws.getD 2 (S ""))]] else a.tk }:=by
 unfold rdL;rw[if_neg (by rw[h1];decide),if_pos hk,if_neg hx]
theorem ZeO(h1:(lnB k ws&&rmB a k)=true)(hk:¬(k=S "take"\/k=S "name"))(hx:∀ x∈Z0 k ws,x∈a.nm):rdL a line k ws=.inr { a with ro:=a.ro++[.tup (ZH a.nm k ws)],am:=a.am++ZC line (ZH a.nm k ws) k }:=by
 unfold rdL;rw[if_neg (by rw[h1];decide),if_neg hk,if_pos hx]
theorem Qp{M:Nat}{m:Li D}:∀ {l:Li D},W8 l->chk M (l++m)=(chk M l).or (chk M m)
 |[],_=>(Option.none_or).symm
 |d :: l,h=>by
  obtain⟨x,q,rfl⟩:=h d lQ7;show(if (M:Int) < q then some x else chk M (l++m))=(if (M:Int) < q then some x else chk M l).or (chk M m)
  split
  ·rfl
  ·exact Qp fun e he=>h e (Lm _ he)
theorem Zb8{M:Nat}{q:Int}:chk M [.tup [.int line,.int q]]=if (M:Int) < q then some line else none:=rfl
variable (hN:Nms N) (hp:PgOk sz p)
include hN hp
theorem ZfD(h:i < p.m):∃ k ws,hdW N p i=k :: ws/\WL k ws:=by
 have m5:=hp.m5;have n:=(Zz hN (i:=i) (by omega)).2
 unfold hdW;cases q:p.tk[i]? with
 |some τ=>
  obtain⟨h1,h2,_⟩:=hp.tk τ (aV q);refine⟨_,_,rfl,fun x hx=>?_,⟨_,_,rfl,by decide⟩,by show 3<=5;decide⟩
  simp only[aG,bB,or_false]at hx;rcases hx with rfl|rfl|rfl|rfl
  ·exact cw (by decide +kernel)
  ·exact⟨n.wd,n.vis⟩
  ·exact Jx h1
  ·exact Jx h2
 |none=>
  refine⟨_,_,rfl,fun x hx=>?_,⟨_,_,rfl,by decide⟩,by show 1<=5;decide⟩
  simp only[aG,bB,or_false]at hx;rcases hx with rfl|rfl
  ·exact cw (by decide +kernel)
  ·exact⟨n.wd,n.vis⟩
theorem ZeC(h:t < 5):N.getD t (S "")∉N.take t:=fun z=>by
 have e:=(Zz hN h).1;obtain⟨j,hj,ej⟩:=List.mem_iff_getElem.mp z;rw[bF]at hj;rw[List.getElem_take]at ej;have:=(List.getElem?_inj (i:=j) (j:=t) (by have:=hN.l;omega) hN.nd).mp (by rw[Lg (by have:=hN.l;omega),ej,e])
 omega
theorem ZfB(G:Gd N p t 0 f a)(ht:t < p.m)(e:hdW N p t=k :: ws):∃ a',rdL a line k ws=.inr a'/\Gd N p (t+1) 0 f a':=by
 have m5:=hp.m5;have tm:=hp.tm;have t3:=hp.t3;have nl:=hN.l;have n:=Zz hN (i:=t) (by omega)
 have g1:a.nm=N.take t:=by rw[G.nm,bT (by omega)]
 have g2:a.tk.length=min t p.tk.length:=by rw[G.tk,aJ,bF]
 have g3:a.ro.length=0:=by rw[G.ro];omega
 have l1:a.nm.length=t:=by rw[g1,bF];omega
 have nn:N.getD t (S "")∉a.nm:=by rw[g1];exact ZeC hN hp (by omega)
 have nx:a.nm++[N.getD t (S "")]=N.take (min (t+1) p.m):=by
  rw[bT (by omega),g1,List.take_succ,n.1];rfl
 have rq:(0:Nat)=0->a.ro=(p.rw.take (t+1 - p.m)).map rwE:=fun _=>by rw[G.rq rfl,show t+1 - p.m=t - p.m by omega]
 unfold hdW at e;cases q:p.tk[t]? with
 |some τ=>
  rw[q]at e;cases e;have hl:=ZR q;obtain⟨h1,h2,h3⟩:=hp.tk τ (aV q);refine⟨_,ZdJ ?_ (.inl rfl) nn,⟨nx,?_,?_,rq,G.am,G.o⟩⟩
  ·rw[QG n.2.nm (YQ h1) (YQ h2) h3]
   show(decide (a.nm.length=a.tk.length)&&decide (a.ro.length=0)&&decide (a.tk.length < 3))=true;rw[aF (by omega),aF g3,aF (by omega)];rfl
  ·show a.tk++[.tup [ZG (nuS τ.1),ZG (nuS τ.2)]]=_
   rw[List.take_succ,q,G.tk,cD,YQ h1,YQ h2];rfl
  ·show a.ro.length=_;omega
 |none=>
  rw[q]at e;cases e;have hl:p.tk.length<=t:=List.getElem?_eq_none_iff.mp q;refine⟨_,ZdJ ?_ (.inr rfl) nn,⟨nx,?_,?_,rq,G.am,G.o⟩⟩
  ·rw[QF,n.2.nm]
   show(decide (a.ro.length=0)&&decide (a.nm.length < 5))=true;rw[aF g3,aF (by omega)];rfl
  ·show a.tk=_
   rw[G.tk,bR hl,bR (by omega)]
  ·show a.ro.length=_;omega
end
section
variable {k x y z g w:Str}{ws l N:Li Str}{v c line:Int}{i t e:Nat}{a:Sd}{p:Pg}{r:Rw}{f h:Ot Int}{sz:Nat}
theorem Xr(h:x∈Z0 k ws):∃ kd,(x,kd)∈ws.zip (kinds k)/\(kd=S "name"\/kd=S "operand")/\nmB x=true:=by
 obtain⟨q,hq,rfl⟩:=bC.mp h;obtain⟨h1,h2⟩:=cP.mp hq;obtain⟨h3,h4⟩:=aX.mp h2;exact⟨q.2,h1,(Bool.or_eq_true_iff.mp h3).imp eq_of_beq eq_of_beq,h4⟩
theorem Zd2(hk:¬(k=S "if"\/k=S "go")){l:Li D}:ZC line l k=[]:=if_neg hk
theorem Zd3(hk:k=S "if"\/k=S "go"){l:Li D}(hl:l.getLastD .non=.int v):ZC line l k=[.tup [.int line,.int v]]:=by unfold ZC;rw[if_pos hk,hl]
theorem Zar(G:Gd N p t e f a)(ht:p.m<=t)(hx:(t - p.m)+e < 12)(h1:lnB k ws=true)(hk:¬(k=S "take"\/k=S "name"))(hn:∀ x∈Z0 k ws,x∈N.take p.m)(hA:∀ l,W8 (ZC line (ZH l k ws) k)/\∀ M,p.rw.length<=M->M<=p.rw.length+1->chk M (ZC line (ZH l k ws) k)=h):∃ a',rdL a line k ws=.inr a'/\∀ t' e',p.m<=t'->p.tk.length<=p.m->t' - p.m+e'=t - p.m+e+1->(e'=0->e=0/\(p.rw.take (t' - p.m)).map rwE=(p.rw.take (t - p.m)).map rwE++[.tup (ZH (N.take p.m) k ws)])->Gd N p t' e' (f.or h) a':=by
 have r1:rmB a k=true:=by
  unfold rmB;rw[if_neg fun z=>hk (.inl z),if_neg fun z=>hk (.inr z)]
  exact aF (by rw[G.ro];exact hx)
 have g1:a.nm=N.take p.m:=by rw[G.nm,dB ht]
 refine⟨_,ZeO (by rw[h1,r1];rfl) hk (by rw[g1];exact hn),fun t' e' ht' htk he hq=>⟨?_,?_,?_,fun z=>?_,fun M h1 h2=>?_,fun d hd=>?_⟩⟩
 ·show a.nm=_;rw[g1,dB ht']
 ·show a.tk=_;rw[G.tk,bR (by omega),bR (by omega)]
 ·show(a.ro++[_]).length=_
  rw[aK,G.ro];show _+1=_;omega
 ·show a.ro++[.tup (ZH a.nm k ws)]=_
  rw[(hq z).2,G.rq (hq z).1,g1]
 ·show chk M (a.am++_)=_
  rw[Qp G.o,G.am M h1 h2,(hA _).2 M h1 h2]
 ·rcases aS.mp hd with hd|hd
  ·exact G.o d hd
  ·exact(hA _).1 d hd
theorem Zd0(hk:¬(k=S "if"\/k=S "go")):∀ l,W8 (ZC line (ZH l k ws) k)/\∀ M,p.rw.length<=M->M<=p.rw.length+1->chk M (ZC line (ZH l k ws) k)=none:=fun l=>by
 rw[Zd2 hk];exact⟨fun _ h=>(nomatch h),fun _ _ _=>rfl⟩
theorem Zd1(hk:k=S "if"\/k=S "go")(hl:∀ l,(ZH l k ws).getLastD .non=.int v)(hv:(v<=p.rw.length/\h=none)\/((p.rw.length:Int)+1 < v/\h=some line)):∀ l,W8 (ZC line (ZH l k ws) k)/\∀ M,p.rw.length<=M->M<=p.rw.length+1->chk M (ZC line (ZH l k ws) k)=h:=fun l=>by
 rw[Zd3 hk (hl l)];refine⟨fun d hd=>⟨_,_,bG.mp hd⟩,fun M h1 h2=>?_⟩
 rw[Zb8];rcases hv with⟨hv,rfl⟩|⟨hv,rfl⟩
 ·exact if_neg (by omega)
 ·exact if_pos (by omega)
theorem Zat:∀ {l:Li Str}{i:Nat},l.Nodup->l[i]?=some x->l.idxOf x=i
 |y :: l,0,_,h=>by cases h;exact List.idxOf_cons_self
 |y :: l,i+1,hn,h=>by
  have h:l[i]?=some x:=h;have ne:(y==x)=false:=bQ.mpr fun e=>(cJ.mp hn).1 (e ▸ aV h)
  rw[List.idxOf_cons,ne,Zat (cJ.mp hn).2 h];rfl
variable (hN:Nms N) (hp:PgOk sz p)
include hN hp
theorem ZdB(h:i < p.m):UP (N.take p.m) (N.getD i (S ""))=.int (i:Int):=by
 have m5:=hp.m5;unfold UP;rw[Zat (i:=i) (hN.nd.sublist (List.take_sublist _ _)) (by rw[dS,if_pos h];exact(Zz hN (by omega)).1)]
theorem Uh{o:Op}(h:OpOk p.m o):opD (N.take p.m) (wdO N o)=opE o:=by
 have m5:=hp.m5;unfold opD;cases o with
 |nm i=>
  have hi:i < p.m:=h;rw[show nmB (wdO N (.nm i))=true from(Zz hN (by omega)).2.nm,if_pos rfl,show wdO N (.nm i)=N.getD i (S "") from rfl,ZdB hN hp hi];rfl
 |nu v=>rw[show nmB (wdO N (.nu v))=false from QK,if_neg (by decide),show ZG (wdO N (.nu v))=.int v from YQ h];rfl
theorem ZeP(h:Vb p.m p.rw.length r)(hz:p.rw.length<=50)(ek:rwW N r=k :: ws):D.tup (ZH (N.take p.m) k ws)=rwE r:=by
 cases r with
 |put x y g z=>
  cases ek;obtain⟨hx,hy,hg,hz'⟩:=h;show D.tup [.str (S "put"),UP (N.take p.m) (N.getD x (S "")),opD (N.take p.m) (wdO N y),.str g,opD (N.take p.m) (wdO N z)]=_;rw[ZdB hN hp hx,Uh hN hp hy,Uh hN hp hz'];rfl
 |ifr y g z q=>
  cases ek;obtain⟨hy,hg,hz',hq⟩:=h;show D.tup [.str (S "if"),opD (N.take p.m) (wdO N y),.str g,opD (N.take p.m) (wdO N z),plD (nuS (q:Int))]=_
  rw[Uh hN hp hy,Uh hN hp hz',Uj (by omega)];rfl
 |go q=>
  cases ek;have hq:q<=p.rw.length:=h;show D.tup [.str (S "go"),plD (nuS (q:Int))]=_;rw[Uj (by omega)];rfl
 |tell y=>
  cases ek;show D.tup [.str (S "tell"),opD (N.take p.m) (wdO N y)]=_;rw[Uh hN hp h];rfl
 |skip=>cases ek;rfl
theorem ZfU(h:Vb p.m p.rw.length r)(hz:p.rw.length<=50):∃ k ws,rwW N r=k :: ws/\WL k ws:=by
 have m5:=hp.m5;have so:∀ {t:Nat},t<=p.rw.length->Sm (t:Int):=fun h=>⟨by omega,by omega⟩
 have sg:∀ x∈psL++isL,Wd x/\Vis x:=fun x hx=>cw (by
  have:∀ x∈psL++isL,(x.cps.toList.all (fun c=>decide (33<=c)&&decide (c < 128))&&decide (x.length<=60))=true:=by decide +kernel
  exact this x hx)
 cases r with
 |put x y g z=>
  obtain⟨hx,hy,hg,hz'⟩:=h;have n:=(Zz hN (i:=x) (by omega)).2
  refine⟨_,_,rfl,fun u hu=>?_,⟨_,_,rfl,by decide⟩,by show 4<=5;decide⟩
  simp only[aG,bB,or_false]at hu;rcases hu with rfl|rfl|rfl|rfl|rfl
  ·exact cw (by decide +kernel)
  ·exact⟨n.wd,n.vis⟩
  ·exact Zbf hN (hy.up m5)
  ·exact sg _ (aS.mpr (.inl hg))
  ·exact Zbf hN (hz'.up m5)
 |ifr y g z t=>
  obtain⟨hy,hg,hz',ht⟩:=h;refine⟨_,_,rfl,fun u hu=>?_,⟨_,_,rfl,by decide⟩,by show 5<=5;decide⟩
  simp only[aG,bB,or_false]at hu;rcases hu with rfl|rfl|rfl|rfl|rfl|rfl
  ·exact cw (by decide +kernel)
  ·exact Zbf hN (hy.up m5)
  ·exact sg _ (aS.mpr (.inr hg))
  ·exact Zbf hN (hz'.up m5)
  ·exact cw (by decide +kernel)
  ·exact Jx (so (by omega))
 |go t=>
  refine⟨_,_,rfl,fun u hu=>?_,⟨_,_,rfl,by decide⟩,by show 1<=5;decide⟩
  simp only[aG,bB,or_false]at hu;rcases hu with rfl|rfl
  ·exact cw (by decide +kernel)
  ·exact Jx (so h)
 |tell y=>
  refine⟨_,_,rfl,fun u hu=>?_,⟨_,_,rfl,by decide⟩,by show 1<=5;decide⟩
  simp only[aG,bB,or_false]at hu;rcases hu with rfl|rfl
  ·exact cw (by decide +kernel)
  ·exact Zbf hN (OpOk.up m5 h)
 |skip=>
  refine⟨_,_,rfl,fun u hu=>?_,⟨_,_,rfl,by decide⟩,by show 0<=5;decide⟩
  rw[bG.mp hu];exact cw (by decide +kernel)
theorem ZfC(G:Gd N p t e f a)(ht:p.m<=t)(hx:(t - p.m)+e < 12)(h:Vb p.m p.rw.length r)(hz:p.rw.length<=50)(hr:p.rw[t - p.m]?=some r)(ek:rwW N r=k :: ws):∃ a',rdL a line k ws=.inr a'/\Gd N p (t+1) e f a':=by
 have m5:=hp.m5;have no:∀ {o:Op},OpOk p.m o->nmB (wdO N o)=true->wdO N o∈N.take p.m:=fun h=>ZgH hN m5 h
 have rt:p.rw.take (t+1 - p.m)=p.rw.take (t - p.m)++[r]:=by rw[show t+1 - p.m=t - p.m+1 by omega,List.take_succ,hr];rfl
 have re:=ZeP hN hp h hz ek;have fin:∀ {k ws},D.tup (ZH (N.take p.m) k ws)=rwE r->lnB k ws=true->¬(k=S "take"\/k=S "name")->(∀ x∈Z0 k ws,x∈N.take p.m)->(∀ l,W8 (ZC line (ZH l k ws) k)/\∀ M,p.rw.length<=M->M<=p.rw.length+1->chk M (ZC line (ZH l k ws) k)=none)->∃ a',rdL a line k ws=.inr a'/\Gd N p (t+1) e f a':=fun h0 h1 h2 h3 h4=>by
  obtain⟨a',e1,g⟩:=Zar G ht hx h1 h2 h3 h4;refine⟨a',e1,?_⟩;have:=g (t+1) e (by omega) hp.tm (by omega) fun z=>⟨z,by rw[rt,cD,h0];rfl⟩
  rw[Option.or_none]at this;exact this
 cases r with
 |put x y g z=>
  cases ek;obtain⟨hx,hy,hg,hz'⟩:=h;have n:=Zz hN (i:=x) (by omega)
  refine fin re ?_ (by decide +kernel) (fun u hu=>?_) (Zd0 (by decide +kernel))
  ·rw[ZaW,n.2.nm,Zbe hN (hy.up m5),Zbe hN (hz'.up m5),cC.mpr hg];rfl
  ·obtain⟨kd,hm,hk,hb⟩:=Xr hu
   have hm:(u,kd)∈[(N.getD x (S ""),S "name"),(wdO N y,S "operand"),(g,S "put sign"),(wdO N z,S "operand")]:=hm;simp only[aG,bB,or_false,Prod.mk.injEq]at hm;rcases hm with⟨rfl,rfl⟩|⟨rfl,rfl⟩|⟨rfl,rfl⟩|⟨rfl,rfl⟩
   ·exact aV (i:=x) (by rw[dS,if_pos hx];exact n.1)
   ·exact no hy hb
   ·exact absurd hk (by decide +kernel)
   ·exact no hz' hb
 |ifr y g z q=>
  cases ek;obtain⟨hy,hg,hz',hq⟩:=h;have pq:=Uj (t:=q) (by omega)
  refine fin re ?_ (by decide +kernel) (fun u hu=>?_) (Zd1 (.inl rfl) (fun l=>lst_if.trans pq) (.inl ⟨by omega,rfl⟩))
  ·rw[ZaV,pq,Zbe hN (hy.up m5),Zbe hN (hz'.up m5),cC.mpr hg];rfl
  ·obtain⟨kd,hm,hk,hb⟩:=Xr hu
   have hm:(u,kd)∈[(wdO N y,S "operand"),(g,S "if sign"),(wdO N z,S "operand"),(S "go",S "go"),(nuS (q:Int),S "place")]:=hm
   simp only[aG,bB,or_false,Prod.mk.injEq]at hm;rcases hm with⟨rfl,rfl⟩|⟨rfl,rfl⟩|⟨rfl,rfl⟩|⟨rfl,rfl⟩|⟨rfl,rfl⟩
   ·exact no hy hb
   ·exact absurd hk (by decide +kernel)
   ·exact no hz' hb
   ·exact absurd hk (by decide +kernel)
   ·exact absurd hk (by decide +kernel)
 |go q=>
  cases ek;have hq:q<=p.rw.length:=h;have pq:=Uj (t:=q) (by omega)
  refine fin re ?_ (by decide +kernel) (fun u hu=>?_) (Zd1 (.inr rfl) (fun l=>lst_go.trans pq) (.inl ⟨by omega,rfl⟩))
  ·rw[ZdD,pq];rfl
  ·obtain⟨kd,hm,hk,hb⟩:=Xr hu
   have hm:(u,kd)∈[(nuS (q:Int),S "place")]:=hm;rw[bG]at hm;cases hm;exact absurd hk (by decide +kernel)
 |tell y=>
  cases ek;refine fin re ?_ (by decide +kernel) (fun u hu=>?_) (Zd0 (by decide +kernel))
  ·rw[ZcA,Zbe hN (OpOk.up m5 h)]
  ·obtain⟨kd,hm,hk,hb⟩:=Xr hu
   have hm:(u,kd)∈[(wdO N y,S "operand")]:=hm;rw[bG]at hm;cases hm;exact no h hb
 |skip=>
  cases ek;exact fin re (by decide +kernel) (by decide +kernel) (fun u hu=>nomatch hu) (Zd0 (by decide +kernel))
end
structure NL(x:Str):Prop where
 s:skB x=false
 nl:10∉x.cps.toList
 len:x.length<=400
 b:∃ k ws,Xu x (S " ")=k :: ws/\(∀ u∈ws,Wd u)/\ws.length<=400/\lnB k ws=false
def nlB(x:Str):Bool:=!skB x&&(!x.cps.toList.contains 10&&(decide (x.length<=400)&&match Xu x (S " ") with
 |k :: ws=>ws.all (fun u=>u.cps.toList.all (fun c=>decide (c < 128))&&decide (u.length<=60))&&(decide (ws.length<=400)&&!lnB k ws)
 |[]=>false))
inductive Fa(N:List Str)(p:Pg):Nat->Nat->Str->Prop
 |no {i:Nat}{x:Str} (h:NL x) (hi:i<=p.m+p.rw.length):Fa N p 0 i x
 |tn {i q:Nat} (h1:i<=p.m) (h2:p.m < 5) (h3:q < i):Fa N p 1 i (lnS [S "name",N.getD q (S "")])
 |tt {i q:Nat} (h1:i<=p.tk.length) (h2:p.tk.length < 3) (h3:q < i):Fa N p 1 i (lnS [S "take",N.getD q (S ""),S "1",S "2"])
 |nn {i:Nat}{k x:Str}{ws:List Str} (hw:WL k ws) (h1:lnB k ws=true) (h2:¬(k=S "take"\/k=S "name")) (h3:x∈Z0 k ws) (h4:x∉N.take p.m) (h5:p.m<=i) (h6:i<=p.m+p.rw.length):Fa N p 2 i (lnS (k :: ws))
 |np {i g:Nat}{k:Str}{ws:List Str} (h1:p.rw.length+2<=g) (h2:g<=99) (h3:k :: ws=[S "go",nuS (g:Int)]\/k :: ws=[S "if",S "1",S "<",S "2",S "go",nuS (g:Int)]) (h5:p.m<=i) (h6:i<=p.m+p.rw.length):Fa N p 3 i (lnS (k :: ws))
section
variable {k x y z g w:Str}{ws l N M:Li Str}{v c line:Int}{i t e n q:Nat}{a:Sd}{p:Pg}{r:Rw}{f h:Ot Int}{sz:Nat}
theorem NL.of(h:nlB x=true):NL x:=by
 unfold nlB at h;obtain⟨h1,h⟩:=aX.mp h;obtain⟨h2,h⟩:=aX.mp h;obtain⟨h3,h⟩:=aX.mp h;split at h
 ·rename_i k ws e
  obtain⟨h4,h⟩:=aX.mp h;obtain⟨h5,h6⟩:=aX.mp h;refine⟨by cases q:skB x<;>first|rfl | (rw[q]at h1;cases h1),fun z=>?_,of_decide_eq_true h3,k,ws,e,fun u hu=>?_,of_decide_eq_true h5,by cases q:lnB k ws<;>first|rfl | (rw[q]at h6;cases h6)⟩
  ·rw[cC.mpr z]at h2;cases h2
  ·obtain⟨q1,q2⟩:=aX.mp (bP.mp h4 u hu)
   exact⟨of_decide_eq_true q2,fun c hc=>of_decide_eq_true (bP.mp q1 c hc)⟩
 ·cases h
theorem WL.no(h:WL k ws)(hb:lnB k ws=false):NL (lnS (k :: ws)):=⟨h.sk,h.nl,h.len,k,ws,h.spl,fun u hu=>(h.w u (Lm _ hu)).1,aH h.n (by decide),hb⟩
theorem NL.gl(h:NL x):GL x:=by
 obtain⟨k,ws,e,h1,h2,_⟩:=h.b;exact⟨.inr ⟨aH h.len (by decide),k,ws,e,h1,h2⟩,h.nl,h.len⟩
theorem NL.bad{m:Li Str}(h:NL x):rdA a n (x :: m)=.inl (224,n):=by
 obtain⟨k,ws,e,_,_,hb⟩:=h.b;have:rdX a (n:Int) x=.inl 224:=by
  unfold rdX;rw[if_neg (by rw[h.s];decide),e]
  show rdL a (n:Int) k ws=_;unfold rdL;rw[hb];exact if_pos rfl
 show(match rdX a (n:Int) x with|.inl c=>(Sum.inl (c,n):Sum (Nat×Nat) Sd)|.inr a'=>rdA a' (n+1) m)=_
 rw[this]
def wB(x:Str):Bool:=x.cps.toList.all (fun c=>decide (33<=c)&&decide (c < 128))&&decide (x.length<=60)
def wlB(ws:Li Str):Bool:=match ws with
 |k :: r=>(k :: r).all wB&&(decide (k.cps.toList≠[])&&decide (k.cps.toList.headD 0≠35)&&decide (r.length<=5))
 |[]=>false
theorem ZdN(h:wlB (k :: ws)=true):WL k ws:=by
 obtain⟨h1,h2⟩:=aX.mp h;obtain⟨h2,h3⟩:=aX.mp h2;obtain⟨h2,h4⟩:=aX.mp h2;refine⟨fun x hx=>cw (bP.mp h1 x hx),?_,of_decide_eq_true h3⟩
 have h2:=of_decide_eq_true h2;have h4:=of_decide_eq_true h4;cases q:k.cps.toList with
 |nil=>exact absurd q h2
 |cons c l=>rw[q]at h4;exact⟨c,l,rfl,h4⟩
theorem ZS(hx:Wd x/\Vis x)(h:wlB (k :: (l++ws))=true)(hn:(l++x :: ws).length<=5):WL k (l++x :: ws):=by
 have w:=ZdN h;refine⟨fun u hu=>?_,w.k0,hn⟩
 rcases aG.mp hu with rfl|hu
 ·exact w.w _ lQ7
 ·rcases aS.mp hu with hu|hu
  ·exact w.w u (Lm _ (aS.mpr (.inl hu)))
  ·rcases aG.mp hu with rfl|hu
   ·exact hx
   ·exact w.w u (Lm _ (aS.mpr (.inr hu)))
theorem Zgk(h1:lnB k ws=true)(h2:¬(k=S "take"\/k=S "name"))(h3:x∈Z0 k ws)(hn:x∉N.take p.m)(G:Gd N p t e f a)(ht:p.m<=t)(hx:(t - p.m)+e < 12):rdL a line k ws=.inl 226:=by
 have r1:rmB a k=true:=by
  unfold rmB;rw[if_neg fun z=>h2 (.inl z),if_neg fun z=>h2 (.inr z)]
  exact aF (by rw[G.ro];exact hx)
 unfold rdL;rw[h1,r1,if_neg (by decide),if_neg h2,if_neg fun z=>hn (by have:=z x h3;rw[G.nm,dB ht]at this;exact this)]
theorem Zgl{g:Nat}(h1:p.rw.length+2<=g)(h2:g<=99)(h3:k :: ws=[S "go",nuS (g:Int)]\/k :: ws=[S "if",S "1",S "<",S "2",S "go",nuS (g:Int)])(G:Gd N p t 0 none a)(ht:p.m<=t)(hx:t - p.m < 12)(htk:p.tk.length<=p.m):∃ a',rdL a line k ws=.inr a'/\Gd N p t 1 (some line) a':=by
 have pq:=Uj (t:=g) (by omega)
 have nm:∀ u∈Z0 k ws,u∈N.take p.m:=fun u hu=>by
  obtain⟨kd,hm,hk,hb⟩:=Xr hu;have no:∀ kd∈[S "if sign",S "go",S "place"],¬(kd=S "name"\/kd=S "operand"):=by decide +kernel
  have n1:nmB (S "1")=false:=by decide +kernel
  have n2:nmB (S "2")=false:=by decide +kernel
  rcases h3 with h3|h3<;>cases h3
  ·have hm:(u,kd)∈[(nuS (g:Int),S "place")]:=hm
   cases bG.mp hm
   exact absurd hk (no _ (by simp))
  ·have hm:(u,kd)∈[(S "1",S "operand"),(S "<",S "if sign"),(S "2",S "operand"),(S "go",S "go"),(nuS (g:Int),S "place")]:=hm
   simp only[aG,bB,or_false,Prod.mk.injEq]at hm;rcases hm with⟨rfl,rfl⟩|⟨rfl,rfl⟩|⟨rfl,rfl⟩|⟨rfl,rfl⟩|⟨rfl,rfl⟩
   ·rw[n1]at hb;cases hb
   ·exact absurd hk (no _ (by simp))
   ·rw[n2]at hb;cases hb
   ·exact absurd hk (no _ (by simp))
   ·exact absurd hk (no _ (by simp))
 have ln:lnB k ws=true/\¬(k=S "take"\/k=S "name")/\(k=S "if"\/k=S "go")/\∀ l,(ZH l k ws).getLastD .non=.int (g:Int):=by
  rcases h3 with h3|h3<;>cases h3
  ·exact⟨by rw[ZdD,pq];rfl,by decide +kernel,.inr rfl,fun l=>lst_go.trans pq⟩
  ·exact⟨by rw[ZaV,pq,show fB (S "1") (S "operand")=true by decide +kernel,show fB (S "2") (S "operand")=true by decide +kernel,show isL.contains (S "<")=true by decide +kernel];rfl,by decide +kernel,.inl rfl,fun l=>lst_if.trans pq⟩
 obtain⟨a',e1,gg⟩:=Zar (e:=0) G ht (by omega) ln.1 ln.2.1 nm (Zd1 (h:=some line) ln.2.2.1 ln.2.2.2 (.inr ⟨by omega,rfl⟩))
 exact⟨a',e1,gg t 1 ht htk (by omega) fun z=>nomatch z⟩
theorem Zgj(hN:Nms N)(hi:t<=p.m)(hm:p.m < 5)(hq:q < t)(G:Gd N p t 0 f a):rdL a line (S "name") [N.getD q (S "")]=.inl 225:=by
 have n:=Zz hN (i:=q) (by omega)
 have g1:a.nm=N.take t:=by rw[G.nm,bT hi]
 have g3:a.ro.length=0:=by rw[G.ro];omega
 have l1:a.nm.length=t:=by rw[g1,bF,hN.l];omega
 have:(lnB (S "name") [N.getD q (S "")]&&rmB a (S "name"))=true:=by
  rw[QF,n.2.nm];show(decide (a.ro.length=0)&&decide (a.nm.length < 5))=true;rw[aF g3,aF (by omega)];rfl
 unfold rdL;rw[this,if_neg (by decide),if_pos (.inr rfl)]
 exact if_pos (by rw[g1];exact aV (i:=q) (by rw[dS,if_pos hq];exact n.1))
theorem Zfk(hN:Nms N)(hp:PgOk sz p)(hi:t<=p.tk.length)(hm:p.tk.length < 3)(hq:q < t)(G:Gd N p t 0 f a):rdL a line (S "take") [N.getD q (S ""),S "1",S "2"]=.inl 225:=by
 have n:=Zz hN (i:=q) (by omega)
 have tm:=hp.tm;have m5:=hp.m5;have g1:a.nm=N.take t:=by rw[G.nm,bT (by omega)]
 have g2:a.tk.length=t:=by rw[G.tk,aJ,bF];omega
 have g3:a.ro.length=0:=by rw[G.ro];omega
 have l1:a.nm.length=t:=by rw[g1,bF,hN.l];omega
 have:(lnB (S "take") [N.getD q (S ""),S "1",S "2"]&&rmB a (S "take"))=true:=by
  rw[QG (v:=1) (c:=2) n.2.nm (by rw[show S "1"=nuS 1 by decide +kernel];exact YQ ⟨by decide,by decide⟩) (by rw[show S "2"=nuS 2 by decide +kernel];exact YQ ⟨by decide,by decide⟩) (by decide)]
  show(decide (a.nm.length=a.tk.length)&&decide (a.ro.length=0)&&decide (a.tk.length < 3))=true;rw[aF (by omega),aF g3,aF (by omega)];rfl
 unfold rdL;rw[this,if_neg (by decide),if_pos (.inl rfl)]
 exact if_pos (by rw[g1];exact aV (i:=q) (by rw[dS,if_pos hq];exact n.1))
theorem U2{m:Li Str}(hw:WL k ws)(h:rdL a (n:Int) k ws=.inl i):rdA a n (lnS (k :: ws) :: m)=.inl (i,n):=by
 show(match rdX a (n:Int) (lnS (k :: ws)) with|.inl c=>(Sum.inl (c,n):Sum (Nat×Nat) Sd)|.inr a'=>rdA a' (n+1) m)=_
 rw[hw.rd,h]
theorem QT{a':Sd}{m:Li Str}(hw:WL k ws)(h:rdL a (n:Int) k ws=.inr a'):rdA a n (lnS (k :: ws) :: Yl v i (lnS (k :: ws))++m)=rdA a' (n+(lnS (k :: ws) :: Yl v i (lnS (k :: ws))).length) m:=by
 show(match rdX a (n:Int) (lnS (k :: ws)) with|.inl c=>(Sum.inl (c,n):Sum (Nat×Nat) Sd)|.inr a'=>rdA a' (n+1) (Yl v i (lnS (k :: ws))++m))=_
 rw[hw.rd,h];show rdA a' (n+1) _=_;rw[X4 (QL hw.gl),aR,show n+1+(Yl v i (lnS (k :: ws))).length=n+((Yl v i (lnS (k :: ws))).length+1) by omega]
variable (hN:Nms N) (hp:PgOk sz p)
include hN hp
theorem Vp:(lnL N p).length=p.m+p.rw.length:=by unfold lnL;rw[aK,aJ,aJ,bX]
theorem ZdE(hz:sz<=12):∀ ws∈lnL N p,∃ k r,ws=k :: r/\WL k r:=fun ws h=>by
 have:=hp.r;rcases aS.mp h with h|h
 ·obtain⟨i,hi,rfl⟩:=bC.mp h
  exact ZfD hN hp (cQ.mp hi)
 ·obtain⟨r,hr,rfl⟩:=bC.mp h
  exact ZfU hN hp (hp.ro r hr) (by omega)
theorem Zcg(hz:sz<=12)(G:Gd N p t e f a)(h0:t < p.m->e=0)(h1:p.rw.length+e<=12)(ek:(lnL N p)[t]?=some (k :: ws)):∃ a',rdL a line k ws=.inr a'/\Gd N p (t+1) e f a':=by
 have:=hp.r;have hl:=ZR ek;rw[Vp hN hp]at hl;unfold lnL at ek;by_cases ht:t < p.m
 ·have:=h0 ht
  subst this;rw[bU (by rw[aJ,bX];exact ht),aU,dQ ht]at ek
  exact ZfB hN hp G ht (Option.some.inj ek)
 ·rw[bV (by rw[aJ,bX];omega),aJ,bX,aU,Lg (by omega)]at ek
  exact ZfC hN hp G (by omega) (by omega) (hp.ro _ (cB _)) (by omega) (Lg (by omega)) (Option.some.inj ek)
theorem U3(hz:sz<=12):∀ (q t i n:Nat) {a:Sd},Gd N p t e f a->t+q<=(lnL N p).length->(t < p.m->e=0)->p.rw.length+e<=12->∃ a',Gd N p (t+q) e f a'/\∀ m,rdA a n (spG v i ((((lnL N p).drop t).take q).map lnS)++m)=rdA a' (n+(spG v i ((((lnL N p).drop t).take q).map lnS)).length) m
 |0,t,i,n,a,G,_,_,_=>⟨a,G,fun m=>rfl⟩
 |q+1,t,i,n,a,G,hl,h0,h1=>by
  have ht:t < (lnL N p).length:=by omega
  obtain⟨k,ws,e1,hw⟩:=ZdE hN hp hz _ (cB ht);have e2:(lnL N p)[t]?=some (k :: ws):=by rw[Lg ht,e1]
  obtain⟨a1,r1,G1⟩:=Zcg (line:=(n:Int)) hN hp hz G h0 h1 e2;obtain⟨a2,G2,r2⟩:=U3 hz q (t+1) (i+1) (n+(lnS (k :: ws) :: Yl v i (lnS (k :: ws))).length) G1 (by omega) (fun z=>h0 (by omega)) h1
  have e3:(((lnL N p).drop t).take (q+1)).map lnS=lnS (k :: ws) :: (((lnL N p).drop (t+1)).take q).map lnS:=by
   rw[cN ht,List.take_succ_cons,aT,e1]
  refine⟨a2,by rw[show t+(q+1)=t+1+q by omega];exact G2,fun m=>?_⟩
  rw[e3];show rdA a n ((lnS (k :: ws) :: Yl v i (lnS (k :: ws)))++spG v (i+1) _++m)=rdA a2 (n+((lnS (k :: ws) :: Yl v i (lnS (k :: ws)))++spG v (i+1) _).length) m;rw[aM,QT hw r1,r2,aK,Nat.add_assoc]
end
def rdF:Sum (Nat×Nat) Sd->Sum (Nat×Int) Sd
 |.inl (c,i)=>.inl (c,(i:Int))
 |.inr a=>match chk a.ro.length a.am with
  |some i=>.inl (227,i)
  |none=>.inr a
theorem QS{l:Li Str}:rdT l=rdF (rdA sd0 1 l):=rfl
section
variable {N:Li Str}{x:Str}{v:Int}{i j t e n k:Nat}{a:Sd}{p:Pg}{f:Ot Int}{sz:Nat}{Z:Li Str}
theorem Zgv:Gd N p 0 0 none sd0:=⟨by rw[Nat.zero_min];rfl,rfl,by rw[Nat.zero_sub];rfl,fun _=>by rw[Nat.zero_sub];rfl,fun _ _ _=>rfl,fun _ h=>nomatch h⟩
theorem idl_0:Idl (S ""):=⟨by decide +kernel,by decide +kernel,by decide +kernel⟩
variable (hN:Nms N) (hp:PgOk sz p) (hz:sz<=11)
include hN hp hz
theorem Zbo(hi:i<=(lnL N p).length):∃ a1,Gd N p i 0 none a1/\∀ Z,rdA sd0 1 (spS v (((lnL N p).take i).map lnS++Z))=rdA a1 ((spS v (((lnL N p).take i).map lnS)).length+1) (spG v i Z):=by
 have:=hp.r;obtain⟨a1,G,r⟩:=U3 (v:=v) hN hp (by omega) i 0 0 (1+(List.replicate (v % 3).toNat (S "")).length) Zgv (by omega) (fun _=>rfl) (by omega)
 rw[cZ]at G;refine⟨a1,G,fun Z=>?_⟩
 unfold spS;rw[QV,X4 (fun y hy=>by rw[(List.mem_replicate.mp hy).2];exact idl_0)]
 have r:=r (spG v (0+(((lnL N p).take i).map lnS).length) Z);rw[dO]at r;rw[r,aK,show 0+(((lnL N p).take i).map lnS).length=i by rw[aJ,bF];omega]
 congr 1
 omega
theorem Za6:∃ a,rdT (spS v ((lnL N p).map lnS))=.inr a/\tlP a=pgE p:=by
 have ll:=Vp hN hp;have tm:=hp.tm;have m5:=hp.m5;have nl:=hN.l;obtain⟨a1,G,r⟩:=Zbo (v:=v) hN hp hz (i:=(lnL N p).length) (aE _);have r:=r [];rw[dR,aP]at r;have ro:=G.ro;refine⟨a1,?_,?_⟩
 ·rw[QS,r]
  show(match chk a1.ro.length a1.am with|some i=>(Sum.inl (227,i):Sum (Nat×Int) Sd)|none=>.inr a1)=_
  rw[G.am a1.ro.length (by omega) (by omega)]
 ·unfold tlP pgE
  rw[G.tk,G.rq rfl,G.nm,bR (l:=p.tk) (by omega),bR (l:=p.rw) (by omega),bF,show min (min (lnL N p).length p.m) N.length=p.m by omega]
theorem Jz(hf:Fa N p k i x):rdT (spS v (((lnL N p).take i).map lnS++x :: ((lnL N p).drop i).map lnS))=.inl (224+k,(((spS v (((lnL N p).take i).map lnS)).length:Nat):Int)+1):=by
 have hr:=hp.r;have tm:=hp.tm;have ll:=Vp hN hp;have hi:i<=(lnL N p).length:=by cases hf<;>omega
 obtain⟨a1,G,r⟩:=Zbo (v:=v) hN hp hz hi;rw[QS,r];obtain⟨n,hn⟩:∃ n,(spS v (((lnL N p).take i).map lnS)).length=n:=⟨_,rfl⟩;rw[hn];have bad:∀ {c},rdA a1 (n+1) (x :: (Yl v i x++spG v (i+1) (((lnL N p).drop i).map lnS)))=.inl (c,n+1)->rdF (rdA a1 (n+1) (spG v i (x :: ((lnL N p).drop i).map lnS)))=.inl (c,(n:Int)+1):=fun {c} h=>by
  rw[show rdA a1 (n+1) (spG v i (x :: ((lnL N p).drop i).map lnS))=.inl (c,n+1) from h];rfl
 have wN:∀ {q},q < 5->Wd (N.getD q (S ""))/\Vis (N.getD q (S "")):=fun h=>⟨(Zz hN h).2.wd,(Zz hN h).2.vis⟩
 cases hf with
 |no h _=>exact bad h.bad
 |@tn _ q h1 h2 h3=>exact bad (U2 (ZS (l:=[]) (wN (by omega)) (by decide +kernel) (by show 1<=5;decide)) (Zgj hN h1 h2 h3 G))
 |@tt _ q h1 h2 h3=>exact bad (U2 (ZS (l:=[]) (wN (by omega)) (by decide +kernel) (by show 3<=5;decide)) (Zfk hN hp h1 h2 h3 G))
 |nn hw h1 h2 h3 h4 h5 h6=>exact bad (U2 hw (Zgk h1 h2 h3 h4 G h5 (by omega)))
 |@np _ g k0 ws h1 h2 h3 h5 h6=>
  have wl:WL k0 ws:=by
   have wg:=Jx (v:=(g:Int)) ⟨by omega,by omega⟩
   rcases h3 with h3|h3<;>cases h3
   ·exact ZS (l:=[]) wg (by decide +kernel) (by show 1<=5;decide)
   ·exact ZS (l:=[S "1",S "<",S "2",S "go"]) (ws:=[]) wg (by decide +kernel) (by show 5<=5;decide)
  obtain⟨a2,r2,G2⟩:=Zgl (line:=((n+1:Nat):Int)) h1 h2 h3 G h5 (by omega) tm
  obtain⟨a3,G3,r3⟩:=U3 (v:=v) hN hp (by omega) ((lnL N p).length - i) i (i+1) (n+1+(lnS (k0 :: ws) :: Yl v i (lnS (k0 :: ws))).length) G2 (by omega) (fun z=>by omega) (by omega)
  have r3:=r3 [];rw[aP,bR (by rw[cA];omega)]at r3
  show rdF (rdA a1 (n+1) (lnS (k0 :: ws) :: Yl v i (lnS (k0 :: ws))++spG v (i+1) (((lnL N p).drop i).map lnS)))=_;rw[QT wl r2,r3];have ro:=G3.ro;show(match chk a3.ro.length a3.am with|some i=>(Sum.inl (227,i):Sum (Nat×Int) Sd)|none=>.inr a3)=_
  rw[G3.am a3.ro.length (by omega) (by omega)]
  rfl
theorem Zfz(hf:Fa N p k i x):GL x:=by
 have tm:=hp.tm;have wN:∀ {q},q < 5->Wd (N.getD q (S ""))/\Vis (N.getD q (S "")):=fun h=>⟨(Zz hN h).2.wd,(Zz hN h).2.vis⟩
 cases hf with
 |no h _=>exact h.gl
 |@tn _ q h1 h2 h3=>exact(ZS (l:=[]) (wN (by omega)) (by decide +kernel) (by show 1<=5;decide)).gl
 |@tt _ q h1 h2 h3=>exact(ZS (l:=[]) (wN (by omega)) (by decide +kernel) (by show 3<=5;decide)).gl
 |nn hw=>exact hw.gl
 |@np _ g k0 ws h1 h2 h3 h5 h6=>
  have wg:=Jx (v:=(g:Int)) ⟨by omega,by omega⟩
  rcases h3 with h3|h3<;>cases h3
  ·exact(ZS (l:=[]) wg (by decide +kernel) (by show 1<=5;decide)).gl
  ·exact(ZS (l:=[S "1",S "<",S "2",S "go"]) (ws:=[]) wg (by decide +kernel) (by show 5<=5;decide)).gl
end
section
variable {F:Nat->Fn}{s st:Za}{e a b:CE}{ρ:Env}{d x y:D}{n w i k f:Nat}{v:Int}{xs ys:Li D}{q:CS}{X l:Li Str}{Q Q':D->Za->Prop}{c:Nat}{ln:Nat}
theorem Zbz:(spS v X).length<=3+4 * X.length:=by
 have g:∀ {X:Li Str}{i:Nat},(spG v i X).length<=4 * X.length:=fun {X}=>by
  induction X with
  |nil=>exact aE _
  |cons x X ih=>
   intro i;show((x :: Yl v i x)++spG v (i+1) X).length<=_;rw[aK,aR,aR];have:=QM (v:=v) (i:=i) (x:=x);have:=ih (i:=i+1);omega
 unfold spS;rw[aK,cV];have:=Zh v (j:=3) (by decide)
 have:=g (X:=X) (i:=0);omega
theorem Zbx(h:∀ x∈X,GL x):∀ y∈spS v X,VH y/\10∉y.cps.toList/\y.length<=401:=by
 have id:∀ {y},Idl y->VH y/\10∉y.cps.toList/\y.length<=401:=fun h=>⟨.inl h.s,h.nl,h.len⟩
 have g:∀ {X:Li Str}{i:Nat},(∀ x∈X,GL x)->∀ y∈spG v i X,VH y/\10∉y.cps.toList/\y.length<=401:=fun {X}=>by
  induction X with
  |nil=>intro i _ y hy;cases hy
  |cons x X ih=>
   intro i h y hy;have hx:=h x lQ7;rcases aS.mp (show y∈(x :: Yl v i x)++spG v (i+1) X from hy) with hy|hy
   ·rcases aG.mp hy with rfl|hy
    ·exact⟨hx.ok,hx.nl,aH hx.len (by decide)⟩
    ·exact id (QL hx y hy)
   ·exact ih (fun x hx=>h x (Lm _ hx)) y hy
 intro y hy;rcases aS.mp hy with hy|hy
 ·rw[(List.mem_replicate.mp hy).2];exact id idl_0
 ·exact g h y hy
def txS(l:Li Str):Str:=⟨(ZL (S "\n") l).toArray⟩
theorem ZbF(h:∀ y∈l,y.length<=401)(hl:l.length<=200):(Zu (S "\n") l).length<=90000/\(txS l).length<=90000:=by
 have g:=X1 (d:=10) (n:=401) h;have:l.length * (401+1)<=200 * 402:=Nat.mul_le_mul_right _ hl;rw[Za2];refine⟨by omega,?_⟩
 rw[<-len_list];show(ZL (S "\n") l).length<=_;rw[Za2];cases l with
 |nil=>exact bH _
 |cons z l=>
  have g1:=X1 (d:=10) (n:=401) fun y hy=>h y (Lm z hy)
  have g2:=h z lQ7;show(z.cps.toList++Zu ⟨#[10]⟩ l).length<=_;rw[aK,len_list];rw[aR]at hl;have:l.length * (401+1)<=200 * 402:=Nat.mul_le_mul_right _ (by omega)
  omega
theorem Y.joinN(h:Lv s (ev F e ρ) (l.map D.str))(hl:(Zu (S "\n") l).length<=Zc):Y F s (.joinE (.cst (.str (S "\n"))) e) ρ (.str (txS l)):=fun st g=>by
 obtain⟨s1,j,b,e1,hj,k1⟩:=h st g;refine⟨s1,?_,k1⟩;show Zn (evC (.str (S "\n"))) (ev F e) Ws ρ st=_;unfold Zn evC;simp only[e1];show Ws (.str (S "\n")) (.lst j) s1=_;unfold Ws;simp only[hj];rw[if_neg (by decide +kernel)]
 unfold V9;rw[WE];exact if_pos hl
theorem QU(hX:∀ x∈X,GL x)(hl:X.length<=40):match rdT (spS v X) with
  |.inl (c,i)=>∃ st',run T (n+8) 245 [.str (txS (spS v X))] st=some (mkX c i,st')/\Grw st st'
  |.inr a=>∃ st',run T (n+8) 245 [.str (txS (spS v X))] st=some (tlP a,st')/\Grw st st':=by
 have hs:=Zbx (v:=v) hX;have sl:=Zbz (v:=v) (X:=X);have tl:=ZbF (l:=spS v X) (fun y hy=>(hs y hy).2.2) (by omega)
 by_cases ne:spS v X=[]
 ·rw[ne]
  have e:rdT []=rdT [S ""]:=by
   rw[QS,QS,show rdA sd0 1 [S ""]=rdA sd0 (1+1) [] from X4 (l:=[S ""]) (m:=[]) fun y hy=>by rw[bG.mp hy];exact idl_0];rfl
  rw[e];exact JL (l:=[S ""]) (tx:=txS []) (by decide +kernel) (by decide +kernel) fun x hx=>by rw[bG.mp hx];exact .inl idl_0.s
 ·exact JL (QX Za2 ne fun p hp=>(hs p hp).2.1) (aH tl.2 (by decide)) fun x hx=>(hs x hx).1
theorem ZcL(hX:∀ x∈X,GL x)(hl:X.length<=40)(hc:exNums.contains c=true)(h:rdT (spS v X)=.inl (c,(ln:Int))):CP (run T (n+9)) 229 [.str (txS (spS v X))] st (Tl (Zag c) true ln):=by
 have rd:=QU (n:=n) (st:=st) (v:=v) hX hl;rw[h]at rd;exact Q5 hc rd
theorem JP{a:Sd}(hX:∀ x∈X,GL x)(hl:X.length<=40)(h:rdT (spS v X)=.inr a):C (run T (n+9)) s 248 [.str (txS (spS v X))] (tlP a):=
 .of (v:=c__law_read) rfl rfl (.set (.r fun _=>rfl) (.set (.call1 (.r fun _=>rfl) fun st _=>by
  have rd:=QU (n:=n) (st:=st) (v:=v) hX hl;rw[h]at rd;exact rd) (.ret (.r fun _=>rfl))))
theorem Lv.call2(ha:Lv s (ev F a ρ) ys)(hb:Y F s b ρ y)(h:∀ {s':Za}{w:Nat}{m:Bool},Grw s s'->s'[w]?=some (m,ys)->CP F f [.lst w,y] s' (fun d st'=>∃ j b,d=.lst j/\st'[j]?=some (b,xs))):Lv s (ev F (.call f (.aC a (.aC b .aN)) []) ρ) xs:=fun st g=>by
 obtain⟨s1,w,m,e1,h1,k1⟩:=ha st g;obtain⟨s2,e2,k2⟩:=hb s1 (g.trans k1);obtain⟨d,s3,e3,k3,j,b',rfl,h3⟩:=h (g.trans (k1.trans k2)) (k2.get h1);refine⟨s3,j,b',?_,h3,k1.trans (k2.trans k3)⟩;show Zm (Zn (ev F a) (Zn (ev F b) (ev F .aN) _) _) (Xd (F f) []) ρ st=_;unfold Zm Zn;simp only[e1,e2];show YY (F f ([.lst w,y]++[]) s2)=_;rw[aP,e3];exact WX rfl
theorem RP.setK(ha:Y F s a ρ (.tup xs))(h:∀ st',Grw s st'->CP F f xs st' Q')(hn:∀ d s,Q' d s->NX d=true)(g:Grw s st)(hq:∀ d s',Grw st s'->Q' d s'->RP F q (Zj ρ i d) s' Q):RP F (.seq (.set i (.call f a [])) q) ρ st Q:=by
 obtain⟨s1,e1,k1⟩:=ha st g;obtain⟨d,s2,e2,k2,hd⟩:=h s1 (g.trans k1);refine .pre (Zg (Y3 (v:=d) (st':=s2) ?_)) (k1.trans k2) (hq d s2 (k1.trans k2) hd);show Zm (ev F a) (Xd (F f) []) ρ st=_;unfold Zm;rw[e1];show YY (F f (xs++[]) s1)=_;rw[aP,e2,WX (hn d s2 hd)]
theorem RP.set3{u1 u2 u3:D}{i1 i2 i3:Nat}(h:Y F s e ρ (.tup [u1,u2,u3]))(g:Grw s st)(hq:∀ s',Grw st s'->RP F q (Zj (Zj (Zj ρ i1 u1) i2 u2) i3 u3) s' Q):RP F (.seq (.set3 i1 i2 i3 e) q) ρ st Q:=by
 obtain⟨s1,e1,k1⟩:=h st g;refine .pre (Zg ?_) k1 (hq s1 k1);show Ur i1 i2 i3 (ev F e) ρ st=_;unfold Ur;rw[e1]
end
def bw1:Li Str:=[S "-0",S "007",S "00",S "-01",S "1000000000",S "-1000000001",S "99999999999",S "+1",S "1_0",S "1.0",S "--1",S "-",S "1-"]
def bwL:Li Str:=bw1++[S "A",S "aB",S "a1",S "a_b",S "abcdefghi",S "Abc",S "a-",S "*",S "<",S "mod1"]
def bf1:Li Str:=[S " ",S "  ",S "\t",S " #",S " # a",S "\t#",S "tell",S "tell 1 2",S "tells 1",S "Tell 1",S "skip 0",S "skips",S "go"]
def bf2:Li Str:=[S "go 0 0",S "if 1 < 2 to 0",S "if 1 == 2 go 0",S "if 1 < 2 go",S "if 1 < 2 0",S "if 1 => 2 go 0"]
def bf3:Li Str:=[S "if 1 <> 2 go 0",S "go -1",S "go 01",S "go 100",S "if 1 < 2 go 01",S "if 1 < 2 go 100",S "name",S "take"]
def pt:Li Str:=[S " 1 ** 1",S " 1 // 1",S " 1 + ",S " 1 +",S " 1 < 1",S " = 1",S " 1 + 1 1"]
def tt(nm:Str):Li Str:=[S " "++nm,S " 1",S " 2 1",S " 1 2 3",S " 1 2 ",S ""]
def nt(nm:Str):Li Str:=[S " "++nm,S " 1",S " "]
def bf7(nm o:Str):Li Str:=[S "if "++nm++S " mod 1 go 0",S "names "++o,S "Name "++o,S " name "++o,S " take "++o++S " 1 2"]
section
variable {F:Nat->Fn}{s st:Za}{e a b:CE}{ρ:Env}{n i j w:Nat}{v:Int}{x y o nm k pr tl u z:Str}{l m ws:Li Str}{q:CS}{c:Bool}
abbrev Ls(F:Nat->Fn)(s:Za)(e:CE)(ρ:Env)(l:Li Str):Prop:=Lv s (ev F e ρ) (l.map D.str)
theorem Ls.cat(ha:Ls F s a ρ l)(hb:Ls F s b ρ m)(h:l.length+m.length<=1000):Ls F s (.bin .Add a b) ρ (l++m):=by
 unfold Ls;rw[cD];exact Lv.cat ha hb (by rw[aJ,aJ];exact aH h (by decide))
theorem ixG{w:Int}(h0:0<=w)(h1:w < l.length):∃ x∈l,∀ {F:Nat->Fn}{s:Za}{a b:CE}{ρ:Env},Ls F s a ρ l->Y F s b ρ (.int w)->Y F s (.ix a b) ρ (.str x):=by
 have hi:w.toNat < l.length:=by omega
 exact⟨l[w.toNat],cB hi,fun hl hb=>.ixL hl (j:=w.toNat) (by rw[bJ h0];exact hb) (by rw[aU,Lg hi];rfl)⟩
theorem Zgg:∃ x∈bwL,∀ {s:Za},C (run T (n+1)) s 257 [.int v] (.str x):=by
 have e:=Zh v (j:=23) (by decide)
 obtain⟨x,hx,hy⟩:=ixG (l:=bwL) e.1 e.2;exact⟨x,hx,fun {s}=>.of (v:=c__law_bad_word) rfl rfl (.setL (xs:=bw1.map D.str) (.mk (.r fun _=>rfl)) fun s1 j1 b1 g1 h1=>.setL (xs:=bwL.map D.str) (Ls.cat (l:=bw1) (.v h1 (.r fun _=>rfl)) (.mk (.r fun _=>rfl)) (by decide)) fun s2 j2 b2 g2 h2=>.ret (hy (.v h2 (.r fun _=>rfl)) (.md (.r fun _=>rfl) (.lenl h2 (.r fun _=>rfl)) (by decide))))⟩
theorem Wk.lst(hs:s[w]?=some (c,l.map D.str))(h:Y F s e ρ (.lst w)):Wk F s e ρ (Ux false) (l.map D.str):=fun st k=>by
 obtain⟨s1,e1,k1⟩:=h st k;have g:=(k.trans k1).get hs;refine⟨.lst w,s1,fun s'=>s'[w]?=some (c,l.map D.str),e1,k1,?_,fun st' k'=>k'.get g⟩
 show(match s1[w]? with
  |some c=>some (c.2,fun(s:Za)=>s[w]?=some c)
  |none=>none)=_
 rw[g]
theorem UX(h1:pr.cps.toList=k.cps.toList++(S " ").cps.toList)(h2:tl.cps.toList=Zu (S " ") ws):pr++nm++tl=lnS (k :: nm :: ws):=YX (by
 rw[Zi,Zi,h1,h2];show _=k.cps.toList++(((S " ").cps.toList++nm.cps.toList)++Zu (S " ") ws);rw[aM,aM,aM])
theorem UY(h:(decide (ws.length=3)&&(ws.zip [S "operand",S "put sign",S "operand"]).all fun p=>fB p.1 p.2)=false):lnB (S "put") (nm :: ws)=false:=by
 have:lnB (S "put") (nm :: ws)=((decide (ws.length+1=4)&&(fB nm (S "name")&&(ws.zip [S "operand",S "put sign",S "operand"]).all fun p=>fB p.1 p.2))&&true):=rfl
 rw[this,bY];cases q:decide (ws.length=3) with
 |true=>
  rw[q]at h;rw[show(ws.zip [S "operand",S "put sign",S "operand"]).all (fun p=>fB p.1 p.2)=false from h,Bool.and_false,Bool.and_false]
 |false=>rw[aL fun z=>of_decide_eq_false q (by omega)];rfl
theorem Tx.at(h:x.length<=12)(hr:ρ[i]?=some (some (.str x))):Tx F s ρ 12 (.var i) x:=⟨.r fun st=>by show ZA i ρ st=_;unfold ZA;rw[hr],h⟩
variable (hn:Lw nm) (ho:o∈ltL)
include hn ho
theorem ZeF(hx:x∈pt.map fun t=>S "put "++nm++t):NL x:=by
 obtain⟨t,ht,rfl⟩:=bC.mp hx;have:∀ t∈pt,∃ ws∈[[S "1",S "**",S "1"],[S "1",S "//",S "1"],[S "1",S "+",S ""],[S "1",S "+"],[S "1",S "<",S "1"],[S "=",S "1"],[S "1",S "+",S "1",S "1"]],t.cps.toList=Zu (S " ") ws:=by decide +kernel
 obtain⟨ws,hw,e⟩:=this t ht;have g:∀ ws∈[[S "1",S "**",S "1"],[S "1",S "//",S "1"],[S "1",S "+",S ""],[S "1",S "+"],[S "1",S "<",S "1"],[S "=",S "1"],[S "1",S "+",S "1",S "1"]],(decide (ws.length=3)&&(ws.zip [S "operand",S "put sign",S "operand"]).all fun p=>fB p.1 p.2)=false/\wlB (S "put" :: ws)=true/\ws.length<=4:=by decide +kernel
 obtain⟨g1,g2,g3⟩:=g ws hw;rw[UX ZT.1 e];exact(ZS (l:=[]) ⟨hn.wd,hn.vis⟩ g2 (by show ws.length+1<=5;omega)).no (UY g1)
theorem ZbE(hk:k=S "take"\/k=S "name")(hp:pr.cps.toList=k.cps.toList++(S " ").cps.toList):NL (pr++o++(S " "++nm)):=by
 rw[UX (ws:=[nm]) hp (by rw[Zi];exact(aP _).symm)]
 have w1:∀ o∈ltL,wlB (S "take" :: ([o]++[]))=true/\wlB (S "name" :: ([o]++[]))=true:=by decide +kernel
 rcases hk with rfl|rfl
 ·exact(ZS (l:=[o]) (ws:=[]) ⟨hn.wd,hn.vis⟩ (w1 o ho).1 (by show 2<=5;decide)).no rfl
 ·exact(ZS (l:=[o]) (ws:=[]) ⟨hn.wd,hn.vis⟩ (w1 o ho).2 (by show 2<=5;decide)).no rfl
theorem Zfl(hx:x∈bf1++bf2++bf3++(pt.map fun t=>S "put "++nm++t)++((tt nm).map fun t=>S "take "++o++t)++((nt nm).map fun t=>S "name "++o++t)++bf7 nm o):NL x:=by
 have w1:∀ x∈bf1++bf2++bf3,nlB x=true:=by decide +kernel
 have w2:∀ o∈ltL,∀ t∈[S " 1",S " 2 1",S " 1 2 3",S " 1 2 ",S ""],nlB (S "take "++o++t)=true:=by decide +kernel
 have w3:∀ o∈ltL,∀ t∈[S " 1",S " "],nlB (S "name "++o++t)=true:=by decide +kernel
 have w4:∀ o∈ltL,∀ x∈[S "names "++o,S "Name "++o,S " name "++o,S " take "++o++S " 1 2"],nlB x=true:=by decide +kernel
 rcases aS.mp hx with hx|hx
 ·rcases aS.mp hx with hx|hx
  ·rcases aS.mp hx with hx|hx
   ·rcases aS.mp hx with hx|hx
    ·exact .of (w1 x hx)
    ·exact ZeF hn ho hx
   ·obtain⟨t,ht,rfl⟩:=bC.mp hx
    rcases aG.mp ht with rfl|ht
    ·exact ZbE hn ho (.inl rfl) ZT.2.2.2.2.2.1
    ·exact .of (w2 o ho t ht)
  ·obtain⟨t,ht,rfl⟩:=bC.mp hx
   rcases aG.mp ht with rfl|ht
   ·exact ZbE hn ho (.inr rfl) ZT.2.2.2.2.2.2
   ·exact .of (w3 o ho t ht)
 ·rcases aG.mp hx with rfl|hx
  ·rw[UX (k:=S "if") (ws:=[S "mod",S "1",S "go",S "0"]) ZT.2.1 (by decide +kernel)]
   refine(ZS (l:=[]) ⟨hn.wd,hn.vis⟩ (by decide +kernel) (by show 5<=5;decide)).no ?_
   show lnB (S "if") [nm,S "mod",S "1",S "go",S "0"]=false
   rw[ZaV,show isL.contains (S "mod")=false by decide +kernel,dL,Bool.and_false]
  ·exact .of (w4 o ho x hx)
end
def bl1(nm o x:Str):Li Str:=[S "tell "++x,S "put "++nm++S " "++x++S " + 1",S "put "++nm++S " 1 - "++x,S "if "++x++S " < 1 go 0"]
def bl2(o x:Str):Li Str:=[S "if 1 >= "++x++S " go 0",S "take "++o++S " "++x++S " 9",S "take "++o++S " -9 "++x]
def bl3(x:Str):Li Str:=[S "take "++x++S " 1 2",S "name "++x,S "put "++x++S " 1 + 1",S "go "++x,S "if 1 < 2 go "++x]
def fa4(nm:Str):Li Str:=bf1++bf2++bf3++(pt.map fun t=>S "put "++nm++t)
def fa5(nm o:Str):Li Str:=fa4 nm++((tt nm).map fun t=>S "take "++o++t)
def fa6(nm o:Str):Li Str:=fa5 nm o++((nt nm).map fun t=>S "name "++o++t)
def fa7(nm o:Str):Li Str:=fa6 nm o++bf7 nm o
theorem Zel{nm o:Str}:(fa4 nm).length=34/\(fa5 nm o).length=40/\(fa6 nm o).length=43/\(fa7 nm o).length=48:=⟨rfl,rfl,rfl,rfl⟩
section
variable {F:Nat->Fn}{s st:Za}{e a b:CE}{ρ:Env}{n i j w:Nat}{v:Int}{x y o nm k pr tl u z:Str}{l m ws:Li Str}{q:CS}{c:Bool}
theorem Vr(ho:o∈ltL):o.length<=12:=by
 have:∀ x∈ltL,x.length<=12:=by decide +kernel
 exact this o ho
theorem Zed(hx:x∈bwL):x.length<=12:=by
 have:∀ x∈bwL,x.length<=12:=by decide +kernel
 exact this x hx
theorem Ls.comp(hs:s[w]?=some (c,l.map D.str))(h:Y F s a ρ (.lst w))(hl:l.length<=1000)(hr:ρ[i0]?=some (some (.str u)))(hu:u.length<=12)(hp:pr.length<=12)(ht:∀ t∈l,t.length<=12):Ls F s (.comp false [i0] a (.bin .Add (.bin .Add (.cst (.str pr)) (.var 1)) (.var 0)) (.cst (.bl true))) ρ (l.map fun t=>pr++u++t):=by
 unfold Ls;rw[bI];refine XU (b:=one) (en:=D.str) (g:=D.str ∘ fun t=>pr++u++t) (.lst hs h) hl fun t ht'=>?_
 have e1:Ys one ρ [i0] (.str t)=[some (.str t),some (.str u)]:=by
  show(some (D.str t)) :: [i0].map (fun i=>(ρ[i]?).join)=_
  rw[aT,hr];rfl
 rw[e1];exact(((Tx.c hp).add (Tx.at hu rfl)).add (Tx.at (ht t ht') rfl)).y
variable (hn:Lw nm) (ho:o∈ltL)
include hn ho
omit hn ho in
theorem ZgF(hs:s[w]?=some (c,l.map D.str))(ha:Y F s a ρ (.lst w)):Y F s (.len a) ρ (.int (l.length:Int)):=by
 have:=Y.lenl hs ha;rw[show((c,l.map D.str):Yb).2.length=l.length from aJ _]at this;exact this
theorem Zgd:∃ x,NL x/\∀ {s:Za},C (run T (n+1)) s 258 [.int v,.str nm,.str o] (.str x):=by
 obtain⟨f4,f5,f6,f7⟩:=Zel (nm:=nm) (o:=o);have e:=Zh v (j:=((fa7 nm o).length:Int)) (by rw[f7];decide)
 have ol:=Vr ho;have nl:nm.length<=12:=aH hn.hi (by decide)
 obtain⟨x,hx,hy⟩:=ixG (l:=fa7 nm o) e.1 e.2;have p1:∀ t∈pt,t.length<=12:=by decide +kernel
 have p2:∀ t∈[S " 1",S " 2 1",S " 1 2 3",S " 1 2 ",S "",S " "],t.length<=12:=by decide +kernel
 have p0:(S " "++nm).length<=12:=by rw[Vd,show(S " ").length=1 by decide +kernel];have:=hn.hi;omega
 have t1:∀ t∈tt nm,t.length<=12:=fun t ht=>by
  rcases aG.mp ht with rfl|ht
  ·exact p0
  ·exact p2 t (dJ [S " "] ht)
 have t2:∀ t∈nt nm,t.length<=12:=fun t ht=>by
  rcases aG.mp ht with rfl|ht
  ·exact p0
  ·rcases aG.mp ht with rfl|ht
   ·exact p2 _ (by simp)
   ·exact p2 _ (by rw[bG.mp ht];simp)
 have k1:(S "put ").length<=12/\(S "take ").length<=12/\(S "name ").length<=12:=by decide +kernel
 refine⟨x,Zfl hn ho hx,fun {s}=>.of (v:=c__law_bad_form) rfl rfl (.setL (xs:=bf1.map D.str) (.mk (.r fun _=>rfl)) fun s1 j1 b1 g1 h1=>.setL (xs:=(bf1++bf2).map D.str) (Ls.cat (.v h1 (.r fun _=>rfl)) (.mk (.r fun _=>rfl)) (by decide)) fun s2 j2 b2 g2 h2=>.setL (xs:=(bf1++bf2++bf3).map D.str) (Ls.cat (.v h2 (.r fun _=>rfl)) (.mk (.r fun _=>rfl)) (by decide)) fun s3 j3 b3 g3 h3=>?_)⟩
 refine .setL (xs:=pt.map D.str) (.mk (.r fun _=>rfl)) fun s4 j4 b4 g4 h4=>.setL (xs:=(fa4 nm).map D.str) (Ls.cat (.v (g4.get h3) (.r fun _=>rfl)) (Ls.comp (u:=nm) h4 (.r fun _=>rfl) (by decide) rfl nl k1.1 p1) (by rw[aJ];decide)) fun s5 j5 b5 g5 h5=>?_
 refine .setL (xs:=(tt nm).map D.str) (.mk (.cons ((Tx.c (x:=S " ")).add (Tx.at nl rfl)).y (.r fun _=>rfl) (by show 5 < 1000;decide))) fun s6 j6 b6 g6 h6=>.setL (xs:=(fa5 nm o).map D.str) (Ls.cat (.v (g6.get h5) (.r fun _=>rfl)) (Ls.comp (u:=o) h6 (.r fun _=>rfl) (by show 6<=1000;decide) rfl ol k1.2.1 t1) (by rw[f4,aJ];show 34+6<=1000;decide)) fun s7 j7 b7 g7 h7=>?_
 refine .setL (xs:=(nt nm).map D.str) (.mk (.cons ((Tx.c (x:=S " ")).add (Tx.at nl rfl)).y (.r fun _=>rfl) (by show 2 < 1000;decide))) fun s8 j8 b8 g8 h8=>.setL (xs:=(fa6 nm o).map D.str) (Ls.cat (.v (g8.get h7) (.r fun _=>rfl)) (Ls.comp (u:=o) h8 (.r fun _=>rfl) (by show 3<=1000;decide) rfl ol k1.2.2 t2) (by rw[f5,aJ];show 40+3<=1000;decide)) fun s9 j9 b9 g9 h9=>?_
 refine .setL (xs:=(fa7 nm o).map D.str) (Ls.cat (.v h9 (.r fun _=>rfl)) (.mk (.cons (((Tx.c (x:=S "if ")).add (Tx.at nl rfl)).add (Tx.c (x:=S " mod 1 go 0"))).y (.cons ((Tx.c (x:=S "names ")).add (Tx.at ol rfl)).y (.cons ((Tx.c (x:=S "Name ")).add (Tx.at ol rfl)).y (.cons ((Tx.c (x:=S " name ")).add (Tx.at ol rfl)).y (.cons (((Tx.c (x:=S " take ")).add (Tx.at ol rfl)).add (Tx.c (x:=S " 1 2"))).y .nil (by show 0 < 1000;decide)) (by show 1 < 1000;decide)) (by show 2 < 1000;decide)) (by show 3 < 1000;decide)) (by show 4 < 1000;decide))) (by rw[f6];show 43+5<=1000;decide)) fun s10 j10 b10 g10 h10=>?_
 exact .ret (hy (.v h10 (.r fun _=>rfl)) (.md (.r fun _=>rfl) (ZgF h10 (.r fun _=>rfl)) (by rw[f7];decide)))
omit hn in
theorem JW(hx:x∈bwL)(hy:y∈[S "tell "++x,S "if "++x++S " < 1 go 0"]++bl2 o x++bl3 x):NL y:=.of (by
 have:∀ x∈bwL,∀ y∈[S "tell "++x,S "if "++x++S " < 1 go 0",S "if 1 >= "++x++S " go 0"]++bl3 x,nlB y=true:=by decide +kernel
 have h2:∀ o∈ltL,∀ x∈bwL,∀ y∈[S "take "++o++S " "++x++S " 9",S "take "++o++S " -9 "++x],nlB y=true:=by decide +kernel
 simp only[bl2,aS,aG,bB,or_false]at hy;rcases hy with(((h|h) | (h|h|h))|h)
 ·exact this x hx y (by simp[h])
 ·exact this x hx y (by simp[h])
 ·exact this x hx y (by simp[h])
 ·exact h2 o ho x hx y (by simp[h])
 ·exact h2 o ho x hx y (by simp[h])
 ·exact this x hx y (bZ _ h))
theorem Zfn(hx:x∈bwL):NL (S "put "++nm++S " "++x++S " + 1")/\NL (S "put "++nm++S " 1 - "++x):=by
 have g:∀ x∈bwL,((decide ([x,S "+",S "1"].length=3)&&([x,S "+",S "1"].zip [S "operand",S "put sign",S "operand"]).all fun p=>fB p.1 p.2)=false/\wlB (S "put" :: [x,S "+",S "1"])=true)/\(decide ([S "1",S "-",x].length=3)&&([S "1",S "-",x].zip [S "operand",S "put sign",S "operand"]).all fun p=>fB p.1 p.2)=false/\wlB (S "put" :: [S "1",S "-",x])=true:=by decide +kernel
 obtain⟨⟨g1,g2⟩,g3,g4⟩:=g x hx;have c:(S " + 1").cps.toList=(S " ").cps.toList++((S "+").cps.toList++((S " ").cps.toList++(S "1").cps.toList))/\(S " 1 - ").cps.toList=(S " ").cps.toList++((S "1").cps.toList++((S " ").cps.toList++((S "-").cps.toList++(S " ").cps.toList))):=by decide +kernel
 refine⟨?_,?_⟩
 ·rw[show S "put "++nm++S " "++x++S " + 1"=lnS (S "put" :: nm :: [x,S "+",S "1"]) from YX (by simp only[Zi,ZT.1,c.1,lnS,ZL,Zu,aM,aP])]
  exact(ZS (l:=[]) ⟨hn.wd,hn.vis⟩ g2 (by show 4<=5;decide)).no (UY g1)
 ·rw[show S "put "++nm++S " 1 - "++x=lnS (S "put" :: nm :: [S "1",S "-",x]) from YX (by simp only[Zi,ZT.1,c.2,lnS,ZL,Zu,aM,aP])]
  exact(ZS (l:=[]) ⟨hn.wd,hn.vis⟩ g4 (by show 4<=5;decide)).no (UY g3)
theorem Zgf:∃ x,NL x/\∀ {s:Za},C (run T (n+2)) s 259 [.int v,.str nm,.str o] (.str x):=by
 have ol:=Vr ho;have nl:nm.length<=12:=aH hn.hi (by decide)
 have c0:∀ {s:Za},Y (run T (n+1)) s (.cmp .Eq (.bin .Mod (.var 0) (.cst (.int 3))) (.cst (.int 0))) [some (.int v),some (.str nm),some (.str o),none,none] (.bl (decide (v % 3=0))):=.cmp (.md (.r fun _=>rfl) (.r fun _=>rfl) (by decide)) (.r fun _=>rfl) fun _=>rfl
 by_cases h:v % 3=0
 ·rw[aF h]at c0
  obtain⟨x,hx,hc⟩:=Zgd (n:=n) (v:=v / 3) hn ho;exact⟨x,hx,fun {s}=>.of (v:=c__law_bad_line) rfl rfl (.yes c0 (.call (xs:=[.int (v / 3),.str nm,.str o]) (.cons (.fd (.r fun _=>rfl) (.r fun _=>rfl) (by decide)) (.r fun _=>rfl)) hc))⟩
 ·rw[aL h]at c0
  obtain⟨x,hx,hc⟩:=Zgg (n:=n) (v:=v / 36);have xl:=Zed hx;have e:=Zh (v / 3) (j:=12) (by decide)
  obtain⟨y,hy,hi⟩:=ixG (l:=bl1 nm o x++bl2 o x++bl3 x) e.1 (show v / 3 % 12 < ((bl1 nm o x++bl2 o x++bl3 x).length:Int) from e.2);have hb:=Zfn hn ho hx;refine⟨y,?_,fun {s}=>.of (v:=c__law_bad_line) rfl rfl (.no c0 (.set (.call1 (.fd (.r fun _=>rfl) (.r fun _=>rfl) (by decide)) hc) ?_))⟩
  ·rw[aM]at hy
   rcases aS.mp hy with hy|hy
   ·simp only[bl1,aG,bB,or_false]at hy
    rcases hy with h|h|h|h
    ·exact JW ho hx (by rw[h,aM];exact dJ _ (by simp))
    ·rw[h];exact hb.1
    ·rw[h];exact hb.2
    ·exact JW ho hx (by rw[h,aM];exact dJ _ (by simp))
   ·exact JW ho hx (by rw[aM];exact bZ _ hy)
  ·have tn:∀ {s:Za}{z:Ot D},Tx (run T (n+1)) s [some (.int v),some (.str nm),some (.str o),some (.str x),z] 12 (.var 1) nm:=fun {s z}=>.at nl rfl
   have to:∀ {s:Za}{z:Ot D},Tx (run T (n+1)) s [some (.int v),some (.str nm),some (.str o),some (.str x),z] 12 (.var 2) o:=fun {s z}=>.at ol rfl
   have tx:∀ {s:Za}{z:Ot D},Tx (run T (n+1)) s [some (.int v),some (.str nm),some (.str o),some (.str x),z] 12 (.var 3) x:=fun {s z}=>.at xl rfl
   refine .setL (xs:=(bl1 nm o x).map D.str) (.mk (.cons ((Tx.c (x:=S "tell ")).add tx).y (.cons (((((Tx.c (x:=S "put ")).add tn).add (Tx.c (x:=S " "))).add tx).add (Tx.c (x:=S " + 1"))).y (.cons ((((Tx.c (x:=S "put ")).add tn).add (Tx.c (x:=S " 1 - "))).add tx).y (.cons (((Tx.c (x:=S "if ")).add tx).add (Tx.c (x:=S " < 1 go 0"))).y .nil (by show 0 < 1000;decide)) (by show 1 < 1000;decide)) (by show 2 < 1000;decide)) (by show 3 < 1000;decide))) fun s1 j1 b1 g1 h1=>?_
   refine .setL (xs:=(bl1 nm o x++bl2 o x).map D.str) (Ls.cat (.v h1 (.r fun _=>rfl)) (.mk (.cons (((Tx.c (x:=S "if 1 >= ")).add tx).add (Tx.c (x:=S " go 0"))).y (.cons (((((Tx.c (x:=S "take ")).add to).add (Tx.c (x:=S " "))).add tx).add (Tx.c (x:=S " 9"))).y (.cons ((((Tx.c (x:=S "take ")).add to).add (Tx.c (x:=S " -9 "))).add tx).y .nil (by show 0 < 1000;decide)) (by show 1 < 1000;decide)) (by show 2 < 1000;decide))) (by show 4+3<=1000;decide)) fun s2 j2 b2 g2 h2=>?_
   refine .setL (xs:=(bl1 nm o x++bl2 o x++bl3 x).map D.str) (Ls.cat (.v h2 (.r fun _=>rfl)) (.mk (.cons (((Tx.c (x:=S "take ")).add tx).add (Tx.c (x:=S " 1 2"))).y (.cons ((Tx.c (x:=S "name ")).add tx).y (.cons (((Tx.c (x:=S "put ")).add tx).add (Tx.c (x:=S " 1 + 1"))).y (.cons ((Tx.c (x:=S "go ")).add tx).y (.cons ((Tx.c (x:=S "if 1 < 2 go ")).add tx).y .nil (by show 0 < 1000;decide)) (by show 1 < 1000;decide)) (by show 2 < 1000;decide)) (by show 3 < 1000;decide)) (by show 4 < 1000;decide))) (by show 7+5<=1000;decide)) fun s3 j3 b3 g3 h3=>?_
   exact .ret (hi (.v h3 (.r fun _=>rfl)) (.md (.fd (.r fun _=>rfl) (.r fun _=>rfl) (by decide)) (.r fun _=>rfl) (by decide)))
end
def bk1:Li Str:=[S "tell 1",S "skip",S "go 0",S "if 1 < 2 go 0",S "if 1 >= -2 go 1",S "put a 1 + 1"]
def bkL(o:Str):Li Str:=bk1++[S "name "++o,S "take "++o++S " 1 2"]
def bkT:Li Str:=[S " ",S "\t",S " a",S "\t "]
section
variable {F:Nat->Fn}{s st:Za}{e a b:CE}{ρ:Env}{n i j w:Nat}{v:Int}{x y o nm k pr tl u z:Str}{l m ws:Li Str}{q:CS}{c:Bool}
theorem Zfm(ho:o∈ltL)(hx:x∈bkL o):(0 < x.length/\x.length<=20)/\nlB (S " "++x)=true/\(∀ t∈bkT,nlB (x++t)=true)/\∀ i < x.length,nlB (Z9 x none (some (i:Int))++S " "++Z9 x (some (i:Int)) none)=true:=by
 have:∀ o∈ltL,∀ x∈bkL o,(0 < x.length/\x.length<=20)/\nlB (S " "++x)=true/\(∀ t∈bkT,nlB (x++t)=true)/\∀ i < x.length,nlB (Z9 x none (some (i:Int))++S " "++Z9 x (some (i:Int)) none)=true:=by decide +kernel
 exact this o ho x hx
theorem Zge(ho:o∈ltL)(hx:x∈bkL o):∃ y,NL y/\∀ {s:Za},C (run T (n+1)) s 260 [.str x,.int v] (.str y):=by
 obtain⟨⟨x0,xl⟩,h1,h2,h3⟩:=Zfm ho hx;have c0:∀ {s:Za} (z:Int),Y (run T n) s (.cmp .Eq (.bin .Mod (.var 1) (.cst (.int 3))) (.cst (.int z))) [some (.str x),some (.int v),none] (.bl (decide (v % 3=z))):=fun z=>.cmp (.md (.r fun _=>rfl) (.r fun _=>rfl) (by decide)) (.r fun _=>rfl) fun _=>rfl
 have yx:∀ {s:Za}{z:Ot D},Y (run T n) s (.var 0) [some (.str x),some (.int v),z] (.str x):=.r fun _=>rfl
 have sl:(S " ").length=1:=by decide +kernel
 by_cases e0:v % 3=0
 ·have c1:∀ {s:Za},Y (run T n) s _ _ (.bl true):=fun {s}=>by have:=c0 (s:=s) 0;rw[aF e0]at this;exact this
  exact⟨_,.of h1,fun {s}=>.of (v:=c__law_blanked) rfl rfl (.yes c1 (.ct (.r fun _=>rfl) yx (by unfold Zc;omega)))⟩
 ·have c1:∀ {s:Za},Y (run T n) s _ _ (.bl false):=fun {s}=>by have:=c0 (s:=s) 0;rw[aL e0]at this;exact this
  by_cases e1:v % 3=1
  ·have c2:∀ {s:Za},Y (run T n) s _ _ (.bl true):=fun {s}=>by have:=c0 (s:=s) 1;rw[aF e1]at this;exact this
   have e:=Zh (v / 3) (j:=4) (by decide)
   obtain⟨t,ht,hy⟩:=ixG (l:=bkT) e.1 e.2;have tl:t.length<=12:=by
    have:∀ t∈bkT,t.length<=12:=by decide +kernel
    exact this t ht
   exact⟨_,.of (h2 t ht),fun {s}=>.of (v:=c__law_blanked) rfl rfl (.no c1 (.yes c2 (.ct yx (hy (.mk (.r fun _=>rfl)) (.md (.fd (.r fun _=>rfl) (.r fun _=>rfl) (by decide)) (.r fun _=>rfl) (by decide))) (by unfold Zc;omega))))⟩
  ·have c2:∀ {s:Za},Y (run T n) s _ _ (.bl false):=fun {s}=>by have:=c0 (s:=s) 1;rw[aL e1]at this;exact this
   have e:=Zh (v / 3) (j:=(x.length:Int)) (by omega)
   obtain⟨i,hi⟩:∃ i:Nat,v / 3 % (x.length:Int)=(i:Int):=⟨_,(bJ e.1).symm⟩;have hl:x.length<=Zc:=by unfold Zc;omega
   have ll:∀ {x:Str}{i:Nat},x.length<=20->(Z9 x none (some (i:Int))).length<=20/\(Z9 x (some (i:Int)) none).length<=20:=fun {x i} h=>by
    rw[<-len_list,<-len_list,Yv,We,bF,cA,len_list];omega
   have l1:=ll (i:=i) xl;refine⟨_,.of (h3 i (by omega)),fun {s}=>.of (v:=c__law_blanked) rfl rfl (.no c1 (.no c2 (.set (x:=.int (i:Int)) (by rw[<-hi];exact .md (.fd (.r fun _=>rfl) (.r fun _=>rfl) (by decide)) (.len hl yx) (by omega)) (.ret (.ct (.ct (.tk hl yx (.r fun _=>rfl)) (.r fun _=>rfl) (by unfold Zc;omega)) (.dp hl yx (.r fun _=>rfl)) (by rw[Vd];unfold Zc;omega))))))⟩
end
abbrev en3(p:Pg)(w:Nat)(cc v:Int)(x7 x8 x9 x10 x11 x12:Ot D):Env:=[some (pgE p),some (.lst w),some (.int cc),some (.int v),some (.int (p.m:Int)),some (.int (p.tk.length:Int)),some (.int (p.rw.length:Int)),x7,x8,x9,x10,x11,x12]
def nn1(o:Str):Li (Li Str):=[[S "tell",o],[S "put",o,S "1",S "+",S "1"],[S "if",o,S "<",S "1",S "go",S "0"],[S "if",S "1",S ">=",o,S "go",S "0"]]
def nnL(N:Li Str)(o:Str):Li (Li Str):=[[S "tell",o],[S "put",o,S "1",S "+",S "1"],[S "put",N.getD 0 (S ""),S "1",S "-",o],[S "if",o,S "<",S "1",S "go",S "0"]]++[[S "if",S "1",S ">=",o,S "go",S "0"]]
section
variable {F:Nat->Fn}{s st:Za}{e a b:CE}{ρ:Env}{n i j w:Nat}{v cc:Int}{x y o nm k pr tl u z:Str}{l M ws N:Li Str}{q:CS}{c m:Bool}{p:Pg}{sz:Nat}{xs:Li D}{d:D}{x7 x8 x9 x10 x11 x12:Ot D}
theorem Y.callL1{f:Nat}(ha:Lv s (ev F a ρ) xs)(h:∀ {s':Za}{j:Nat}{m:Bool},s'[j]?=some (m,xs)->C F s' f [.lst j] d)(hn:NX d=true:=by rfl):Y F s (.call f (.aC a .aN) []) ρ d:=fun st g=>by
 obtain⟨s1,j,m,e1,h1,k1⟩:=ha st g;obtain⟨s2,e2,k2⟩:=h h1 s1 .refl;refine⟨s2,?_,k1.trans k2⟩;show Zm (Zn (ev F a) (ev F .aN) _) (Xd (F f) []) ρ st=_;unfold Zm Zn;simp only[e1];show YY (F f ([.lst j]++[]) s1)=_;rw[aP,e2,WX hn]
theorem ixW{l:Li (Li Str)}{w:Int}(h0:0<=w)(h1:w < l.length):∃ ws∈l,∀ {F:Nat->Fn}{s:Za}{a b:CE}{ρ:Env},Lv s (ev F a ρ) (l.map fun ws=>D.str (lnS ws))->Y F s b ρ (.int w)->Y F s (.ix a b) ρ (.str (lnS ws)):=by
 have hi:w.toNat < l.length:=by omega
 exact⟨l[w.toNat],cB hi,fun hl hb=>.ixL hl (j:=w.toNat) (by rw[bJ h0];exact hb) (by rw[aU,Lg hi];rfl)⟩
theorem YD(a:Int){b:Int}(h:0 < b):∃ i:Nat,a % b=(i:Int)/\(i:Int) < b:=by
 have:=Zh a h;exact⟨(a % b).toNat,(bJ this.1).symm,by omega⟩
variable (hN:Nms N) (hp:PgOk sz p)
include hN hp
theorem ZfO(ho:o∈ltL)(hM:o∉N.take p.m)(h1:p.m<=i)(h2:i<=p.m+p.rw.length)(hw:ws∈nnL N o):Fa N p 2 i (lnS ws):=by
 have g:∀ o∈ltL,∀ ws∈nn1 o,wlB ws=true/\lnB (ws.headD (S "")) ws.tail=true/\¬(ws.headD (S "")=S "take"\/ws.headD (S "")=S "name")/\o∈Z0 (ws.headD (S "")) ws.tail:=by decide +kernel
 have fin:∀ {k ws},k :: ws∈nn1 o->Fa N p 2 i (lnS (k :: ws)):=fun {k ws} h=>by
  obtain⟨q1,q2,q3,q4⟩:=g o ho _ h;exact .nn (x:=o) (ZdN q1) q2 q3 q4 hM h1 h2
 simp only[nnL,aS,aG,bB,or_false]at hw;rcases hw with(rfl|rfl|rfl|rfl)|rfl
 ·exact fin (by simp[nn1])
 ·exact fin (by simp[nn1])
 ·have n:=(Zz hN (i:=0) (by decide)).2
  have:∀ o∈ltL,wlB (S "put" :: ([]++[S "1",S "-",o]))=true/\fB o (S "operand")=true/\nmB o=true:=by decide +kernel
  obtain⟨q1,q2,q3⟩:=this o ho;refine .nn (x:=o) (ZS (l:=[]) ⟨n.wd,n.vis⟩ q1 (by show 4<=5;decide)) ?_ (by decide +kernel) ?_ hM h1 h2
  ·show lnB (S "put") [N.getD 0 (S ""),S "1",S "-",o]=true
   rw[ZaW,n.nm,q2,show fB (S "1") (S "operand")=true by decide +kernel,show psL.contains (S "-")=true by decide +kernel];rfl
  ·refine bC.mpr ⟨(o,S "operand"),cP.mpr ⟨?_,?_⟩,rfl⟩
   ·show _∈[_,_,_,(o,S "operand")]
    simp
   ·show((_||(S "operand"==S "operand"))&&nmB o)=true
    rw[q3,beq_self_eq_true,cK];rfl
 ·exact fin (by simp[nn1])
 ·exact fin (by simp[nn1])
variable (hs:s[w]?=some (m,N.map D.str)) (hz:sz<=11)
include hs hz
theorem Zee:(S " 1 2").cps.toList=(S " ").cps.toList++((S "1").cps.toList++((S " ").cps.toList++(S "2").cps.toList))/\(S " 1 + 1").cps.toList=(S " ").cps.toList++((S "1").cps.toList++((S " ").cps.toList++((S "+").cps.toList++((S " ").cps.toList++(S "1").cps.toList))))/\(S " 1 - ").cps.toList=(S " ").cps.toList++((S "1").cps.toList++((S " ").cps.toList++((S "-").cps.toList++(S " ").cps.toList)))/\(S " < 1 go 0").cps.toList=(S " ").cps.toList++((S "<").cps.toList++((S " ").cps.toList++((S "1").cps.toList++((S " ").cps.toList++((S "go").cps.toList++((S " ").cps.toList++(S "0").cps.toList))))))/\(S "if 1 >= ").cps.toList=(S "if").cps.toList++((S " ").cps.toList++((S "1").cps.toList++((S " ").cps.toList++((S ">=").cps.toList++(S " ").cps.toList))))/\(S " go 0").cps.toList=(S " ").cps.toList++((S "go").cps.toList++((S " ").cps.toList++(S "0").cps.toList))/\(S "if 1 < 2 go ").cps.toList=(S "if").cps.toList++((S " ").cps.toList++((S "1").cps.toList++((S " ").cps.toList++((S "<").cps.toList++((S " ").cps.toList++((S "2").cps.toList++((S " ").cps.toList++((S "go").cps.toList++(S " ").cps.toList)))))))):=by decide +kernel
theorem Zgs(h1:0 < p.m)(h2:p.m < 5):∃ i x,Fa N p 1 i x/\∀ {q:CS},R (run T (n+3)) s (.seq (.ite (.and (.cmp .Lt (.cst (.int 0)) (.var 5)) (.and (.cmp .Lt (.var 5) (.cst (.int 3))) (.cmp .Eq (.bin .Mod (.var 3) (.cst (.int 2))) (.cst (.int 0))))) (.seq (.set 7 (.bin .Add (.cst (.int 1)) (.bin .Mod (.bin .FloorDiv (.var 3) (.cst (.int 2))) (.var 5))))
 (.seq (.ret (.tupE (.aC (.cst (.int 1)) (.aC (.var 7) (.aC (.bin .Add (.bin .Add (.cst (.str (S "take "))) (.ix (.var 1) (.bin .Mod (.bin .FloorDiv (.var 3) (.cst (.int 6))) (.var 7)))) (.cst (.str (S " 1 2")))) .aN)))))
 .skip)) .skip)
 (.seq (.set 7 (.bin .Add (.max (.cst (.int 1)) (.var 5)) (.bin .Mod (.bin .FloorDiv (.var 3) (.cst (.int 2))) (.bin .Add (.bin .Sub (.var 4) (.max (.cst (.int 1)) (.var 5))) (.cst (.int 1))))))
 (.seq (.ret (.tupE (.aC (.cst (.int 1)) (.aC (.var 7) (.aC (.bin .Add (.cst (.str (S "name "))) (.ix (.var 1) (.bin .Mod (.bin .FloorDiv (.var 3) (.cst (.int 60))) (.var 7)))) .aN)))))
 q))) (en3 p w cc v none none none none none none) (.tup [.int 1,.int (i:Int),.str x]):=by
 have tm:=hp.tm;have t3:=hp.t3;have cf:=Zee hN hp hs hz;have cd:Y (run T (n+3)) s (.and (.cmp .Lt (.cst (.int 0)) (.var 5)) (.and (.cmp .Lt (.var 5) (.cst (.int 3))) (.cmp .Eq (.bin .Mod (.var 3) (.cst (.int 2))) (.cst (.int 0))))) (en3 p w cc v none none none none none none) (.bl (decide (0 < p.tk.length)&&(decide (p.tk.length < 3)&&decide (v % 2=0)))):=.and (.cmp (.r fun _=>rfl) (.r fun _=>rfl) fun _=>by show some (decide ((0:Int) < (p.tk.length:Int)))=_;exact congrArg some (decide_eq_decide.mpr (by omega))) fun _=>.and (.cmp (.r fun _=>rfl) (.r fun _=>rfl) fun _=>by show some (decide ((p.tk.length:Int) < (3:Int)))=_;exact congrArg some (decide_eq_decide.mpr (by omega))) fun _=>.cmp (.md (.r fun _=>rfl) (.r fun _=>rfl) (by decide)) (.r fun _=>rfl) fun _=>rfl
 by_cases h:0 < p.tk.length/\p.tk.length < 3/\v % 2=0
 ·rw[aF h.1,aF h.2.1,aF h.2.2]at cd
  obtain⟨j,ej,hj⟩:=YD (v / 2) (b:=(p.tk.length:Int)) (by omega)
  obtain⟨t,et,ht⟩:=YD (v / 6) (b:=((1+j:Nat):Int)) (by omega)
  refine⟨1+j,_,.tt (q:=t) (by omega) h.2.1 (by omega),fun {q}=>.yB cd (.set (x:=.int ((1+j:Nat):Int)) (by rw[show((1+j:Nat):Int)=1+(j:Int) by omega,<-ej];exact .add (.r fun _=>rfl) (.md (.fd (.r fun _=>rfl) (.r fun _=>rfl) (by decide)) (.r fun _=>rfl) (by omega))) (.ret (.cons (.r fun _=>rfl) (.cons (.r fun _=>rfl) (.cons ?_ .nil)))))⟩
  refine(((Tx.c (x:=S "take ")).add (Tx.nm hN hs (i:=t) (.r fun _=>rfl) (by rw[<-et];exact .md (.fd (.r fun _=>rfl) (.r fun _=>rfl) (by decide)) (.r fun _=>rfl) (by omega)) (by omega))).add (Tx.c (x:=S " 1 2"))).y.fin ?_
  simp only[Zi,ZT.2.2.2.2.2.1,cf.1,ZL,Zu,aM,aP]
 ·have cf':(decide (0 < p.tk.length)&&(decide (p.tk.length < 3)&&decide (v % 2=0)))=false:=by
   rw[<-eG,<-eG];exact aL h
  rw[cf']at cd;obtain⟨mx,hmx⟩:∃ mx:Int,(if (p.tk.length:Int) > 1 then (p.tk.length:Int) else 1)=mx:=⟨_,rfl⟩
  have bm:1<=mx/\(p.tk.length:Int)<=mx/\mx<=p.m:=by rw[<-hmx];split<;>omega
  obtain⟨j,ej,hj⟩:=YD (v / 2) (b:=(p.m:Int) - mx+1) (by omega)
  obtain⟨i,hi⟩:∃ i:Nat,mx+(j:Int)=(i:Int):=⟨_,(bJ (by omega)).symm⟩
  obtain⟨t,et,ht⟩:=YD (v / 60) (b:=(i:Int)) (by omega)
  have ym:∀ {ρ:Env},ρ[5]?=some (some (.int (p.tk.length:Int)))->Y (run T (n+3)) s (.max (.cst (.int 1)) (.var 5)) ρ (.int mx):=fun {ρ} h=>by
   rw[<-hmx];exact .mx (.r fun _=>rfl) (.r fun st=>by show ZA 5 ρ st=_;unfold ZA;rw[h])
  refine⟨i,_,.tn (q:=t) (by omega) h2 (by omega),fun {q}=>.no cd (.set (x:=.int (i:Int)) (by rw[<-hi,<-ej];exact .add (ym rfl) (.md (.fd (.r fun _=>rfl) (.r fun _=>rfl) (by decide)) (.add (.sub (.r fun _=>rfl) (ym rfl)) (.r fun _=>rfl)) (by omega))) (.ret (.cons (.r fun _=>rfl) (.cons (.r fun _=>rfl) (.cons ?_ .nil)))))⟩
  refine((Tx.c (x:=S "name ")).add (Tx.nm hN hs (i:=t) (.r fun _=>rfl) (by rw[<-et];exact .md (.fd (.r fun _=>rfl) (.r fun _=>rfl) (by decide)) (.r fun _=>rfl) (by omega)) (by omega))).y.fin ?_
  simp only[Zi,ZT.2.2.2.2.2.2,ZL,Zu,aM,aP]
theorem Zgt(ho:o∈ltL)(hM:o∉N.take p.m)(h1:p.m<=i)(h2:i<=p.m+p.rw.length):∃ x,Fa N p 2 i x/\R (run T (n+3)) s (.seq (.set 10 (.lstE (.aC (.bin .Add (.cst (.str (S "tell "))) (.var 9)) (.aC (.bin .Add (.bin .Add (.cst (.str (S "put "))) (.var 9)) (.cst (.str (S " 1 + 1")))) (.aC (.bin .Add (.bin .Add (.bin .Add (.cst (.str (S "put "))) (.ix (.var 1) (.cst (.int 0)))) (.cst (.str (S " 1 - ")))) (.var 9)) (.aC (.bin .Add (.bin .Add (.cst (.str (S "if "))) (.var 9)) (.cst (.str (S " < 1 go 0")))) .aN))))))
 (.seq (.set 10 (.bin .Add (.var 10) (.lstE (.aC (.bin .Add (.bin .Add (.cst (.str (S "if 1 >= "))) (.var 9)) (.cst (.str (S " go 0")))) .aN))))
 (.seq (.ite (.cmp .Eq (.var 4) (.cst (.int 0))) (.seq (.ret (.tupE (.aC (.cst (.int 2)) (.aC (.var 8) (.aC (.bin .Add (.cst (.str (S "tell "))) (.var 9)) .aN)))))
 .skip) .skip)
 (.seq (.ret (.tupE (.aC (.cst (.int 2)) (.aC (.var 8) (.aC (.ix (.var 10) (.bin .Mod (.bin .FloorDiv (.var 3) (.cst (.int 60))) (.cst (.int 5)))) .aN)))))
 .skip)))) (en3 p w cc v none (some (.int (i:Int))) (some (.str o)) none none none) (.tup [.int 2,.int (i:Int),.str x]):=by
 have cf:=Zee hN hp hs hz;have ol:=Vr ho;have e:=Zh (v / 60) (j:=5) (by decide)
 obtain⟨ws,hw,hy⟩:=ixW (l:=nnL N o) e.1 (show v / 60 % 5 < ((nnL N o).length:Int) from e.2);have to:∀ {s:Za}{z:Ot D},Tx (run T (n+3)) s (en3 p w cc v none (some (.int (i:Int))) (some (.str o)) z none none) 12 (.var 9) o:=fun {s z}=>.at ol rfl
 have te:∀ {s:Za}{z:Ot D},Y (run T (n+3)) s (.bin .Add (.cst (.str (S "tell "))) (.var 9)) (en3 p w cc v none (some (.int (i:Int))) (some (.str o)) z none none) (.str (lnS [S "tell",o])):=fun {s z}=>((Tx.c (x:=S "tell ")).add to).y.fin (by simp only[Zi,ZT.2.2.2.1,ZL,Zu,aM,aP])
 have l1:Lv s (ev (run T (n+3)) (.lstE (.aC (.bin .Add (.cst (.str (S "tell "))) (.var 9)) (.aC (.bin .Add (.bin .Add (.cst (.str (S "put "))) (.var 9)) (.cst (.str (S " 1 + 1")))) (.aC (.bin .Add (.bin .Add (.bin .Add (.cst (.str (S "put "))) (.ix (.var 1) (.cst (.int 0)))) (.cst (.str (S " 1 - ")))) (.var 9)) (.aC (.bin .Add (.bin .Add (.cst (.str (S "if "))) (.var 9)) (.cst (.str (S " < 1 go 0")))) .aN))))) (en3 p w cc v none (some (.int (i:Int))) (some (.str o)) none none none)) [.str (lnS [S "tell",o]),.str (lnS [S "put",o,S "1",S "+",S "1"]),.str (lnS [S "put",N.getD 0 (S ""),S "1",S "-",o]),.str (lnS [S "if",o,S "<",S "1",S "go",S "0"])]:=by
  refine .mk (.cons te (.cons ((((Tx.c (x:=S "put ")).add to).add (Tx.c (x:=S " 1 + 1"))).y.fin ?_) (.cons (((((Tx.c (x:=S "put ")).add (Tx.nm hN hs (i:=0) (.r fun _=>rfl) (.r fun _=>rfl) (by decide))).add (Tx.c (x:=S " 1 - "))).add to).y.fin ?_) (.cons ((((Tx.c (x:=S "if ")).add to).add (Tx.c (x:=S " < 1 go 0"))).y.fin ?_) .nil))))
  ·simp only[Zi,ZT.1,cf.2.1,ZL,Zu,aM,aP]
  ·simp only[Zi,ZT.1,cf.2.2.1,ZL,Zu,aM,aP]
  ·simp only[Zi,ZT.2.1,cf.2.2.2.1,ZL,Zu,aM,aP]
 have cd:∀ {s:Za}{z:Ot D},Y (run T (n+3)) s (.cmp .Eq (.var 4) (.cst (.int 0))) (en3 p w cc v none (some (.int (i:Int))) (some (.str o)) z none none) (.bl (decide (p.m=0))):=.cmp (.r fun _=>rfl) (.r fun _=>rfl) fun _=>by show some (decide ((p.m:Int)=(0:Int)))=_;exact congrArg some (decide_eq_decide.mpr (by omega))
 refine⟨_,ZfO hN hp ho hM h1 h2 (ws:=if p.m=0 then [S "tell",o] else ws) (by split<;>first|exact hw|simp[nnL]),.setL l1 fun s1 j1 b1 g1 k1=>.setL (xs:=(nnL N o).map fun ws=>D.str (lnS ws)) (.cat (.v k1 (.r fun _=>rfl)) (ys:=[.str (lnS [S "if",S "1",S ">=",o,S "go",S "0"])]) (.mk (.cons ((((Tx.c (x:=S "if 1 >= ")).add to).add (Tx.c (x:=S " go 0"))).y.fin ?_) .nil)) (by show 4+1<=Zc;decide)) fun s2 j2 b2 g2 k2=>?_⟩
 ·simp only[Zi,cf.2.2.2.2.1,cf.2.2.2.2.2.1,ZL,Zu,aM,aP]
 ·by_cases h:p.m=0
  ·rw[aF h]at cd
   rw[if_pos h];exact .yes cd (.cons (.r fun _=>rfl) (.cons (.r fun _=>rfl) (.cons te .nil)))
  ·rw[aL h]at cd
   rw[if_neg h];exact .no cd (.ret (.cons (.r fun _=>rfl) (.cons (.r fun _=>rfl) (.cons (hy (.v k2 (.r fun _=>rfl)) (.md (.fd (.r fun _=>rfl) (.r fun _=>rfl) (by decide)) (.r fun _=>rfl) (by decide))) .nil))))
theorem Zgu(h1:p.m<=i)(h2:i<=p.m+p.rw.length):∃ x,Fa N p 3 i x/\R (run T (n+3)) s (.seq (.set 11 (.strOf (.bin .Add (.bin .Add (.var 6) (.cst (.int 2))) (.bin .Mod (.bin .FloorDiv (.var 3) (.cst (.int 60))) (.bin .Sub (.cst (.int 98)) (.var 6))))))
 (.seq (.ret (.tupE (.aC (.cst (.int 3)) (.aC (.var 8) (.aC (.ix (.lstE (.aC (.bin .Add (.cst (.str (S "go "))) (.var 11)) (.aC (.bin .Add (.cst (.str (S "if 1 < 2 go "))) (.var 11)) .aN))) (.bin .Mod (.bin .FloorDiv (.var 3) (.cst (.int 7200))) (.cst (.int 2)))) .aN)))))
 .skip)) (en3 p w cc v none (some (.int (i:Int))) x9 none none none) (.tup [.int 3,.int (i:Int),.str x]):=by
 have cf:=Zee hN hp hs hz;have hr:=hp.r;obtain⟨j,ej,hj⟩:=YD (v / 60) (b:=98 - (p.rw.length:Int)) (by omega)
 have e:=Zh (v / 7200) (j:=2) (by decide)
 obtain⟨g,hg⟩:∃ g:Nat,p.rw.length+2+j=g:=⟨_,rfl⟩;obtain⟨ws,hw,hy⟩:=ixW (l:=[[S "go",nuS (g:Int)],[S "if",S "1",S "<",S "2",S "go",nuS (g:Int)]]) e.1 (show v / 7200 % 2 < (2:Int) from e.2)
 have tg:=Tx.nu (F:=run T (n+3)) (s:=s) (ρ:=en3 p w cc v none (some (.int (i:Int))) x9 none none none) (v:=(g:Int)) (e:=.bin .Add (.bin .Add (.var 6) (.cst (.int 2))) (.bin .Mod (.bin .FloorDiv (.var 3) (.cst (.int 60))) (.bin .Sub (.cst (.int 98)) (.var 6)))) ⟨by omega,by omega⟩ (by
  rw[show(g:Int)=(p.rw.length:Int)+2+(j:Int) by omega,<-ej]
  exact .add (.add (.r fun _=>rfl) (.r fun _=>rfl)) (.md (.fd (.r fun _=>rfl) (.r fun _=>rfl) (by decide)) (.sub (.r fun _=>rfl) (.r fun _=>rfl)) (by omega)))
 have t2:Tx (run T (n+3)) s (en3 p w cc v none (some (.int (i:Int))) x9 none (some (.str (nuS (g:Int)))) none) 12 (.var 11) (nuS (g:Int)):=.at tg.l rfl;have hw':ws=[S "go",nuS (g:Int)]\/ws=[S "if",S "1",S "<",S "2",S "go",nuS (g:Int)]:=by simpa using hw
 refine⟨lnS ws,?_,.set tg.y (.ret (.cons (.r fun _=>rfl) (.cons (.r fun _=>rfl) (.cons (hy (.mk (.cons (((Tx.c (x:=S "go ")).add t2).y.fin ?_) (.cons (((Tx.c (x:=S "if 1 < 2 go ")).add t2).y.fin ?_) .nil (by show 0 < 1000;decide)) (by show 1 < 1000;decide))) (.md (.fd (.r fun _=>rfl) (.r fun _=>rfl) (by decide)) (.r fun _=>rfl) (by decide))) .nil))))⟩
 ·rcases hw' with rfl|rfl
  ·exact .np (g:=g) (by omega) (by omega) (.inl rfl) h1 h2
  ·exact .np (g:=g) (by omega) (by omega) (.inr rfl) h1 h2
 ·simp only[Zi,ZT.2.2.1,ZL,Zu,aM,aP]
 ·simp only[Zi,cf.2.2.2.2.2.2,ZL,Zu,aM,aP]
end
section
variable {F:Nat->Fn}{s st:Za}{n i j w:Nat}{v cc:Int}{x o:Str}{N:Li Str}{m:Bool}{p:Pg}{sz:Nat}
variable (hN:Nms N) (hp:PgOk sz p) (hs:s[w]?=some (m,N.map D.str)) (hz:sz<=11)
include hN hp hs hz
theorem Zgh:∃ k i x,Fa N p k i x/\k<=3/\C (run T (n+4)) s 256 [pgE p,.lst w,.int cc,.int v] (.tup [.int (k:Int),.int (i:Int),.str x]):=by
 have m5:=hp.m5;have nl:=hN.l;have pre:∀ {d},R (run T (n+3)) s _ (en3 p w cc v none none none none none none) d->C (run T (n+4)) s 256 [pgE p,.lst w,.int cc,.int v] d:=fun {d} h=>.of (v:=c__law_fault_k14) rfl rfl (.set (.r fun _=>rfl) (.set (x:=.int (p.tk.length:Int)) (by
  have:=Y.lent (F:=run T (n+3)) (s:=s) (ρ:=[some (pgE p),some (.lst w),some (.int cc),some (.int v),some (.int (p.m:Int)),none,none,none,none,none,none,none,none]) (a:=.ix (.var 0) (.cst (.int 0))) (xs:=p.tk.map tkE) (.r fun _=>rfl)
  rw[aJ]at this;exact this) (.set (x:=.int (p.rw.length:Int)) (by
  have:=Y.lent (F:=run T (n+3)) (s:=s) (ρ:=[some (pgE p),some (.lst w),some (.int cc),some (.int v),some (.int (p.m:Int)),some (.int (p.tk.length:Int)),none,none,none,none,none,none,none]) (a:=.ix (.var 0) (.cst (.int 2))) (xs:=p.rw.map rwE) (.r fun _=>rfl)
  rw[aJ]at this;exact this) h)))
 have c6:∀ {s:Za}{ρ:Env} (z:Int),ρ[2]?=some (some (.int cc))->Y (run T (n+3)) s (.cmp .Eq (.bin .Mod (.var 2) (.cst (.int 6))) (.cst (.int z))) ρ (.bl (decide (cc % 6=z))):=fun {s ρ} z h=>.cmp (.md (.r fun st=>by show ZA 2 ρ st=_;unfold ZA;rw[h]) (.r fun _=>rfl) (by decide)) (.r fun _=>rfl) fun _=>rfl
 have cT:∀ {s:Za}{ρ:Env}{z:Int},cc % 6=z->ρ[2]?=some (some (.int cc))->Y (run T (n+3)) s (.cmp .Eq (.bin .Mod (.var 2) (.cst (.int 6))) (.cst (.int z))) ρ (.bl true):=fun {s ρ z} e h=>by have:=c6 (s:=s) z h;rw[aF e]at this;exact this
 have cF:∀ {s:Za}{ρ:Env}{z:Int},¬cc % 6=z->ρ[2]?=some (some (.int cc))->Y (run T (n+3)) s (.cmp .Eq (.bin .Mod (.var 2) (.cst (.int 6))) (.cst (.int z))) ρ (.bl false):=fun {s ρ z} e h=>by have:=c6 (s:=s) z h;rw[aL e]at this;exact this
 have cd:Y (run T (n+3)) s (.and (.cmp .Eq (.bin .Mod (.var 2) (.cst (.int 6))) (.cst (.int 0))) (.and (.cmp .Lt (.cst (.int 0)) (.var 4)) (.cmp .Lt (.var 4) (.cst (.int 5))))) (en3 p w cc v none none none none none none) (.bl (decide (cc % 6=0)&&(decide (0 < p.m)&&decide (p.m < 5)))):=.and (c6 0 rfl) fun _=>.and (.cmp (.r fun _=>rfl) (.r fun _=>rfl) fun _=>by show some (decide ((0:Int) < (p.m:Int)))=_;exact congrArg some (decide_eq_decide.mpr (by omega))) fun _=>.cmp (.r fun _=>rfl) (.r fun _=>rfl) fun _=>by show some (decide ((p.m:Int) < (5:Int)))=_;exact congrArg some (decide_eq_decide.mpr (by omega))
 by_cases h:cc % 6=0/\0 < p.m/\p.m < 5
 ·rw[aF h.1,aF h.2.1,aF h.2.2]at cd
  obtain⟨i,x,hf,hr⟩:=Zgs (n:=n) (v:=v) (cc:=cc) hN hp hs hz h.2.1 h.2.2;exact⟨1,i,x,hf,by decide,pre (.yB cd hr)⟩
 ·have cf:(decide (cc % 6=0)&&(decide (0 < p.m)&&decide (p.m < 5)))=false:=by
   rw[<-eG,<-eG];exact aL h
  rw[cf]at cd;obtain⟨j,ej,hj⟩:=YD (v / 4) (b:=(p.rw.length:Int)+1) (by omega)
  obtain⟨o,ho,hM,hc⟩:=UB (n:=n+2) (M:=N.take p.m) (by rw[bF];omega)
  have y8:Y (run T (n+3)) s (.bin .Add (.var 4) (.bin .Mod (.bin .FloorDiv (.var 3) (.cst (.int 4))) (.bin .Add (.var 6) (.cst (.int 1))))) (en3 p w cc v none none none none none none) (.int ((p.m+j:Nat):Int)):=by
   rw[show((p.m+j:Nat):Int)=(p.m:Int)+(j:Int) by omega,<-ej]
   exact .add (.r fun _=>rfl) (.md (.fd (.r fun _=>rfl) (.r fun _=>rfl) (by decide)) (.add (.r fun _=>rfl) (.r fun _=>rfl)) (by omega))
  have y9:Y (run T (n+3)) s (.call 255 (.aC (.slice (.var 1) .nop (.part (.var 4))) .aN) []) (en3 p w cc v none (some (.int ((p.m+j:Nat):Int))) none none none none) (.str o):=.callL1 (xs:=(N.take p.m).map D.str) (by rw[List.map_take];exact .tk hs (.r fun _=>rfl) (.r fun _=>rfl)) hc
  have pr2:∀ {d},R (run T (n+3)) s _ (en3 p w cc v none (some (.int ((p.m+j:Nat):Int))) (some (.str o)) none none none) d->C (run T (n+4)) s 256 [pgE p,.lst w,.int cc,.int v] d:=fun {d} h=>pre (.no cd (.set y8 (.set y9 h)))
  by_cases e1:cc % 6=1
  ·obtain⟨x,hf,hr⟩:=Zgt (n:=n) (v:=v) (cc:=cc) (i:=p.m+j) hN hp hs hz ho hM (by omega) (by omega)
   exact⟨2,p.m+j,x,hf,by decide,pr2 (.yB (cT e1 rfl) hr)⟩
  ·by_cases e2:cc % 6=2
   ·obtain⟨x,hf,hr⟩:=Zgu (n:=n) (v:=v) (cc:=cc) (i:=p.m+j) (x9:=some (.str o)) hN hp hs hz (by omega) (by omega)
    exact⟨3,p.m+j,x,hf,by decide,pr2 (.no (cF e1 rfl) (.yB (cT e2 rfl) hr))⟩
   ·obtain⟨t,et,ht⟩:=YD (v / 4) (b:=(p.m:Int)+(p.rw.length:Int)+1) (by omega)
    have y12:Y (run T (n+3)) s (.bin .Mod (.bin .FloorDiv (.var 3) (.cst (.int 4))) (.bin .Add (.bin .Add (.var 4) (.var 6)) (.cst (.int 1)))) (en3 p w cc v none (some (.int ((p.m+j:Nat):Int))) (some (.str o)) none none none) (.int (t:Int)):=by
     rw[<-et];exact .md (.fd (.r fun _=>rfl) (.r fun _=>rfl) (by decide)) (.add (.add (.r fun _=>rfl) (.r fun _=>rfl)) (.r fun _=>rfl)) (by omega)
    have n0:=(Zz hN (i:=0) (by decide)).2
    by_cases e3:cc % 6=3
    ·have e:=Zh (v / 60) (j:=8) (by decide)
     obtain⟨u,hu,hy⟩:=ixG (l:=bkL o) e.1 (show v / 60 % 8 < ((bkL o).length:Int) from e.2);obtain⟨x,hx,hb⟩:=Zge (n:=n+2) (v:=v * 48271 % 2147483647) ho hu;have ol:=Vr ho;refine⟨0,t,x,.no hx (by omega),by decide,pr2 (.no (cF e1 rfl) (.no (cF e2 rfl) (.set y12 (.yB (cT e3 rfl) (.setL (xs:=bk1.map D.str) (.mk (.r fun _=>rfl)) fun s1 j1 b1 g1 h1=>.setL (xs:=(bkL o).map D.str) (Ls.cat (.v h1 (.r fun _=>rfl)) (.mk (.cons ((Tx.c (x:=S "name ")).add (Tx.at ol rfl)).y (.cons (((Tx.c (x:=S "take ")).add (Tx.at ol rfl)).add (Tx.c (x:=S " 1 2"))).y .nil (by show 0 < 1000;decide)) (by show 1 < 1000;decide))) (by show 6+2<=1000;decide)) fun s2 j2 b2 g2 h2=>.ret (.cons (.r fun _=>rfl) (.cons (.r fun _=>rfl) (.cons (.call (xs:=[.str u,.int (v * 48271 % 2147483647)]) (.cons (hy (.v h2 (.r fun _=>rfl)) (.md (.fd (.r fun _=>rfl) (.r fun _=>rfl) (by decide)) (.r fun _=>rfl) (by decide))) (.cons (.md (.mul (.r fun _=>rfl) (.r fun _=>rfl) rfl) (.r fun _=>rfl) (by decide)) .nil)) hb) .nil))))))))⟩
    ·obtain⟨x,hx,hb⟩:=Zgf (n:=n+1) (v:=v * 742938285 % 2147483647) n0 ho
     exact⟨0,t,x,.no hx (by omega),by decide,pr2 (.no (cF e1 rfl) (.no (cF e2 rfl) (.set y12 (.no (cF e3 rfl) (.ret (.cons (.r fun _=>rfl) (.cons (.r fun _=>rfl) (.cons (.call (xs:=[.int (v * 742938285 % 2147483647),.str (N.getD 0 (S "")),.str o]) (.cons (.md (.mul (.r fun _=>rfl) (.r fun _=>rfl) rfl) (.r fun _=>rfl) (by decide)) (.cons (Tx.nm hN hs (i:=0) (.r fun _=>rfl) (.r fun _=>rfl) (by decide)).y (.cons (.r fun _=>rfl) .nil))) hb) .nil))))))))⟩
end
variable{ns:Li Int}
section
variable {F:Nat->Fn}{s st:Za}{e a b:CE}{ρ:Env}{d x y:D}{n w i k q:Nat}{v:Int}{xs ys:Li D}{p:Pg}{N:Li Str}{m:Bool}
theorem YV{f:D->D->Bool}:∀ {l:Li D},(∀ x∈l,f x x=true)->Xf f l l=true
 |[],_=>rfl
 |x :: l,h=>by
  show(f x x&&Xf f l l)=true;rw[h x lQ7,YV fun y hy=>h y (Lm _ hy)];rfl
theorem Zy(h:(∃ z,x=.str z)\/∃ z,x=.int z):dEq st n x x=true:=by
 rcases h with⟨z,rfl⟩|⟨z,rfl⟩<;>cases n<;>exact aF rfl
theorem Xs{o:Op}:dEq st (n+1) (opE o) (opE o)=true:=by
 cases o with
 |nm i=>
  show(dEq st n (.str (S "name")) (.str (S "name"))&&(dEq st n (.int i) (.int i)&&true))=true;rw[Zy (.inl ⟨_,rfl⟩),Zy (.inr ⟨_,rfl⟩)];rfl
 |nu v=>
  show(dEq st n (.str (S "number")) (.str (S "number"))&&(dEq st n (.int v) (.int v)&&true))=true;rw[Zy (.inl ⟨_,rfl⟩),Zy (.inr ⟨_,rfl⟩)];rfl
theorem ZcN{r:Rw}:dEq st 6 (rwE r) (rwE r)=true:=by
 cases r with
 |put x y g z=>
  show(dEq st 5 (.str (S "put")) (.str (S "put"))&&(dEq st 5 (.int x) (.int x)&&(dEq st 5 (opE y) (opE y)&&(dEq st 5 (.str g) (.str g)&&(dEq st 5 (opE z) (opE z)&&true)))))=true;rw[Zy (.inl ⟨_,rfl⟩),Zy (.inr ⟨_,rfl⟩),Zy (.inl ⟨_,rfl⟩),Xs,Xs];rfl
 |ifr y g z t=>
  show(dEq st 5 (.str (S "if")) (.str (S "if"))&&(dEq st 5 (opE y) (opE y)&&(dEq st 5 (.str g) (.str g)&&(dEq st 5 (opE z) (opE z)&&(dEq st 5 (.int t) (.int t)&&true)))))=true
  rw[Zy (.inl ⟨_,rfl⟩),Zy (.inl ⟨_,rfl⟩),Zy (.inr ⟨_,rfl⟩),Xs,Xs];rfl
 |go t=>
  show(dEq st 5 (.str (S "go")) (.str (S "go"))&&(dEq st 5 (.int t) (.int t)&&true))=true;rw[Zy (.inl ⟨_,rfl⟩),Zy (.inr ⟨_,rfl⟩)];rfl
 |tell y=>
  show(dEq st 5 (.str (S "tell")) (.str (S "tell"))&&(dEq st 5 (opE y) (opE y)&&true))=true;rw[Zy (.inl ⟨_,rfl⟩),Xs];rfl
 |skip=>
  show(dEq st 5 (.str (S "skip")) (.str (S "skip"))&&true)=true;rw[Zy (.inl ⟨_,rfl⟩)];rfl
theorem ZcI:XB .NotEq (pgE p) (pgE p) st=some false:=by
 show(if Xf (dEq st 7) [.tup (p.tk.map tkE),.int (p.m:Int),.tup (p.rw.map rwE)] [.tup (p.tk.map tkE),.int (p.m:Int),.tup (p.rw.map rwE)]=true then some true else none).map not=_
 rw[if_pos]
 ·rfl
 ·show(Xf (dEq st 6) (p.tk.map tkE) (p.tk.map tkE)&&(dEq st 7 (.int p.m) (.int p.m)&&(Xf (dEq st 6) (p.rw.map rwE) (p.rw.map rwE)&&true)))=true
  rw[Zy (.inr ⟨_,rfl⟩),YV (l:=p.rw.map rwE) fun x hx=>by obtain⟨t,_,rfl⟩:=bC.mp hx;exact ZcN,YV (l:=p.tk.map tkE) fun x hx=>by
   obtain⟨t,_,rfl⟩:=bC.mp hx;show(dEq st 5 (.int t.1) (.int t.1)&&(dEq st 5 (.int t.2) (.int t.2)&&true))=true;rw[Zy (.inr ⟨_,rfl⟩),Zy (.inr ⟨_,rfl⟩)];rfl];rfl
theorem Y.lenL(h:Lv s (ev F e ρ) xs):Y F s (.len e) ρ (.int (xs.length:Int)):=fun st g=>by
 obtain⟨s1,j,b,e1,h1,k1⟩:=h st g;refine⟨s1,?_,k1⟩;show Zm (ev F e) Yw ρ st=_;unfold Zm;rw[e1];show Yw (.lst j) s1=_;unfold Yw Uc;simp only[h1]
theorem Y.eqL(ha:Y F s a ρ (.lst q))(hq:s[q]?=some (m,x :: xs))(hb:Lv s (ev F b ρ) (x :: xs))(hx:∀ y∈x :: xs,∃ z,y=.bl z):Y F s (.cmp .Eq a b) ρ (.bl true):=fun st g=>by
 obtain⟨s1,e1,k1⟩:=ha st g;obtain⟨s2,j,b,e2,h2,k2⟩:=hb s1 (g.trans k1);refine⟨s2,?_,k1.trans k2⟩;show Zn (ev F a) (ev F _) (ZW .Eq) ρ st=_;unfold Zn;rw[e1];simp only[e2];have hq':=(g.trans (k1.trans k2)).get hq;have:XB .Eq (.lst q) (.lst j) s2=some true:=by
  show(match (o2 (fun(c d:Yb)=>Zei c.2 d.2) s2[q]? s2[j]?).join with
   |some k=>some k
   |none=>if dEq s2 8 (.lst q) (.lst j)=true then some true else none)=_
  rw[hq',h2];show(if dEq s2 8 (.lst q) (.lst j)=true then some true else none)=_
  refine if_pos ?_;show(match s2[q]? with
   |some c=>(match s2[j]? with
    |some d=>Xf (dEq s2 7) c.2 d.2
    |none=>false)
   |none=>false)=true
  rw[hq',h2];exact YV fun y hy=>by obtain⟨z,rfl⟩:=hx y hy;exact aF rfl
 unfold ZW;rw[this]
theorem ltc{c:Nat}(h:c<=3):exNums.contains (224+c)=true:=by
 have:c=0\/c=1\/c=2\/c=3:=by omega
 rcases this with rfl|rfl|rfl|rfl<;>decide
theorem Zf0{k:Bool}{l:Int}(d:D)(s:Za)(h:Tl xs k l d s):NX d=true:=by obtain⟨_,_,rfl,_⟩:=h;rfl
theorem ZbU{l:Int}:C (run T (n+1)) s 17 [.int l] (.bl true):=.of (v:=c__law_whole) rfl rfl (.ret (.r fun _=>rfl))
theorem Zfc(hs:st[0]?=some (m,ns.map D.int)):CP (run T (n+10)) 16 [.lst 0] st (fun d _=>d=.bl true):=by
 obtain⟨v32,c32⟩:=Yc (n:=n+8) hs (k:=32) (by decide)
 obtain⟨v33,c33⟩:=Yc (n:=n+8) hs (k:=33) (by decide)
 obtain⟨v,c34⟩:=Yc (n:=n+8) hs (k:=34) (by decide)
 obtain⟨v35,c35⟩:=Yc (n:=n+8) hs (k:=35) (by decide)
 obtain⟨v36,c36⟩:=Yc (n:=n+8) hs (k:=36) (by decide)
 have tt:∀ {s ρ},Y (run T (n+9)) s (.bin .Pow (.cst (.int 10)) (.cst (.int 12))) ρ (.int 1000000000000):=.bi (.r fun _=>rfl) (.r fun _=>rfl) (by decide +kernel)
 refine .of (v:=c_law_k14) rfl rfl ?_;refine .setK (s:=st) (xs:=[.lst 0,.int ((11:Nat):Int)]) (.r fun _=>rfl) (fun st' g=>ZdR (n:=n+5) (most:=11) (by decide) hs g) (fun d s h=>by obtain⟨p,_,rfl⟩:=h;rfl) .refl fun d s1 g1 hd=>?_
 obtain⟨p,hp,rfl⟩:=hd;refine .setK (s:=st) (xs:=[.int v32,.int v33]) (.cons (.call (xs:=[.lst 0,.int ((32:Nat):Int)]) (.r fun _=>rfl) c32) (.cons (.call (xs:=[.lst 0,.int ((33:Nat):Int)]) (.r fun _=>rfl) c33) .nil)) (fun st' g=>JI (n:=n+8)) (fun d s h=>by obtain⟨_,_,_,_,rfl,_⟩:=h;rfl) g1 fun d s2 g2 hd=>?_
 obtain⟨w,b,N,hN,rfl,hw⟩:=hd;have G2:=g1.trans g2;refine .setK (s:=s2) (xs:=[pgE p,.lst w]) (.r fun _=>rfl) (fun st' g=>ZbQ (n:=n+6) hN (g.get hw) hp (by decide)) (fun d s h=>by obtain⟨_,_,rfl,_⟩:=h;rfl) .refl fun d s3 g3 hd=>?_
 obtain⟨j3,b3,rfl,h3⟩:=hd;have hw3:=g3.get hw;refine .setY (s:=st) (d:=.int v) (.call (xs:=[.lst 0,.int ((34:Nat):Int)]) (.r fun _=>rfl) c34) (G2.trans g3) fun s4 g4=>?_
 have G4:=(G2.trans g3).trans g4;have hw4:=g4.get hw3;have h4:=g4.get h3;obtain⟨L,hL⟩:∃ L,(lnL N p).map lnS=L:=⟨_,rfl⟩;have ll:(lnL N p).length=p.m+p.rw.length:=Vp hN hp;have L20:L.length<=16:=by rw[<-hL,aJ,ll];have:=hp.r;have:=hp.m5;omega
 rw[hL]at h4;have gl:∀ x∈L,GL x:=fun x hx=>by
  rw[<-hL]at hx;obtain⟨ws,hw,rfl⟩:=bC.mp hx;obtain⟨k,r,rfl,hr⟩:=ZdE hN hp (by decide) ws hw
  exact hr.gl
 have gl9:∀ {x},GL x->x.length<=900:=fun h=>aH h.len (by decide)
 have yj:∀ {X:Li Str}{s:Za}{ρ:Env}{a:CE},(∀ x∈X,GL x)->X.length<=40->Lv s (ev (run T (n+9)) a ρ) (X.map D.str)->ρ[4]?=some (some (.int v))->Lv s (ev (run T (n+9)) (.call 254 (.aC a (.aC (.var 4) .aN)) []) ρ) ((spS v X).map D.str):=fun {X s ρ a} gX lX h hr=>.call2 (ys:=X.map D.str) (y:=.int v) h (.r fun st=>by show ZA 4 ρ st=_;unfold ZA;rw[hr]) fun g h=>JN (n:=n+8) h (fun x hx=>gl9 (gX x hx)) (by omega) .refl
 have yt:∀ {X:Li Str}{s:Za}{ρ:Env}{a:CE},(∀ x∈X,GL x)->X.length<=40->Lv s (ev (run T (n+9)) a ρ) (X.map D.str)->ρ[4]?=some (some (.int v))->Y (run T (n+9)) s (.joinE (.cst (.str (S "\n"))) (.call 254 (.aC a (.aC (.var 4) .aN)) [])) ρ (.str (txS (spS v X))):=fun {X s ρ a} gX lX h hr=>.joinN (yj gX lX h hr) (aH (ZbF (fun y hy=>(Zbx gX y hy).2.2) (by have:=Zbz (v:=v) (X:=X);omega)).1 (by decide))
 -- the program is read
 obtain⟨sd,hsd,hpg⟩:=Za6 (v:=v) hN hp (by decide)
 rw[hL]at hsd;have ac:=JP (n:=n) (s:=s4) gl (by omega) hsd
 rw[hpg]at ac;refine .no (s:=s4) (.cmp (.call1 (yt gl (by omega) (.v h4 (.r fun _=>rfl)) rfl) ac) (.r fun _=>rfl) fun _=>ZcI) .refl fun s5 g5=>?_
 obtain⟨v8,hv8⟩:∃ v8,v36 % 1000000000000=v8:=⟨_,rfl⟩;refine .setY (s:=st) (d:=.int v8) (by rw[<-hv8];exact .md (.call (xs:=[.lst 0,.int ((36:Nat):Int)]) (.r fun _=>rfl) c36) tt (by decide)) (G4.trans g5) fun s6 g6=>?_
 have g46:=g5.trans g6;obtain⟨k,i,x,hf,hk,cf⟩:=Zgh (n:=n+5) (v:=v8) (cc:=v35) hN hp (g46.get hw4) (by decide)
 refine .set3 (s:=s6) (.call (xs:=[pgE p,.lst w,.int v35,.int v8]) (.cons (.r fun _=>rfl) (.cons (.r fun _=>rfl) (.cons (.call (xs:=[.lst 0,.int ((35:Nat):Int)]) (.r fun _=>rfl) (Gv.mono c35 (G4.trans g46))) (.cons (.r fun _=>rfl) .nil)))) cf) .refl fun s7 g7=>?_
 have h7:=(g46.trans g7).get h4;refine .setL (s:=s7) (xs:=(L.take i++[x]++L.drop i).map D.str) (by
  rw[cD,cD,List.map_take,List.map_drop];exact .cat (.cat (.tk h7 (.r fun _=>rfl) (.r fun _=>rfl)) (ys:=[.str x]) (.mk (.r fun _=>rfl)) (by simp only[bF,aJ,aR,dN];unfold Zc;omega)) (.dp h7 (.r fun _=>rfl) (.r fun _=>rfl)) (by simp only[aK,bF,cA,aJ,aR,dN];unfold Zc;omega)) .refl fun s8 j8 b8 g8 h8=>?_
 have gX:∀ y∈L.take i++[x]++L.drop i,GL y:=fun y hy=>by
  simp only[aS,bG]at hy;rcases hy with(hy|rfl)|hy
  ·exact gl y (eF hy)
  ·exact Zfz hN hp (by decide) hf
  ·exact gl y (List.mem_of_mem_drop hy)
 have lX:(L.take i++[x]++L.drop i).length<=40:=by simp only[aK,bF,cA,aR,dN];omega
 have tf:=Jz (v:=v) hN hp (by decide) hf
 rw[List.map_take,List.map_drop,hL,show L.take i++x :: L.drop i=L.take i++[x]++L.drop i by rw[aM];rfl]at tf
 obtain⟨X,hX⟩:∃ X,L.take i++[x]++L.drop i=X:=⟨_,rfl⟩;rw[hX]at tf gX lX h8;obtain⟨ln,hln⟩:∃ ln:Nat,(spS v (L.take i)).length+1=ln:=⟨_,rfl⟩;refine .setK (s:=s8) (xs:=[.str (txS (spS v X))]) (.cons (yt gX lX (.v h8 (.r fun _=>rfl)) rfl) .nil) (fun st' g=>ZcL (n:=n) gX lX (ltc hk) (ln:=ln) (tf.trans (by rw[<-hln,Int.natCast_add];rfl))) Zf0 .refl fun d10 s9 g9 hd=>?_
 obtain⟨q,b9,rfl,hq⟩:=hd;have h9:=(g8.trans g9).get h7;refine .setY (s:=s9) (d:=.int (ln:Int)) (by
  have:=Y.lenL (yj (X:=L.take i) (s:=s9) (ρ:=[some (.lst 0),some (pgE p),some (.lst w),some (.lst j3),some (.int v),some (.int v8),some (.int (k:Int)),some (.int (i:Int)),some (.str x),some (.lst j8),some (.tup [.lst q,.bl true,.int (ln:Int)]),none]) (a:=.slice (.var 3) .nop (.part (.var 7))) (fun y hy=>gl y (eF hy)) (by rw[bF];omega) (by rw[List.map_take];exact .tk h9 (.r fun _=>rfl) (.r fun _=>rfl)) rfl)
  rw[aJ]at this;rw[<-hln,Int.natCast_add];exact .add this (.r fun _=>rfl)) .refl fun s10 g10=>?_
 refine .no (s:=s10) (.or (k:=false) (m:=false) (.r fun _=>rfl) fun _=>.or (k:=false) (m:=false) (.not (k:=true) (.call1 (.r fun _=>rfl) ZbU)) fun _=>.cmp (.r fun _=>rfl) (.r fun _=>rfl) fun _=>by show(some (decide ((ln:Int)=(ln:Int)))).map not=_;rw[aF rfl];rfl) .refl fun s11 g11=>?_
 have l1:Lv s11 (ev (run T (n+9)) XQ [some (.lst 0),some (pgE p),some (.lst w),some (.lst j3),some (.int v),some (.int v8),some (.int (k:Int)),some (.int (i:Int)),some (.str x),some (.lst j8),some (.tup [.lst q,.bl true,.int (ln:Int)]),some (.int (ln:Int))]) ((List.range 4).map fun(i:Nat)=>D.bl (decide ((i:Int)=(k:Int)))):=XU (b:=one) (en:=fun(i:Nat)=>D.int (i:Int)) (g:=fun(i:Nat)=>D.bl (decide ((i:Int)=(k:Int)))) (.rng (f:=4) (v:=4) (.r fun _=>rfl) rfl (by decide)) (by decide) fun i _=>.r fun _=>rfl
 have l2:=Lv.cat (b:=.lstE (.aC (.cst (.bl false)) (.aC (.cst (.bl false)) .aN))) l1 (ys:=[.bl false,.bl false]) (.mk (.r fun _=>rfl)) (by show 4+2<=Zc;decide)
 rw[show(List.range 4).map (fun(i:Nat)=>D.bl (decide ((i:Int)=(k:Int))))++[.bl false,.bl false]=Zag (224+k) by
  have:k=0\/k=1\/k=2\/k=3:=by omega
  rcases this with rfl|rfl|rfl|rfl<;>rfl]at l2
 exact .ret (s:=s11) (d:=.bl (true&&true)) (.and (.eqL (.r fun _=>rfl) ((g10.trans g11).get hq) l2 fun y hy=>by
  simp only[aG,bB,or_false]at hy;rcases hy with rfl|rfl|rfl|rfl|rfl|rfl<;>exact⟨_,rfl⟩) fun _=>.r fun _=>rfl) .refl fun _ _=>rfl
theorem Jt:∃ st',run T (n+10) 16 [.lst 0] [(false,ns.map .int)]=some (.bl true,st'):=by
 obtain⟨d,st',e,_,rfl⟩:=Zfc (n:=n) (st:=[(false,ns.map .int)]) (m:=false) (ns:=ns) rfl;exact⟨st',e⟩
end
end Dp


namespace PySem.W.Fast
def tw16266070061054620141:=0
def tw15314922064796372403:=0
def tw17250612668639772110:=0
def tw3426271329719741930:=0
def tw5804874887211658283:=0
def tw18235206993458119893:=0
def tw7767167369330652190:=0
def tw9444575050879581176:=0
def tw15952018249576878526:=0
def tw9566450218731545432:=0
def tw12270788513488905501:=0
def tw5596492994590138874:=0
def tw10403656361883896721:=0
def tw17234391934588310993:=0
def tw6528121909605261076:=0
def tw8035153704071100749:=0
def tw14751121030921990384:=0
def tw2288233865706953566:=0
def tw12773010816674569657:=0
def tw10746495114437394021:=0
def tw15909640218397056908:=0
def tw4739559697145377832:=0
def tw12123763652854786883:=0
def tw14930221487738551891:=0
def tw3450356290001408979:=0
def tw5072333265078559120:=0
def tw10863389886106070402:=0
def tw15180157814342582121:=0
def tw7165494620106638748:=0
def tw892503575904763855:=0
def tw18302981479346686626:=0
def tw15209837983845803248:=0
def tw3135692148596535502:=0
def tw15287003452898713297:=0
def tw10282479702191498367:=0
def tw17922998547991708435:=0
def tw10461255361438292050:=0
def tw9757818399628546642:=0
def tw16034388127826237662:=0
def tw2411282093730798126:=0
def tw6014264920813295385:=0
def tw13096065822592272335:=0
def tw9681400929791563859:=0
def tw1997047746282682516:=0
def tw14987914874655760322:=0
def tw15107235177737303889:=0
def tw6487028483465938897:=0
def tw1991774786266262197:=0
def tw14570743476225456444:=0
def tw15499744770175185781:=0
def tw945777802370905713:=0
def tw12378526112392314378:=0
def tw17298373965166864612:=0
def tw10142113760982329533:=0
def tw9839812943507209008:=0
def tw5246738148104540661:=0
def tw14361689568291807887:=0
def tw7202046799075170607:=0
def tw10023624969402380863:=0
def tw10723212477676290359:=0
def tw2112566682643428638:=0
def tw14572498544284459559:=0
def tw3142533323359013201:=0
def tw8337437213238393185:=0
def tw6066755853642193446:=0
def tw13308097558800153862:=0
def tw4402097330274086850:=0
def tw1817599086586342922:=0
def tw5425492369991761176:=0
def tw791149453792906795:=0
def tw2699278766573069846:=0
def tw6571424570006909883:=0
def tw14990318248613357086:=0
def tw4754095572726839100:=0
def tw1912250847137739048:=0
def tw1377438657467282580:=0
def tw17629201779394903820:=0
def tw4314528358610505664:=0
def tw1685818520908469887:=0
def tw14041447576829042717:=0
def tw7170700357662445997:=0
def tw18240689802060838113:=0
def tw6583220998662548767:=0
def tw3502948079985598670:=0
def tw9168852557361449459:=0
def tw16959728292976890032:=0
def tw10890573898216287420:=0
def tw18137624379085567820:=0
def tw7421288274965816683:=0
def tw11557349284550357367:=0
def tw10869112691229613459:=0
def tw7582838059360609327:=0
def tw8240000865218094494:=0
def tw5740619935325775925:=0
def tw2648469424001733360:=0
def tw5414226574597475480:=0
def tw7413601335920793246:=0
def tw8919883346701844660:=0
def tw285322023719473314:=0
def tw9829060070599905815:=0
def tw12764203769143453616:=0
def tw12405530621243862048:=0
def tw1186643598406364350:=0
def tw1940608759580184249:=0
def tw1130311058745067848:=0
def tw3518816255726546592:=0
def tw11704692492531231512:=0
def tw17585692878343786093:=0
def tw18344927512503106327:=0
def tw10253070469664248938:=0
def tw10398794807159440507:=0
def tw10105655152223543912:=0
def tw16107165395189819975:=0
def tw4639592598941373211:=0
def tw11423643575473923222:=0
def tw10087434836005422017:=0
def tw15432213116059815579:=0
def tw2140588997621097574:=0
def tw10019228649366096644:=0
def tw5669776693848126775:=0
def tw273473754232300231:=0
def tw1438715231987767874:=0
def tw17049074516550122058:=0
def tw5773558574669701888:=0
def tw11136894021425268349:=0
def tw13858861459894322467:=0
def tw16578853908612521472:=0
def tw15111557469973174381:=0
def tw5455418853176123451:=0
def tw12421550737386428878:=0
def tw974614933867592856:=0
def tw473138450572819413:=0
def tw15898119445934731110:=0
def tw10390793676258484068:=0
def tw9346466386803180241:=0
def tw8768959080685610809:=0
def tw10818211666026102111:=0
def tw5103002391965883647:=0
def tw6702809187189258762:=0
def tw8243408327402693601:=0
def tw16195670384230657247:=0
def tw1696740641345204787:=0
def tw14228938804617535232:=0
def tw1985783483251175474:=0
def tw15830604975379603273:=0
def tw4024293211415415413:=0
def tw11133766690692728182:=0
def tw13984090323649960830:=0
def tw843567171146365571:=0
def tw4195645988581778887:=0
def tw13038696720578764222:=0
def tw957916948521249670:=0
def tw4055888768461064612:=0
def tw1686083499790596190:=0
def tw12231273956697631384:=0
def tw18153461352648172256:=0
def tw11116566619879205206:=0
def tw480175463896427886:=0
def tw9975352385521679325:=0
def tw2618195620219000663:=0
def tw10191433534793357733:=0
def tw17437411619028523355:=0
def tw12632852463167978771:=0
def tw2232628366433852936:=0
def tw13446550664929322758:=0
def tw11246978534939287710:=0
def tw5158295479598166165:=0
def tw1708598590079711476:=0
def tw17270714094797693356:=0
def tw9998529516575029964:=0
def tw12486564924487208039:=0
def tw6620696908238389358:=0
def tw9382293661504777267:=0
def tw3951707486893681310:=0
def tw1500800339007339857:=0
def tw6487283507091789584:=0
def tw11907835113101651612:=0
def tw3781378754609813562:=0
def tw10929106234180154914:=0
def tw8768499972577443372:=0
def tw17855380253790526377:=0
def tw223672747431128294:=0
def tw4833861113248460523:=0
def tw4177015727508687082:=0
def tw12776975605795242543:=0
def tw1331515319380500243:=0
def tw1312297237313591486:=0
def tw8846975117397490169:=0
def tw260848260343253002:=0
def tw3296226819085465399:=0
def tw9333915886425815519:=0
def tw4892748441384502471:=0
def tw15460996160404925232:=0
def tw14660481600965667335:=0
def tw8716528240227703418:=0
def tw14559592459391286986:=0
def tw1279696469395709400:=0
def tw5116096466702454641:=0
def tw2603669762961433878:=0
def tw15761334900893264060:=0
def tw15468527510224384858:=0
def tw14732090600029373629:=0
def tw3613367874577704218:=0
def tw16861991432401070724:=0
def tw8902211395883417505:=0
def tw5792920086019443934:=0
def tw1852443340764594478:=0
def tw7752881124444833562:=0
def tw5778489437904843732:=0
def tw2278865171564701528:=0
def tw2958362001015084439:=0
def tw16723521061076614214:=0
def tw13423141157059525073:=0
def tw3879831294581604407:=0
def tw2668773681992422821:=0
def tw14849840766732226252:=0
def tw8089691420032243159:=0
def tw8577359472763230457:=0
def tw15953831746083277117:=0
def tw12718524921209677217:=0
def tw9227196642045206752:=0
def tw5143081942480470703:=0
def tw15208260056991025278:=0
def tw62290813193543999:=0
def tw7802730086294739141:=0
def tw11070120490466675598:=0
def tw4960319691037434413:=0
def tw3510758237516668946:=0
def tw18141063993307948495:=0
def tw12015213334837025686:=0
def tw16611242422201346540:=0
def tw16510878140904652393:=0
def tw11154308613036986670:=0
def tw6098737804634737229:=0
def tw8989087485386396080:=0
def tw14681889600884076914:=0
def tw14986746544849683825:=0
def tw9300728553461987147:=0
def tw9083134430065615659:=0
def tw6135647609379659410:=0
def tw9619364286972625406:=0
def tw8656837741277610497:=0
def tw6085993383685942008:=0
def tw9496901978762102372:=0
def tw8588093008226558881:=0
def tw5721207398103897715:=0
def tw2855884093660563852:=0
def tw1327658656407107333:=0
def tw2779995694964455231:=0
def tw11347639525531657770:=0
def tw17541333274073348634:=0
def tw10189783309806264886:=0
def tw15988919193685908739:=0
def tw4161862458044779897:=0
def tw13319495787642047245:=0
def tw11906514076677418257:=0
def tw2730186522343515955:=0
def tw13270928320626754051:=0
def tw10924282968800464189:=0
def tw1302248681221830774:=0
def tw7120578331284687567:=0
def tw14885651174239377763:=0
def tw2375915317175430583:=0
end PySem.W.Fast
namespace Dp
open PySem L2
noncomputable def top(i:Nat):Stmt:=PySem.Challenge.pw_fakehunt_k14_refused_lines.main.body.getD i (.Pass ⟨0,0,0,0⟩)
noncomputable def G:Gs:=[(S "HuntError",GV.exc 177 [224,225,226,227]),(S "TextError",GV.exc 222 [224,225,226,227]),(S "NoLine",GV.exc 224 [224]),(S "Twice",GV.exc 225 [225]),(S "NoName",GV.exc 226 [226]),(S "NoPlace",GV.exc 227 [227]),(S "TooWide",GV.exc 189 []),(S "TooMany",GV.exc 178 []),(S "Draft",GV.cls 237 [(S "__init__",238,1),(S "has_room",239,2),(S "read_line",240,3),(S "read_name",241,3),(S "read_row",242,3),(S "check_places",243,1),(S "told",244,1)] [237]),(S "HALF",GV.cst (.int 1000000000)),(S "RING",GV.cst (.int 2000000000)),(S "PUT_SIGNS",GV.cst (.kt [(S "+"),(S "-"),(S "*"),(S "/"),(S "mod")])),(S "IF_SIGNS",GV.cst (.kt [(S "<"),(S "<="),(S "="),(S ">="),(S ">"),(S "!=")])),(S "around",GV.fn 0 1 []),(S "LETTERS",GV.cst (.str (S "abcdefghijklmnopqrstuvwxyz"))),(S "FIGURES",GV.cst (.str (S "0123456789"))),(S "is_made_of",GV.fn 209 3 []),(S "is_name",GV.fn 210 1 []),(S "are_figures",GV.fn 211 2 []),(S "number_in",GV.fn 212 1 []),(S "place_in",GV.fn 213 1 []),(S "FORMS",GV.dct [(S "take"),(S "name"),(S "put"),(S "if"),(S "go"),(S "tell"),(S "skip")] [(.tup [(.str (S "name")),(.str (S "number")),(.str (S "number"))]),(.tup [(.str (S "name"))]),(.tup [(.str (S "name")),(.str (S "operand")),(.str (S "put sign")),(.str (S "operand"))]),(.tup [(.str (S "operand")),(.str (S "if sign")),(.str (S "operand")),(.str (S "go")),(.str (S "place"))]),(.tup [(.str (S "place"))]),(.tup [(.str (S "operand"))]),(.tup [])]),(S "MOST_TAKES",GV.cst (.int 3)),(S "MOST_NAMES",GV.cst (.int 5)),(S "MOST_ROWS",GV.cst (.int 12)),(S "fits",GV.fn 232 2 []),(S "is_line",GV.fn 233 1 []),(S "names_read",GV.fn 234 1 []),(S "operand_in",GV.fn 235 2 []),(S "row_of",GV.fn 236 2 []),(S "read",GV.fn 245 1 []),(S "_law_whole",GV.fn 17 1 []),(S "_law_cell_at",GV.fn 27 2 []),(S "_law_small_by",GV.fn 19 1 []),(S "_law_operand",GV.fn 28 2 []),(S "_law_row",GV.fn 29 4 []),(S "_law_program",GV.fn 30 2 []),(S "_law_names",GV.fn 249 2 []),(S "_law_word",GV.fn 214 2 []),(S "_law_line",GV.fn 221 2 []),(S "_law_lines",GV.fn 250 2 []),(S "_law_spread",GV.fn 254 2 []),(S "_law_told",GV.fnq 230),(S "_law_refused",GV.fn 229 1 []),(S "_law_bad_word",GV.fn 257 1 []),(S "_law_bad_form",GV.fn 258 3 []),(S "_law_bad_line",GV.fn 259 3 []),(S "_law_blanked",GV.fn 260 2 []),(S "_law_stranger",GV.fn 255 1 []),(S "_law_fault",GV.fn 256 4 []),(S "_law_read",GV.fn 248 1 []),(S "law",GV.fn 16 1 []),(S "len",GV.blt),(S "range",GV.blt),(S "tuple",GV.blt),(S "int",GV.blt),(S "bool",GV.blt),(S "str",GV.blt),(S "min",GV.blt),(S "max",GV.blt),(S "isinstance",GV.blt),(S "all",GV.blt),(S "zip",GV.blt),(S "enumerate",GV.blt),(S "ValueError",GV.blt)]
noncomputable def Yy(i k:Nat):Stmt:=match top i with
 |.ClassDef _ _ _ b _ _ _ _ _ _ _=>b.getD k (.Pass ⟨0,0,0,0⟩)
 |s=>s
abbrev Cmp(i:Nat)(N ps:Li Str)(c:CS):Prop:=Xy G (top i) N ps c
local macro_rules
 |`(tactic| trivial)=>`(tactic| exact⟨⟨rfl,rfl,rfl,by decide +kernel,rfl,by decide +kernel,by decide +kernel⟩,by unfold L2.Loc;decide +kernel,by kernel_rfl⟩)
theorem ZgI:Cmp 14 [S "number"] [S "number"] c_around.body:=by trivial
theorem ZgJ:Cmp 18 [S "word",S "signs",S "most"] [S "word",S "signs",S "most"] c_is_made_of.body:=by trivial
theorem ZgK:Cmp 19 [S "word"] [S "word"] c_is_name.body:=by trivial
theorem ZgL:Cmp 20 [S "word",S "most"] [S "word",S "most"] c_are_figures.body:=by trivial
theorem ZgM:Cmp 21 [S "word",S "figures",S "number"] [S "word"] c_number_in.body:=by trivial
theorem ZgN:Cmp 22 [S "word"] [S "word"] c_place_in.body:=by trivial
theorem ZgO:Cmp 28 [S "word",S "kind"] [S "word",S "kind"] c_fits.body:=by trivial
theorem ZgP:Cmp 29 [S "words",S "kinds"] [S "words"] c_is_line.body:=by trivial
theorem ZgQ:Cmp 30 [S "words",S "names",S "word",S "kind"] [S "words"] c_names_read.body:=by trivial
theorem ZgR:Cmp 31 [S "word",S "names"] [S "word",S "names"] c_operand_in.body:=by trivial
theorem ZgS:Cmp 32 [S "words",S "names",S "things",S "word",S "kind"] [S "words",S "names"] c_row_of.body:=by trivial
theorem ZgT:Cmp 34 [S "text",S "draft",S "line",S "signs"] [S "text"] c_read.body:=by trivial
theorem ZgU:Cmp 36 [S "_law_found"] [S "_law_found"] c__law_whole.body:=by trivial
theorem ZgV:Cmp 37 [S "_law_script",S "_law_k"] [S "_law_script",S "_law_k"] c__law_cell_at.body:=by trivial
theorem ZgW:Cmp 38 [S "_law_cell",S "_law_some"] [S "_law_cell"] c__law_small_by.body:=by trivial
theorem ZgX:Cmp 39 [S "_law_number",S "_law_many"] [S "_law_number",S "_law_many"] c__law_operand.body:=by trivial
theorem ZgY:Cmp 40 [S "_law_cell",S "_law_more",S "_law_many",S "_law_size",S "_law_one",S "_law_other",S "_law_sign",S "_law_at",S "_law_x"] [S "_law_cell",S "_law_more",S "_law_many",S "_law_size"] c__law_row.body:=by trivial
theorem ZgZ:Cmp 41 [S "_law_script",S "_law_most",S "_law_head",S "_law_taken",S "_law_many",S "_law_size",S "_law_rows",S "_law_k",S "_law_cell",S "_law_takes",S "_law_low",S "_law_high"] [S "_law_script",S "_law_most"] c__law_program.body:=by trivial
theorem Zg0:Cmp 42 [S "_law_cell",S "_law_more",S "_law_letters",S "_law_k",S "_law_base",S "_law_some",S "_law_at",S "_law_names_here",S "_law_letter"] [S "_law_cell",S "_law_more"] c__law_names.body:=by trivial
theorem Zg1:Cmp 43 [S "_law_operand_here",S "_law_names_here"] [S "_law_operand_here",S "_law_names_here"] c__law_word.body:=by trivial
theorem Zg2:Cmp 44 [S "_law_row_here",S "_law_names_here",S "_law_some"] [S "_law_row_here",S "_law_names_here"] c__law_line.body:=by trivial
theorem Zg3:Cmp 45 [S "_law_program_here",S "_law_names_here",S "_law_lines_here",S "_law_k",S "_law_low",S "_law_high"] [S "_law_program_here",S "_law_names_here"] c__law_lines.body:=by trivial
theorem Zg4:Cmp 46 [S "_law_lines_here",S "_law_cell",S "_law_some",S "_law_k",S "_law_way"] [S "_law_lines_here",S "_law_cell"] c__law_spread.body:=by trivial
theorem Zg5:Xy (ZY G) (top 47) [S "_law_e",S "_law_some"] [S "_law_e"] c__law_told_k15.body:=by trivial
theorem Zg6:Cmp 48 [S "_law_some",S "_law_found",S "_law_e"] [S "_law_some"] c__law_refused.body:=by trivial
theorem Zg7:Cmp 49 [S "_law_cell",S "_law_some"] [S "_law_cell"] c__law_bad_word.body:=by trivial
theorem Zg8:Cmp 50 [S "_law_cell",S "_law_name",S "_law_odd",S "_law_some",S "_law_ends"] [S "_law_cell",S "_law_name",S "_law_odd"] c__law_bad_form.body:=by trivial
theorem Zg9:Cmp 51 [S "_law_cell",S "_law_name",S "_law_odd",S "_law_bad",S "_law_some"] [S "_law_cell",S "_law_name",S "_law_odd"] c__law_bad_line.body:=by trivial
theorem Zha:Cmp 52 [S "_law_line_here",S "_law_cell",S "_law_at"] [S "_law_line_here",S "_law_cell"] c__law_blanked.body:=by trivial
theorem Zhb:Cmp 53 [S "_law_names_here",S "_law_name"] [S "_law_names_here"] c__law_stranger.body:=by trivial
theorem Zhc:Cmp 54 [S "_law_program_here",S "_law_names_here",S "_law_cell",S "_law_more",S "_law_many",S "_law_heads",S "_law_rows",S "_law_at",S "_law_spot",S "_law_odd",S "_law_some",S "_law_goal",S "_law_place"] [S "_law_program_here",S "_law_names_here",S "_law_cell",S "_law_more"] c__law_fault_k14.body:=by trivial
theorem Zhd:Cmp 55 [S "_law_some",S "_law_found"] [S "_law_some"] c__law_read.body:=by trivial
theorem ZfR:Cmp 56 [S "_law_script",S "_law_program_here",S "_law_names_here",S "_law_lines_here",S "_law_cell",S "_law_more",S "_law_which",S "_law_at",S "_law_line_here",S "_law_some",S "_law_found",S "_law_due"] [S "_law_script"] c_law_k14.body:=by trivial
theorem ZeG:Xy G (Yy 33 0) [S "self"] [S "self"] c_Draft___init__.body:=by trivial
theorem ZeH:Xy G (Yy 33 1) [S "self",S "word",S "ahead"] [S "self",S "word"] c_Draft_has_room.body:=by trivial
theorem ZeI:Xy G (Yy 33 2) [S "self",S "words",S "line"] [S "self",S "words",S "line"] c_Draft_read_line.body:=by trivial
theorem ZeJ:Xy G (Yy 33 3) [S "self",S "words",S "line"] [S "self",S "words",S "line"] c_Draft_read_name.body:=by trivial
theorem ZeK:Xy G (Yy 33 4) [S "self",S "words",S "line",S "name",S "row"] [S "self",S "words",S "line"] c_Draft_read_row.body:=by trivial
theorem ZeL:Xy G (Yy 33 5) [S "self",S "line",S "place"] [S "self"] c_Draft_check_places.body:=by trivial
theorem ZeM:Xy G (Yy 33 6) [S "self"] [S "self"] c_Draft_told.body:=by trivial
@[reducible] noncomputable def tab (l:Li (Nat×Ad)):ClsTab:=⟨fun i=>(l.lookup i).getD 0⟩
section
variable [ct:ClsTab]
section
variable {K:Fg}{mg:Str->Ot vL}
theorem ini:Zfg (Yy 2 0) (S "self") (S "line"):=⟨⟨_,_,_,_,rfl⟩,⟨rfl,rfl,rfl,by decide +kernel,rfl,by decide +kernel,by decide +kernel⟩,⟨.inl rfl,.inl rfl⟩,⟨by decide,by decide⟩,⟨by decide,by decide⟩,fun _ _ _ _ _ _ _ _ _=>rfl⟩
theorem QR{C:Ad}{i:Nat}(h:ClsTab.ca i=C)(x:XAt K "TextError.__init__" (Yy 2 0) C):∃ (fI:Ad) (fd:FuncData) (pn:Li Str),XCls K (ClsTab.ca i) fI "line"/\(∀ P w base,FnOk P w K mg base CX0 1 fI fd pn (spI (ClsTab.ca i) "line"))/\Binds K fd pn []:=by
 rw[h];exact x.ra ini
theorem Z5{C C1:Ad}{i:Nat}{l:Li Nat}{y:Str}{s:Stmt}(h1:ClsTab.ca i=C1)(a:PySem.W.exmOne K (.ref C1) (.ref C)=some true)(x:XAt K y s C1)(t:∀ c∈l,PySem.W.exmOne K (.ref (ClsTab.ca c)) (.ref C)=some true/\XG K (ClsTab.ca c)):∀ c∈i :: l,PySem.W.exmOne K (.ref (ClsTab.ca c)) (.ref C)=some true/\XG K (ClsTab.ca c):=fun c hc=>by
 rcases aG.mp hc with rfl|hc
 ·rw[h1]
  exact⟨a,x.g⟩
 ·exact t c hc
end
theorem ZdZ{Pm:Params}{K:Fg}{h:Heap}{mg:Str->Ot vL}{fa:Ad}(X:K.In h)(G0:h.Ns mainGlobals mg)(hfa:mg "law"=some (.ref fa)){C0:Ad}{C1:Ad}{C2:Ad}{C3:Ad}{C4:Ad}{C5:Ad}{C6:Ad}{C7:Ad}{C8:Ad}{t9:Tok}{t10:Tok}{A11:Ad}{ob11:Obj}{on11:Nat}{t11_0:Tok}{t11_1:Tok}{t11_2:Tok}{t11_3:Tok}{t11_4:Tok}{A12:Ad}{ob12:Obj}{on12:Nat}{t12_0:Tok}{t12_1:Tok}{t12_2:Tok}{t12_3:Tok}{t12_4:Tok}{t12_5:Tok}{t14:Tok}{t15:Tok}{A21:Ad}{ob21:Obj}{ep21:Nat}{t21_0:Tok}{B21_0:Ad}{bo21_0:Obj}{bn21_0:Nat}{u21_0_0:Tok}{u21_0_1:Tok}{u21_0_2:Tok}{t21_1:Tok}{B21_1:Ad}{bo21_1:Obj}{bn21_1:Nat}{u21_1_0:Tok}{t21_2:Tok}{B21_2:Ad}{bo21_2:Obj}{bn21_2:Nat}{u21_2_0:Tok}{u21_2_1:Tok}{u21_2_2:Tok}{u21_2_3:Tok}{t21_3:Tok}{B21_3:Ad}{bo21_3:Obj}{bn21_3:Nat}{u21_3_0:Tok}{u21_3_1:Tok}{u21_3_2:Tok}{u21_3_3:Tok}{u21_3_4:Tok}{t21_4:Tok}{B21_4:Ad}{bo21_4:Obj}{bn21_4:Nat}{u21_4_0:Tok}{t21_5:Tok}{B21_5:Ad}{bo21_5:Obj}{bn21_5:Nat}{u21_5_0:Tok}{t21_6:Tok}{B21_6:Ad}{bo21_6:Obj}{bn21_6:Nat}{t22:Tok}{t23:Tok}{t24:Tok}
(yz0:ClsTab.ca 177=C0) (yz1:ClsTab.ca 222=C1) (yz2:ClsTab.ca 224=C2) (yz3:ClsTab.ca 225=C3) (yz4:ClsTab.ca 226=C4) (yz5:ClsTab.ca 227=C5) (yz6:ClsTab.ca 189=C6) (yz7:ClsTab.ca 178=C7) (yz8:ClsTab.ca 237=C8)
  (y0:PySem.W.nsIn K mainGlobals "HuntError"=some (some (.ref C0))) (k0_0:PySem.W.kitOne K (.ref C2) (.ref C0)=some true) (x0_0:PySem.W.exmOne K (.ref C2) (.ref C0)=some true) (k0_1:PySem.W.kitOne K (.ref C3) (.ref C0)=some true) (x0_1:PySem.W.exmOne K (.ref C3) (.ref C0)=some true) (k0_2:PySem.W.kitOne K (.ref C4) (.ref C0)=some true) (x0_2:PySem.W.exmOne K (.ref C4) (.ref C0)=some true) (k0_3:PySem.W.kitOne K (.ref C5) (.ref C0)=some true) (x0_3:PySem.W.exmOne K (.ref C5) (.ref C0)=some true)
  (y1:PySem.W.nsIn K mainGlobals "TextError"=some (some (.ref C1))) (k1_0:PySem.W.kitOne K (.ref C2) (.ref C1)=some true) (x1_0:PySem.W.exmOne K (.ref C2) (.ref C1)=some true) (k1_1:PySem.W.kitOne K (.ref C3) (.ref C1)=some true) (x1_1:PySem.W.exmOne K (.ref C3) (.ref C1)=some true) (k1_2:PySem.W.kitOne K (.ref C4) (.ref C1)=some true) (x1_2:PySem.W.exmOne K (.ref C4) (.ref C1)=some true) (k1_3:PySem.W.kitOne K (.ref C5) (.ref C1)=some true) (x1_3:PySem.W.exmOne K (.ref C5) (.ref C1)=some true)
  (y2:PySem.W.nsIn K mainGlobals "NoLine"=some (some (.ref C2))) (k2_0:PySem.W.kitOne K (.ref C2) (.ref C2)=some true) (x2_0:PySem.W.exmOne K (.ref C2) (.ref C2)=some true) (k2_1:PySem.W.kitOne K (.ref C3) (.ref C2)=some false) (k2_2:PySem.W.kitOne K (.ref C4) (.ref C2)=some false) (k2_3:PySem.W.kitOne K (.ref C5) (.ref C2)=some false) (xa2:XAt K "TextError.__init__" (Yy 2 0) C2)
  (y3:PySem.W.nsIn K mainGlobals "Twice"=some (some (.ref C3))) (k3_0:PySem.W.kitOne K (.ref C2) (.ref C3)=some false) (k3_1:PySem.W.kitOne K (.ref C3) (.ref C3)=some true) (x3_1:PySem.W.exmOne K (.ref C3) (.ref C3)=some true) (k3_2:PySem.W.kitOne K (.ref C4) (.ref C3)=some false) (k3_3:PySem.W.kitOne K (.ref C5) (.ref C3)=some false) (xa3:XAt K "TextError.__init__" (Yy 2 0) C3)
  (y4:PySem.W.nsIn K mainGlobals "NoName"=some (some (.ref C4))) (k4_0:PySem.W.kitOne K (.ref C2) (.ref C4)=some false) (k4_1:PySem.W.kitOne K (.ref C3) (.ref C4)=some false) (k4_2:PySem.W.kitOne K (.ref C4) (.ref C4)=some true) (x4_2:PySem.W.exmOne K (.ref C4) (.ref C4)=some true) (k4_3:PySem.W.kitOne K (.ref C5) (.ref C4)=some false) (xa4:XAt K "TextError.__init__" (Yy 2 0) C4)
  (y5:PySem.W.nsIn K mainGlobals "NoPlace"=some (some (.ref C5))) (k5_0:PySem.W.kitOne K (.ref C2) (.ref C5)=some false) (k5_1:PySem.W.kitOne K (.ref C3) (.ref C5)=some false) (k5_2:PySem.W.kitOne K (.ref C4) (.ref C5)=some false) (k5_3:PySem.W.kitOne K (.ref C5) (.ref C5)=some true) (x5_3:PySem.W.exmOne K (.ref C5) (.ref C5)=some true) (xa5:XAt K "TextError.__init__" (Yy 2 0) C5)
  (y6:PySem.W.nsIn K mainGlobals "TooWide"=some (some (.ref C6))) (k6_0:PySem.W.kitOne K (.ref C2) (.ref C6)=some false) (k6_1:PySem.W.kitOne K (.ref C3) (.ref C6)=some false) (k6_2:PySem.W.kitOne K (.ref C4) (.ref C6)=some false) (k6_3:PySem.W.kitOne K (.ref C5) (.ref C6)=some false)
  (y7:PySem.W.nsIn K mainGlobals "TooMany"=some (some (.ref C7))) (k7_0:PySem.W.kitOne K (.ref C2) (.ref C7)=some false) (k7_1:PySem.W.kitOne K (.ref C3) (.ref C7)=some false) (k7_2:PySem.W.kitOne K (.ref C4) (.ref C7)=some false) (k7_3:PySem.W.kitOne K (.ref C5) (.ref C7)=some false)
  (y8:ClsAt K "Draft" C8) (w8_238:MtAt K C8 "__init__" "Draft.__init__" (Yy 33 0)) (w8_239:MtAt K C8 "has_room" "Draft.has_room" (Yy 33 1)) (w8_240:MtAt K C8 "read_line" "Draft.read_line" (Yy 33 2)) (w8_241:MtAt K C8 "read_name" "Draft.read_name" (Yy 33 3)) (w8_242:MtAt K C8 "read_row" "Draft.read_row" (Yy 33 4)) (w8_243:MtAt K C8 "check_places" "Draft.check_places" (Yy 33 5)) (w8_244:MtAt K C8 "told" "Draft.told" (Yy 33 6))
  (g9:PySem.W.nsIn K mainGlobals "HALF"=some (some (.int (1000000000) t9)))
  (g10:PySem.W.nsIn K mainGlobals "RING"=some (some (.int (2000000000) t10)))
  (g11:PySem.W.nsIn K mainGlobals "PUT_SIGNS"=some (some (.ref A11))) (d11:K.lookup A11=some ob11) (f11c:ob11.cls=.type "tuple") (f11d:ob11.dict=none) (e11:ob11.data=.seq #[.str "+" t11_0,.str "-" t11_1,.str "*" t11_2,.str "/" t11_3,.str "mod" t11_4] on11)
  (g12:PySem.W.nsIn K mainGlobals "IF_SIGNS"=some (some (.ref A12))) (d12:K.lookup A12=some ob12) (f12c:ob12.cls=.type "tuple") (f12d:ob12.dict=none) (e12:ob12.data=.seq #[.str "<" t12_0,.str "<=" t12_1,.str "=" t12_2,.str ">=" t12_3,.str ">" t12_4,.str "!=" t12_5] on12)
  (a13:FnAt K "around" (top 14))
  (g14:PySem.W.nsIn K mainGlobals "LETTERS"=some (some (.str (S "abcdefghijklmnopqrstuvwxyz") t14)))
  (g15:PySem.W.nsIn K mainGlobals "FIGURES"=some (some (.str (S "0123456789") t15)))
  (a16:FnAt K "is_made_of" (top 18))
  (a17:FnAt K "is_name" (top 19))
  (a18:FnAt K "are_figures" (top 20))
  (a19:FnAt K "number_in" (top 21))
  (a20:FnAt K "place_in" (top 22))
  (g21:PySem.W.nsIn K mainGlobals "FORMS"=some (some (.ref A21))) (d21:K.lookup A21=some ob21) (f21c:ob21.cls=.type "dict") (f21d:ob21.dict=none) (f21s:ob21.slots=#[]) (e21:ob21.data=.dict #[⟨PyData.keyHash Pm "take",.str "take" t21_0,.ref B21_0⟩,⟨PyData.keyHash Pm "name",.str "name" t21_1,.ref B21_1⟩,⟨PyData.keyHash Pm "put",.str "put" t21_2,.ref B21_2⟩,⟨PyData.keyHash Pm "if",.str "if" t21_3,.ref B21_3⟩,⟨PyData.keyHash Pm "go",.str "go" t21_4,.ref B21_4⟩,⟨PyData.keyHash Pm "tell",.str "tell" t21_5,.ref B21_5⟩,⟨PyData.keyHash Pm "skip",.str "skip" t21_6,.ref B21_6⟩] ep21) (s21:(A21==sysModules)=false)
  (h21_0:K.lookup B21_0=some bo21_0) (i21_0:bo21_0.cls=.type "tuple") (j21_0:bo21_0.data=.seq #[.str ("name") u21_0_0,.str ("number") u21_0_1,.str ("number") u21_0_2] bn21_0)
  (h21_1:K.lookup B21_1=some bo21_1) (i21_1:bo21_1.cls=.type "tuple") (j21_1:bo21_1.data=.seq #[.str ("name") u21_1_0] bn21_1)
  (h21_2:K.lookup B21_2=some bo21_2) (i21_2:bo21_2.cls=.type "tuple") (j21_2:bo21_2.data=.seq #[.str ("name") u21_2_0,.str ("operand") u21_2_1,.str ("put sign") u21_2_2,.str ("operand") u21_2_3] bn21_2)
  (h21_3:K.lookup B21_3=some bo21_3) (i21_3:bo21_3.cls=.type "tuple") (j21_3:bo21_3.data=.seq #[.str ("operand") u21_3_0,.str ("if sign") u21_3_1,.str ("operand") u21_3_2,.str ("go") u21_3_3,.str ("place") u21_3_4] bn21_3)
  (h21_4:K.lookup B21_4=some bo21_4) (i21_4:bo21_4.cls=.type "tuple") (j21_4:bo21_4.data=.seq #[.str ("place") u21_4_0] bn21_4)
  (h21_5:K.lookup B21_5=some bo21_5) (i21_5:bo21_5.cls=.type "tuple") (j21_5:bo21_5.data=.seq #[.str ("operand") u21_5_0] bn21_5)
  (h21_6:K.lookup B21_6=some bo21_6) (i21_6:bo21_6.cls=.type "tuple") (j21_6:bo21_6.data=.seq #[] bn21_6)
  (g22:PySem.W.nsIn K mainGlobals "MOST_TAKES"=some (some (.int (3) t22)))
  (g23:PySem.W.nsIn K mainGlobals "MOST_NAMES"=some (some (.int (5) t23)))
  (g24:PySem.W.nsIn K mainGlobals "MOST_ROWS"=some (some (.int (12) t24)))
  (a25:FnAt K "fits" (top 28))
  (a26:FnAt K "is_line" (top 29))
  (a27:FnAt K "names_read" (top 30))
  (a28:FnAt K "operand_in" (top 31))
  (a29:FnAt K "row_of" (top 32))
  (a30:FnAt K "read" (top 34))
  (a31:FnAt K "_law_whole" (top 36))
  (a32:FnAt K "_law_cell_at" (top 37))
  (a33:FnAt K "_law_small_by" (top 38))
  (a34:FnAt K "_law_operand" (top 39))
  (a35:FnAt K "_law_row" (top 40))
  (a36:FnAt K "_law_program" (top 41))
  (a37:FnAt K "_law_names" (top 42))
  (a38:FnAt K "_law_word" (top 43))
  (a39:FnAt K "_law_line" (top 44))
  (a40:FnAt K "_law_lines" (top 45))
  (a41:FnAt K "_law_spread" (top 46))
  (a42:FnAt K "_law_told" (top 47))
  (a43:FnAt K "_law_refused" (top 48))
  (a44:FnAt K "_law_bad_word" (top 49))
  (a45:FnAt K "_law_bad_form" (top 50))
  (a46:FnAt K "_law_bad_line" (top 51))
  (a47:FnAt K "_law_blanked" (top 52))
  (a48:FnAt K "_law_stranger" (top 53))
  (a49:FnAt K "_law_fault" (top 54))
  (a50:FnAt K "_law_read" (top 55))
  (a51:FnAt K "law" (top 56))
  (z52:PySem.W.nsIn K mainGlobals "len"=some none)
  (z53:PySem.W.nsIn K mainGlobals "range"=some none)
  (z54:PySem.W.nsIn K mainGlobals "tuple"=some none)
  (z55:PySem.W.nsIn K mainGlobals "int"=some none)
  (z56:PySem.W.nsIn K mainGlobals "bool"=some none)
  (z57:PySem.W.nsIn K mainGlobals "str"=some none)
  (z58:PySem.W.nsIn K mainGlobals "min"=some none)
  (z59:PySem.W.nsIn K mainGlobals "max"=some none)
  (z60:PySem.W.nsIn K mainGlobals "isinstance"=some none)
  (z61:PySem.W.nsIn K mainGlobals "all"=some none)
  (z62:PySem.W.nsIn K mainGlobals "zip"=some none)
  (z63:PySem.W.nsIn K mainGlobals "enumerate"=some none)
  (z64:PySem.W.nsIn K mainGlobals "ValueError"=some none) :
  Text Pm K mg G T/\∃ (fd:FuncData) (N:Li Str),(∀ (s:sH7) (u:vL),BindsTo s fd ⟨[u],[]⟩ [(S "_law_script",u)])/\DefOk K mg G T "law" 16 [] fa fd [S "_law_script"] N:=by
 exact⟨Zdi (gX X G0 yz0 yz2 yz3 yz4 yz5 y0 k0_0 k0_1 k0_2 k0_3 (Z5 yz2 x0_0 xa2 (Z5 yz3 x0_1 xa3 (Z5 yz4 x0_2 xa4 (Z5 yz5 x0_3 xa5 (fun _ h=>nomatch h))))) (fun h=>absurd h (by decide)) (gX X G0 yz1 yz2 yz3 yz4 yz5 y1 k1_0 k1_1 k1_2 k1_3 (Z5 yz2 x1_0 xa2 (Z5 yz3 x1_1 xa3 (Z5 yz4 x1_2 xa4 (Z5 yz5 x1_3 xa5 (fun _ h=>nomatch h))))) (fun h=>absurd h (by decide)) (gX X G0 yz2 yz2 yz3 yz4 yz5 y2 k2_0 k2_1 k2_2 k2_3 (Z5 yz2 x2_0 xa2 (fun _ h=>nomatch h)) (fun _=>QR yz2 xa2) (gX X G0 yz3 yz2 yz3 yz4 yz5 y3 k3_0 k3_1 k3_2 k3_3 (Z5 yz3 x3_1 xa3 (fun _ h=>nomatch h)) (fun _=>QR yz3 xa3) (gX X G0 yz4 yz2 yz3 yz4 yz5 y4 k4_0 k4_1 k4_2 k4_3 (Z5 yz4 x4_2 xa4 (fun _ h=>nomatch h)) (fun _=>QR yz4 xa4) (gX X G0 yz5 yz2 yz3 yz4 yz5 y5 k5_0 k5_1 k5_2 k5_3 (Z5 yz5 x5_3 xa5 (fun _ h=>nomatch h)) (fun _=>QR yz5 xa5) (gX X G0 yz6 yz2 yz3 yz4 yz5 y6 k6_0 k6_1 k6_2 k6_3 (fun _ h=>nomatch h) (fun h=>absurd h (by decide)) (gX X G0 yz7 yz2 yz3 yz4 yz5 y7 k7_0 k7_1 k7_2 k7_3 (fun _ h=>nomatch h) (fun h=>absurd h (by decide)) (gC X G0 yz8 y8 (gM w8_238 ZeG rfl (gM w8_239 ZeH rfl (gM w8_240 ZeI rfl (gM w8_241 ZeJ rfl (gM w8_242 ZeK rfl (gM w8_243 ZeL rfl (gM w8_244 ZeM rfl trivial))))))) (gI X G0 g9 (gI X G0 g10 (⟨⟨.ref A11,.ref A11,PySem.W.mg_of X G0 g11,rfl,fun _ _=>.kt (its:=#[.str "+" t11_0,.str "-" t11_1,.str "*" t11_2,.str "/" t11_3,.str "mod" t11_4]) d11 f11c f11d e11 (show(5:Nat)<=sizeLine by decide) (.cons ⟨_,rfl⟩ (.cons ⟨_,rfl⟩ (.cons ⟨_,rfl⟩ (.cons ⟨_,rfl⟩ (.cons ⟨_,rfl⟩ (.nil))))))⟩,⟨⟨.ref A12,.ref A12,PySem.W.mg_of X G0 g12,rfl,fun _ _=>.kt (its:=#[.str "<" t12_0,.str "<=" t12_1,.str "=" t12_2,.str ">=" t12_3,.str ">" t12_4,.str "!=" t12_5]) d12 f12c f12d e12 (show(6:Nat)<=sizeLine by decide) (.cons ⟨_,rfl⟩ (.cons ⟨_,rfl⟩ (.cons ⟨_,rfl⟩ (.cons ⟨_,rfl⟩ (.cons ⟨_,rfl⟩ (.cons ⟨_,rfl⟩ (.nil)))))))⟩,gD X G0 a13 ZgI rfl (⟨⟨_,_,PySem.W.mg_of X G0 g14,(show RelV (.str _) _ from⟨_,rfl⟩),fun _ _=>.str _⟩,⟨⟨_,_,PySem.W.mg_of X G0 g15,(show RelV (.str _) _ from⟨_,rfl⟩),fun _ _=>.str _⟩,gD X G0 a16 ZgJ rfl (gD X G0 a17 ZgK rfl (gD X G0 a18 ZgL rfl (gD X G0 a19 ZgM rfl (gD X G0 a20 ZgN rfl (⟨⟨A21,ob21,#[⟨PyData.keyHash Pm "take",.str "take" t21_0,.ref B21_0⟩,⟨PyData.keyHash Pm "name",.str "name" t21_1,.ref B21_1⟩,⟨PyData.keyHash Pm "put",.str "put" t21_2,.ref B21_2⟩,⟨PyData.keyHash Pm "if",.str "if" t21_3,.ref B21_3⟩,⟨PyData.keyHash Pm "go",.str "go" t21_4,.ref B21_4⟩,⟨PyData.keyHash Pm "tell",.str "tell" t21_5,.ref B21_5⟩,⟨PyData.keyHash Pm "skip",.str "skip" t21_6,.ref B21_6⟩],ep21,PySem.W.mg_of X G0 g21,d21,⟨f21c,f21d,f21s⟩,e21,s21,(by decide +kernel),(show EsOk Pm K [⟨PyData.keyHash Pm "take",.str "take" t21_0,.ref B21_0⟩,⟨PyData.keyHash Pm "name",.str "name" t21_1,.ref B21_1⟩,⟨PyData.keyHash Pm "put",.str "put" t21_2,.ref B21_2⟩,⟨PyData.keyHash Pm "if",.str "if" t21_3,.ref B21_3⟩,⟨PyData.keyHash Pm "go",.str "go" t21_4,.ref B21_4⟩,⟨PyData.keyHash Pm "tell",.str "tell" t21_5,.ref B21_5⟩,⟨PyData.keyHash Pm "skip",.str "skip" t21_6,.ref B21_6⟩] _ _ from .cons (v:=.ref B21_0) (t:=t21_0) rfl rfl (show RelV (.ref B21_0) (.ref B21_0) from rfl) (fun _ _=>.tup (xs:=[.str ("name"),.str ("number"),.str ("number")]) (.inr ⟨bo21_0,#[.str ("name") u21_0_0,.str ("number") u21_0_1,.str ("number") u21_0_2],bn21_0,h21_0,i21_0,j21_0,(show(3:Nat)<=sizeLine by decide),.cons ⟨_,rfl⟩ (.cons ⟨_,rfl⟩ (.cons ⟨_,rfl⟩ (.nil)))⟩) (.cons (.str _) (.cons (.str _) (.cons (.str _) (.nil))))) (.cons (v:=.ref B21_1) (t:=t21_1) rfl rfl (show RelV (.ref B21_1) (.ref B21_1) from rfl) (fun _ _=>.tup (xs:=[.str ("name")]) (.inr ⟨bo21_1,#[.str ("name") u21_1_0],bn21_1,h21_1,i21_1,j21_1,(show(1:Nat)<=sizeLine by decide),.cons ⟨_,rfl⟩ (.nil)⟩) (.cons (.str _) (.nil))) (.cons (v:=.ref B21_2) (t:=t21_2) rfl rfl (show RelV (.ref B21_2) (.ref B21_2) from rfl) (fun _ _=>.tup (xs:=[.str ("name"),.str ("operand"),.str ("put sign"),.str ("operand")]) (.inr ⟨bo21_2,#[.str ("name") u21_2_0,.str ("operand") u21_2_1,.str ("put sign") u21_2_2,.str ("operand") u21_2_3],bn21_2,h21_2,i21_2,j21_2,(show(4:Nat)<=sizeLine by decide),.cons ⟨_,rfl⟩ (.cons ⟨_,rfl⟩ (.cons ⟨_,rfl⟩ (.cons ⟨_,rfl⟩ (.nil))))⟩) (.cons (.str _) (.cons (.str _) (.cons (.str _) (.cons (.str _) (.nil)))))) (.cons (v:=.ref B21_3) (t:=t21_3) rfl rfl (show RelV (.ref B21_3) (.ref B21_3) from rfl) (fun _ _=>.tup (xs:=[.str ("operand"),.str ("if sign"),.str ("operand"),.str ("go"),.str ("place")]) (.inr ⟨bo21_3,#[.str ("operand") u21_3_0,.str ("if sign") u21_3_1,.str ("operand") u21_3_2,.str ("go") u21_3_3,.str ("place") u21_3_4],bn21_3,h21_3,i21_3,j21_3,(show(5:Nat)<=sizeLine by decide),.cons ⟨_,rfl⟩ (.cons ⟨_,rfl⟩ (.cons ⟨_,rfl⟩ (.cons ⟨_,rfl⟩ (.cons ⟨_,rfl⟩ (.nil)))))⟩) (.cons (.str _) (.cons (.str _) (.cons (.str _) (.cons (.str _) (.cons (.str _) (.nil))))))) (.cons (v:=.ref B21_4) (t:=t21_4) rfl rfl (show RelV (.ref B21_4) (.ref B21_4) from rfl) (fun _ _=>.tup (xs:=[.str ("place")]) (.inr ⟨bo21_4,#[.str ("place") u21_4_0],bn21_4,h21_4,i21_4,j21_4,(show(1:Nat)<=sizeLine by decide),.cons ⟨_,rfl⟩ (.nil)⟩) (.cons (.str _) (.nil))) (.cons (v:=.ref B21_5) (t:=t21_5) rfl rfl (show RelV (.ref B21_5) (.ref B21_5) from rfl) (fun _ _=>.tup (xs:=[.str ("operand")]) (.inr ⟨bo21_5,#[.str ("operand") u21_5_0],bn21_5,h21_5,i21_5,j21_5,(show(1:Nat)<=sizeLine by decide),.cons ⟨_,rfl⟩ (.nil)⟩) (.cons (.str _) (.nil))) (.cons (v:=.ref B21_6) (t:=t21_6) rfl rfl (show RelV (.ref B21_6) (.ref B21_6) from rfl) (fun _ _=>.tup (xs:=[]) (.inr ⟨bo21_6,#[],bn21_6,h21_6,i21_6,j21_6,(show(0:Nat)<=sizeLine by decide),.nil⟩) (.nil)) (.nil))))))))⟩,gI X G0 g22 (gI X G0 g23 (gI X G0 g24 (gD X G0 a25 ZgO rfl (gD X G0 a26 ZgP rfl (gD X G0 a27 ZgQ rfl (gD X G0 a28 ZgR rfl (gD X G0 a29 ZgS rfl (gD X G0 a30 ZgT rfl (gD X G0 a31 ZgU rfl (gD X G0 a32 ZgV rfl (gD X G0 a33 ZgW rfl (gD X G0 a34 ZgX rfl (gD X G0 a35 ZgY rfl (gD X G0 a36 ZgZ rfl (gD X G0 a37 Zg0 rfl (gD X G0 a38 Zg1 rfl (gD X G0 a39 Zg2 rfl (gD X G0 a40 Zg3 rfl (gD X G0 a41 Zg4 rfl (gQ X G0 a42 Zg5 rfl rfl (fun _ _ _ _ _ _ _=>rfl) (gD X G0 a43 Zg6 rfl (gD X G0 a44 Zg7 rfl (gD X G0 a45 Zg8 rfl (gD X G0 a46 Zg9 rfl (gD X G0 a47 Zha rfl (gD X G0 a48 Zhb rfl (gD X G0 a49 Zhc rfl (gD X G0 a50 Zhd rfl (gD X G0 a51 ZfR rfl (gB X G0 z52 (gB X G0 z53 (gB X G0 z54 (gB X G0 z55 (gB X G0 z56 (gB X G0 z57 (gB X G0 z58 (gB X G0 z59 (gB X G0 z60 (gB X G0 z61 (gB X G0 z62 (gB X G0 z63 (gB X G0 z64 (trivial)))))))))))))))))))))))))))))))))))))))))))⟩)))))⟩⟩)⟩⟩)))))))))))),gL X G0 hfa a51 ZfR rfl fun _ _ _ _ _ _ _=>rfl⟩
theorem ZcE:∀ n,YA G (run T n):=fun _=>Qt
theorem Za5:∀ n,YA (ZY G) (run T n):=fun _=>Qt
end
end Dp
open PySem PySem.W PyProof.Rows
set_option maxRecDepth 100000 in
set_option maxHeartbeats 0 in
theorem PySem.Challenge.cw_fakehunt_k14_refused_lines_holds : PySem.Challenge.rw_fakehunt_k14_refused_lines.Holds := by
 w_on;o_law;k_head;(case hw=>w_witness2)
 k_fill
 refine Dp.Ju (l:=PySem.Challenge.rw_fakehunt_k14_refused_lines) (G:=Dp.G) (T:=Dp.T) (n:=10) (i:=16) (x := "_law_script") rfl rfl ⟨fun _=>rfl,by decide,by decide⟩ (fun w h Y=>PySem.W.kIn_of Y) Dp.ZcE Dp.Za5 (by decide +kernel) ?F (fun ns _=>Dp.Jt (n:=0))
 case F=>
  intro w mg fa h KX G0 hmg;refine' ⟨Dp.tab [(177,?C0),(222,?C1),(224,?C2),(225,?C3),(226,?C4),(227,?C5),(189,?C6),(178,?C7),(237,?C8)],Dp.ZdZ (ct:=Dp.tab [(177,?C0),(222,?C1),(224,?C2),(225,?C3),(226,?C4),(227,?C5),(189,?C6),(178,?C7),(237,?C8)]) (Pm:=w.params) (C0:=?C0) (C1:=?C1) (C2:=?C2) (C3:=?C3) (C4:=?C4) (C5:=?C5) (C6:=?C6) (C7:=?C7) (C8:=?C8) KX G0 hmg ?z0 ?z1 ?z2 ?z3 ?z4 ?z5 ?z6 ?z7 ?z8 ?_ ?_ ?_ ?_ ?_ ?_ ?_ ?_ ?_ ?_ ?_ ?_ ?_ ?_ ?_ ?_ ?_ ?_ ?_ ?_ ?_ ?_ ?_ ?_ (.mk ?_ ?_ ?_ ?_ ?_ ?_ ?_ ?_ ?_ ?_ ?_ ?_ ?_ ?_ ?_ ?_) ?_ ?_ ?_ ?_ ?_ ?_ (.mk ?_ ?_ ?_ ?_ ?_ ?_ ?_ ?_ ?_ ?_ ?_ ?_ ?_ ?_ ?_ ?_) ?_ ?_ ?_ ?_ ?_ ?_ (.mk ?_ ?_ ?_ ?_ ?_ ?_ ?_ ?_ ?_ ?_ ?_ ?_ ?_ ?_ ?_ ?_) ?_ ?_ ?_ ?_ ?_ ?_ (.mk ?_ ?_ ?_ ?_ ?_ ?_ ?_ ?_ ?_ ?_ ?_ ?_ ?_ ?_ ?_ ?_) ?_ ?_ ?_ ?_ ?_ ?_ ?_ ?_ ?_ ?_ ⟨?_,?_,?_,?_,?_,?_,?_,?_,?_,?_,?_⟩ (.mk ?_ ?_ ?_ ?_ ?_) (.mk ?_ ?_ ?_ ?_ ?_) (.mk ?_ ?_ ?_ ?_ ?_) (.mk ?_ ?_ ?_ ?_ ?_) (.mk ?_ ?_ ?_ ?_ ?_) (.mk ?_ ?_ ?_ ?_ ?_) (.mk ?_ ?_ ?_ ?_ ?_) ?_ ?_ ?_ ?_ ?_ ?_ ?_ ?_ ?_ ?_ ?_ ?_ (.mk ?_ ?_ ?_ ?_) ?_ ?_ (.mk ?_ ?_ ?_ ?_) (.mk ?_ ?_ ?_ ?_) (.mk ?_ ?_ ?_ ?_) (.mk ?_ ?_ ?_ ?_) (.mk ?_ ?_ ?_ ?_) ?_ ?_ ?_ ?_ ?_ ?_ ?_ ?_ ?_ ?_ ?_ ?_ ?_ ?_ ?_ ?_ ?_ ?_ ?_ ?_ ?_ ?_ ?_ ?_ ?_ ?_ ?_ ?_ ?_ ?_ ?_ (.mk ?_ ?_ ?_ ?_) (.mk ?_ ?_ ?_ ?_) (.mk ?_ ?_ ?_ ?_) (.mk ?_ ?_ ?_ ?_) (.mk ?_ ?_ ?_ ?_) (.mk ?_ ?_ ?_ ?_) (.mk ?_ ?_ ?_ ?_) (.mk ?_ ?_ ?_ ?_) (.mk ?_ ?_ ?_ ?_) (.mk ?_ ?_ ?_ ?_) (.mk ?_ ?_ ?_ ?_) (.mk ?_ ?_ ?_ ?_) (.mk ?_ ?_ ?_ ?_) (.mk ?_ ?_ ?_ ?_) (.mk ?_ ?_ ?_ ?_) (.mk ?_ ?_ ?_ ?_) (.mk ?_ ?_ ?_ ?_) (.mk ?_ ?_ ?_ ?_) (.mk ?_ ?_ ?_ ?_) (.mk ?_ ?_ ?_ ?_) (.mk ?_ ?_ ?_ ?_) (.mk ?_ ?_ ?_ ?_) (.mk ?_ ?_ ?_ ?_) (.mk ?_ ?_ ?_ ?_) (.mk ?_ ?_ ?_ ?_) (.mk ?_ ?_ ?_ ?_) (.mk ?_ ?_ ?_ ?_) ?_ ?_ ?_ ?_ ?_ ?_ ?_ ?_ ?_ ?_ ?_ ?_ ?_⟩
  all_goals (first|k_is|exact rfl|skip)
  all_goals (first|k_is|exact rfl|skip)

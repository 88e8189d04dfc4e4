import PyProof.Rows.All
import Wide.All
import OpenK.AllK
import Wide.FinOn
import Lean
import PyProof.EqAt
import PyProof.EqKinds
import PyProof.TupleCall
import PySem.Challenge.RW_fakehunt_k13_texts_read
set_option Elab.async false
set_option linter.all false
set_option maxRecDepth 100000
set_option maxHeartbeats 4000000
set_option genSizeOf false
def aB:=@Nat.le_refl
def aD:=@List.length_map
def aF:=@Nat.le_trans
def aH:=@List.length_append
def aI:=@List.size_toArray
def aJ:=@List.mem_cons
def aK:=@decide_eq_true
def aM:=@List.map_cons
def aO:=@decide_eq_false
def aP:=@Nat.lt_of_lt_of_le
def aQ:=@List.getElem?_map
def aR:=@List.mem_append
def aS:=@decide_eq_true_eq
def aT:=@List.mem_map
def aU:=@List.not_mem_nil
def aW:=@List.all_eq_true
def aX:=@Nat.ne_of_lt
def aY:=@List.length_cons
def aZ:=@List.getElem?_append_left
def bA:=@List.all_cons
def bB:=@List.map_map
def bD:=@Array.length_toList
def bE:=@List.append_nil
def bF:=@List.getElem?_append_right
def bG:=@List.mem_of_getElem?
def bH:=@List.mem_singleton
def bI:=@List.getElem?_eq_some_iff
def bJ:=@List.length_take
def bK:=@List.lookup_cons
def bL:=@List.length_range
def bM:=@List.mem_range
def bN:=@List.append_assoc
def bO:=@List.toList_toArray
def bP:=@List.map_append
def bQ:=@List.length_set
def bR:=@Bool.and_eq_true_iff
def bS:=@Bool.eq_iff_iff
def bT:=@Int.toNat_natCast
def bU:=@Int.emod_nonneg
def bV:=@beq_eq_false_iff_ne
def bW:=@Nat.lt_irrefl
def bX:=@Nat.zero_le
def bY:=@List.getElem?_set
def bZ:=@Int.emod_lt_of_pos
def cA:=@List.take_of_length_le
def cB:=@Bool.or_eq_true
def cC:=@Nat.min_eq_left
def cD:=@List.mem_append_right
def cF:=@List.any_cons
def cG:=@List.length_drop
def cH:=@List.replicate_succ
def cI:=@List.length_singleton
def cJ:=@List.length_zip
def cK:=@List.map_congr_left
def cL:=@List.getElem?_toArray
def cM:=@List.getD_eq_getElem?_getD
def cN:=@List.getElem?_set_ne
def cP:=@Nat.le_of_eq
def cQ:=@List.find?_cons_of_neg
def cR:=@List.drop_eq_getElem_cons
def cT:=@Bool.not_eq_true'
def cU:=@List.reverse_cons
def cV:=@Option.map_eq_some_iff
def cW:=@List.mem_filter
def cX:=@List.getElem?_set_self
def cY:=@List.length_replicate
def cZ:=@List.flatten_cons
def dA:=@Nat.le_of_not_lt
def dB:=@List.length_nil
def dC:=@List.cons_ne_nil
def dD:=@List.find?_cons_of_pos
def dE:=@List.getElem_mem
def dF:=@Option.bind_eq_some_iff
def dG:=@Nat.le_add_right
def dH:=@List.getElem?_range
def dI:=@Bool.or_true
def dJ:=@Nat.min_eq_right
def dL:=@List.filterMap_cons
def dM:=@List.nodup_cons
def dN:=@List.getElem?_replicate
def dO:=@List.find?_cons
def dP:=@List.drop_length
def dQ:=@List.range_succ_eq_map
def dR:=@List.length_eq_zero_iff
def dS:=@List.forIn_cons
def dU:=@List.take_length
def dW:=@List.mem_of_mem_take
def dX:=@List.getElem?_eq_none
def dY:=@List.drop_eq_nil_of_le
section
open PySem PySem.Spec PyProof.Rows
def aA:=@wpAny_bind
def aE:=@wpAny_pure
def aG:=@Heap.lt_size
def aL:=@Heap.get?_push_of_some
def aV:=@Heap.get?_push_size
def bC:=@wpAny_mono
end
abbrev Li.{u}(α:Type u):Type u:=List α
abbrev Ot.{u}(α:Type u):Type u:=Option α
abbrev vL:=PySem.Value
abbrev Ad:=PySem.Addr
abbrev Sd:=PySem.Shared
theorem Ob{α β:Type}{a:α}{f:α->Ot β}:(some a).bind f=f a:=rfl
abbrev Fg:=PySem.W.Frag
theorem Ba(a b:Bool):((a&&b)=true)=(a=true/\b=true):=Bool.and_eq_true a b
theorem Lg{α:Type _}{l:Li α}{i:Nat}(h:i<l.length):l[i]?=some l[i]:=List.getElem?_eq_getElem h
theorem Lm{α:Type _}(y:α){a:α}{l:Li α}(h:a∈l):a∈y::l:=List.mem_cons_of_mem y h
theorem Ls{α:Type _}{a:α}{l:Li α}:a∈a::l:=List.mem_cons_self
theorem Bf:¬false=true:=Bool.false_ne_true
namespace L2
open PySem PySem.Spec PyProof.Rows

noncomputable abbrev Key:=Sum Int Str
noncomputable def keyIs:Key->vL->Bool
  |.inl k,v=>Value.isInt k v
  |.inr x,v=>Value.isStrOf x v
noncomputable def keyH(w:World):Key->Int
  |.inl k=>hashInt k
  |.inr x=>hashStr w x
theorem keyIs_shape:∀ {k:Key}{v:vL},keyIs k v=true->(∃ i t,k=Sum.inl i/\v=Value.int i t)\/(∃ x t,k=Sum.inr x/\v=Value.str x t)
  |.inl i,v,h=>by
    obtain⟨t,e⟩:=Value.isInt_shape (k:=i) (v:=v) h;exact .inl ⟨i,t,rfl,e⟩
  |.inr x,v,h=>by
    obtain⟨t,e⟩:=Value.isStrOf_shape (x:=x) (v:=v) h;exact .inr ⟨x,t,rfl,e⟩
theorem keyIs_int(i:Int)(t:Tok):keyIs (.inl i) (.int i t)=true:=by simp[keyIs,Value.isInt]
theorem keyIs_str(x:Str)(t:Tok):keyIs (.inr x) (.str x t)=true:=by simp[keyIs,Value.isStrOf]
theorem key_ll(a b:Int):decide ((Sum.inl a:Key)=Sum.inl b)=(a==b):=by
  by_cases e:a=b
  · subst e;simp
  · have h:¬(Sum.inl a:Key)=Sum.inl b:=fun q=>e (Sum.inl.inj q)
    rw[aO h];exact(bV.mpr e).symm
theorem key_rr(a b:Str):decide ((Sum.inr a:Key)=Sum.inr b)=decide (a=b):=by
  by_cases e:a=b
  · subst e;simp
  · have h:¬(Sum.inr a:Key)=Sum.inr b:=fun q=>e (Sum.inr.inj q)
    rw[aO h,aO e]
theorem key_lr(a:Int)(b:Str):decide ((Sum.inl a:Key)=Sum.inr b)=false:=aO (fun q=>nomatch q)
theorem key_rl(a:Str)(b:Int):decide ((Sum.inr a:Key)=Sum.inl b)=false:=aO (fun q=>nomatch q)

noncomputable def mixKind(prog:Program)(w:World):PySem.KeyKind prog w Key where
  is:=keyIs
  hash:=keyH w
  inj:=fun v a b ha hb=>by
    rcases keyIs_shape ha with⟨i,t,rfl,rfl⟩|⟨x,t,rfl,rfl⟩
    · rcases keyIs_shape hb with⟨j,u,rfl,e⟩|⟨y,u,rfl,e⟩
      · injection e with e1 _;rw[e1]
      · exact nomatch e
    · rcases keyIs_shape hb with⟨j,u,rfl,e⟩|⟨y,u,rfl,e⟩
      · exact nomatch e
      · injection e with e1 _;rw[e1]
  byValue:=fun k v h=>by
    rcases keyIs_shape h with⟨i,t,rfl,rfl⟩|⟨x,t,rfl,rfl⟩<;>rfl
  pyHash:=fun hv h=>by
    rcases keyIs_shape hv with⟨i,t,rfl,rfl⟩|⟨x,t,rfl,rfl⟩
    · exact wpAny_pyHash_int h
    · exact wpAny_pyHash_str h
  eqBool:=fun hu hv h=>by
    rcases keyIs_shape hu with⟨i,t,rfl,rfl⟩|⟨x,t,rfl,rfl⟩
    · rcases keyIs_shape hv with⟨j,u,rfl,rfl⟩|⟨y,u,rfl,rfl⟩
      · rw[key_ll]at h;exact wpAny_eqBool_int h
      · rw[key_lr]at h;exact SeqAt.EqAt.int_str i t y u _ _ _ _ h
    · rcases keyIs_shape hv with⟨j,u,rfl,rfl⟩|⟨y,u,rfl,rfl⟩
      · rw[key_rl]at h;exact SeqAt.EqAt.str_int x t j u _ _ _ _ h
      · rw[key_rr]at h;exact wpAny_eqBool_str h
  «strs»:=fun k x t v h=>by
    rcases keyIs_shape h with⟨i,u,rfl,e⟩|⟨y,u,rfl,e⟩
    · exact nomatch e
    · injection e with e1 _
      subst e1;cases v<;>rfl

theorem mixKind_int(prog:Program)(w:World)(i:Int)(t:Tok):(mixKind prog w).is (.inl i) (.int i t)=true:=keyIs_int i t
theorem mixKind_str(prog:Program)(w:World)(x:Str)(t:Tok):(mixKind prog w).is (.inr x) (.str x t)=true:=keyIs_str x t
inductive V where
  |non|bl (b:Bool)|int (i:Int)|str (x:Str)|byt (b:Array UInt8)|flt (b:UInt64)|ref (a:Addr)|ty (n:String)
  deriving DecidableEq

def RelV:V->vL->Prop
  |.non,u=>u=Value.none
  |.bl b,u=>u=Value.bool b
  |.int i,u=>∃ t,u=Value.int i t
  |.str x,u=>∃ t,u=Value.str x t
  |.byt b,u=>∃ t,u=Value.bytes b t
  |.flt b,u=>∃ t,u=Value.float b t
  |.ref a,u=>u=Value.ref a
  |.ty n,u=>u=Value.type n

abbrev Vals:Li V->Li vL->Prop:=Paired RelV
variable{xs:Li V}{us:Li vL}
theorem Vals.length(r:Vals xs us):xs.length=us.length:=Paired.length r
theorem Vals.get:∀ {xs:Li V}{us:Li vL}{i:Nat}{x:V},Vals xs us->xs[i]?=some x->∃ u,us[i]?=some u/\RelV x u
  |_,_,_,_,.nil,e=>by simp at e
  |_,_,0,_,.cons r _,e=>by simp at e;subst e;exact⟨_,rfl,r⟩
  |_,_,i+1,x,.cons _ t,e=>by
    obtain⟨u,h1,h2⟩:=Vals.get (i:=i) (x:=x) t (by simpa using e)
    exact⟨u,by simpa using h1,h2⟩
theorem Vals.append:∀ {xs ys:Li V}{us ws:Li vL},Vals xs us->Vals ys ws->Vals (xs++ys) (us++ws)
  |_,_,_,_,.nil,s=>s
  |_,_,_,_,.cons r t,s=>.cons r (Vals.append t s)
theorem Vals.take:∀ {xs:Li V}{us:Li vL} (n:Nat),Vals xs us->Vals (xs.take n) (us.take n)
  |_,_,0,_=>.nil
  |_,_,_+1,.nil=>.nil
  |_,_,n+1,.cons r t=>.cons r (Vals.take n t)
theorem Vals.drop:∀ {xs:Li V}{us:Li vL} (n:Nat),Vals xs us->Vals (xs.drop n) (us.drop n)
  |_,_,0,r=>r
  |_,_,_+1,.nil=>.nil
  |_,_,n+1,.cons _ t=>Vals.drop n t

def RelO:Ot V->Ot vL->Prop
  |some v,some u=>RelV v u
  |none,none=>True
  |_,_=>False
def KV{κ:Type}:Li (κ×V)->Li (κ×vL)->Prop:=Paired fun(p:κ×V) (q:κ×vL)=>p.1=q.1/\RelV p.2 q.2

noncomputable def kV:Key->V
  |.inl i=>.int i
  |.inr x=>.str x

inductive HO where
    |lst (xs:List V)
    |tup (xs:List V)
    |dK (kvs:List (Key×V))|dT (kvs:List (List Key×V))
    |set (S:Int->Bool) (n:Nat)
    |ins (C dx:Addr) (fs:List (Str×V))
    |own (x:Addr)
    |xd (fs:List (Str×V))
    |met (f x:Addr)
    |rng (lo hi:Int)
    |frz (o:Obj) (u:HO)
    |tbl (ps:Array Value)
    |ext (φ:Heap->Prop)

noncomputable abbrev Hp:=Ad->Ot HO
noncomputable def upd(H:Hp)(a:Ad)(o:HO):Hp:=fun b=>if b=a then some o else H b
variable{H:Hp}
theorem upd_same{a:Ad}{o:HO}:upd H a o a=some o:=by unfold upd;rw[if_pos rfl]
theorem upd_ne{a b:Ad}{o:HO}(h:b≠a):upd H a o b=H b:=by unfold upd;rw[if_neg h]
theorem ne_of{a b:Ad}{o u:HO}(h:H a=some o)(h':H b=some u)(d:o≠u):a≠b:=by
  intro e;subst e;rw[h]at h';exact d (Option.some.inj h')
theorem ne_of_none{a b:Ad}{o:HO}(h:H a=some o)(h':H b=none):a≠b:=by
  intro e;subst e;rw[h]at h';cases h'

section
variable (P:Program) (w:World)
def ObjOk(H:Hp)(h:Heap)(a:Ad):HO->Prop
  |.lst xs=>xs.length<=sizeLine/\∃ (its:Li vL) (n:Nat),Vals xs its/\h.get? a=some { cls:=.type "list",data:=.seq its.toArray n }
  |.tup xs=>xs.length<=sizeLine/\∃ its:Li vL,Vals xs its/\IsTup h a its.toArray
  |.dK kvs=>kvs.length<=sizeLine/\(a==sysModules)=false/\∃ vs,KV kvs vs/\h.DictOf (mixKind P w) a vs
  |.dT kvs=>kvs.length<=sizeLine/\(a==sysModules)=false/\∃ xs:Li (Li Key×Ad×vL),
      Paired (fun(p:Li Key×V) (q:Li Key×Ad×vL)=>p.1=q.1/\H q.2.1=some (.tup (p.1.map kV))/\RelV p.2 q.2.2) kvs xs /\
      ∃ o es ep,h.get? a=some o/\o.ExactDict/\o.data=.dict es ep/\es.toList=xs.map (entryOfKey (tupleKind (mixKind P w)))/\(xs.map (·.1)).Nodup
  |.set S n=>h.SetOf (intKind P w) a S n
  |.ins C dx fs=>H dx=some (.own a)/\fs.length<=1000/\dx≠a/\h.get? a=some (PySem.W.instObj C dx) /\
      ∃ mA,h.Ns1 dx mA/\(∀ f,RelO (fs.lookup f) (mA f))/\PySem.Within mA (fs.map (·.1))
  |.own _=>∃ o,h.get? a=some o
  |.xd fs=>∃ mA,h.Ns1 a mA/\∀ f,RelO (fs.lookup f) (mA f)
  |.rng lo hi=>∃ t u v,h.get? a=some { cls:=.type "range",data:=.fields #[.int lo t,.int hi u,.int 1 v] }
  |.frz o u=>h.get? a=some o/\ObjOk H h a u
  |.tbl ps=>h.get? a=some { cls:=.none,data:=.fields ps }
  |.met f x=>h.get? a=some (PySem.W.methodObj (.ref f) (.ref x))
  |.ext φ=>φ h/\(∃ o,h.get? a=some o)/\∀ h1 h2:Heap,φ h1->(∀ o,h1.get? a=some o->h2.get? a=some o)->φ h2
def HOk(H:Hp)(h:Heap):Prop:=∀ a o,H a=some o->ObjOk P w H h a o
end

section
variable {P:Program}{w:World}{H H':Hp}{h h':Heap}{a:Ad}{o:HO}
theorem ObjOk.lt(x:ObjOk P w H h a o):a < h.objs.size:=by
  cases o with
  |lst xs=>obtain⟨_,_,_,_,e⟩:=x;exact aG e
  |tup xs=>obtain⟨_,_,_,p⟩:=x;exact p.lt
  |dK kvs=>obtain⟨_,_,_,_,o,_,_,e,_⟩:=x;exact aG e
  |dT kvs=>obtain⟨_,_,_,_,o,_,_,e,_⟩:=x;exact aG e
  |set S n=>obtain⟨o,_,_,_,e,_⟩:=x;exact aG e
  |ins C dx fs=>obtain⟨_,_,_,e,_⟩:=x;exact aG e
  |own y=>obtain⟨_,e⟩:=x;exact aG e
  |xd fs=>obtain⟨_,⟨_,_,_,e,_⟩,_⟩:=x;exact aG e
  |rng lo hi=>obtain⟨_,_,_,e⟩:=x;exact aG e
  |frz ob u=>obtain⟨e,_⟩:=x;exact aG e
  |tbl ps=>exact aG (show h.get? a=some _ from x)
  |met f y=>exact aG (show h.get? a=some _ from x)
  |ext φ=>obtain⟨_,⟨_,e⟩,_⟩:=x;exact aG e
theorem Paired.mapP{α β:Type}{F G:α->β->Prop}:∀ {l₁:Li α}{l₂:Li β},Paired F l₁ l₂->(∀ a b,F a b->G a b)->Paired G l₁ l₂
  |_,_,.nil,_=>.nil
  |_,_,.cons r t,f=>.cons (f _ _ r) (Paired.mapP t f)
theorem ObjOk.stay(x:ObjOk P w H h a o)(k:∀ b u,(b=a\/H b=some (.own a))->h.get? b=some u->h'.get? b=some u)(ho:∀ b,H b=some (.own a)->H' b=some (.own a))(ht:∀ b xs,H b=some (.tup xs)->H' b=some (.tup xs)):ObjOk P w H' h' a o:=by
  induction o with
  |lst xs=>obtain⟨z,its,n,r,e⟩:=x;exact⟨z,its,n,r,k _ _ (.inl rfl) e⟩
  |tup xs=>obtain⟨z,its,r,ob,e,c⟩:=x;exact⟨z,its,r,ob,k _ _ (.inl rfl) e,c⟩
  |dK kvs=>obtain⟨z,y,vs,r,ob,es,ep,e,c⟩:=x;exact⟨z,y,vs,r,ob,es,ep,k _ _ (.inl rfl) e,c⟩
  |dT kvs=>
    obtain⟨z,y,xs,r,ob,es,ep,e,c⟩:=x;exact⟨z,y,xs,Paired.mapP r fun p q z=>⟨z.1,ht _ _ z.2.1,z.2.2⟩,ob,es,ep,k _ _ (.inl rfl) e,c⟩
  |set S n=>obtain⟨ob,es,ep,t,e,c⟩:=x;exact⟨ob,es,ep,t,k _ _ (.inl rfl) e,c⟩
  |ins C dx fs=>
    obtain⟨d,z,ne,e,mA,⟨od,es,ep,e2,c⟩,r⟩:=x;exact⟨ho _ d,z,ne,k _ _ (.inl rfl) e,mA,⟨od,es,ep,k _ _ (.inr d) e2,c⟩,r⟩
  |own y=>obtain⟨ob,e⟩:=x;exact⟨ob,k _ _ (.inl rfl) e⟩
  |xd fs=>obtain⟨mA,⟨od,es,ep,e,c⟩,r⟩:=x;exact⟨mA,⟨od,es,ep,k _ _ (.inl rfl) e,c⟩,r⟩
  |rng lo hi=>obtain⟨t,u,v,e⟩:=x;exact⟨t,u,v,k _ _ (.inl rfl) e⟩
  |frz ob u ih=>obtain⟨e,q⟩:=x;exact⟨k _ _ (.inl rfl) e,ih q⟩
  |tbl ps=>
    have e:h.get? a=some { cls:=.none,data:=.fields ps }:=x;show h'.get? a=some { cls:=.none,data:=.fields ps };exact k a _ (.inl rfl) e
  |met f y=>
    have e:h.get? a=some (PySem.W.methodObj (.ref f) (.ref y)):=x;show h'.get? a=some (PySem.W.methodObj (.ref f) (.ref y));exact k a _ (.inl rfl) e
  |ext φ=>obtain⟨p,⟨o,e⟩,st⟩:=x;exact⟨st _ _ p fun o q=>k _ _ (.inl rfl) q,⟨o,k _ _ (.inl rfl) e⟩,st⟩
theorem HOk.lt(x:HOk P w H h)(e:H a=some o):a < h.objs.size:=(x a o e).lt
theorem HOk.fresh(x:HOk P w H h)(e:h.objs.size<=a):H a=none:=by
  cases q:H a with
  |none=>rfl
  |some u=>exact absurd (aP (x.lt q) e) (bW _)
theorem HOk.kept(x:HOk P w H h)(k:∀ b u,h.get? b=some u->h'.get? b=some u):HOk P w H h':=fun a o e=>
  (x a o e).stay (fun b u _ q=>k b u q) (fun _ q=>q) fun _ _ q=>q
theorem HOk.laid(x:HOk P w H h)(k:∀ b u,h.get? b=some u->h'.get? b=some u)(hp:h.objs.size<=a)(new:ObjOk P w (upd H a o) h' a o):HOk P w (upd H a o) h':=fun b u e=>by
  have hn:=x.fresh hp;by_cases hb:b=a
  · subst hb;rw[upd_same]at e;cases e;exact new
  · rw[upd_ne hb]at e
    exact(x b u e).stay (fun c v _ q=>k c v q) (fun c q=>by rw[upd_ne (ne_of_none q hn)];exact q) fun c xs q=>by rw[upd_ne (ne_of_none q hn)];exact q
end

def Rd(H:Hp)(a:Ad)(u:HO):Prop:=H a=some u\/∃ o,H a=some (.frz o u)
variable{w:World}{h:Heap}
theorem Rd.ok{P:Program}{a:Ad}{u:HO}(r:Rd H a u)(x:HOk P w H h):ObjOk P w H h a u:=by
  rcases r with r|⟨o,r⟩
  · exact x a u r
  · obtain⟨_,q⟩:=x a _ r
    exact q
def Mut:Ot HO->Prop
  |some (.lst _)=>True
  |some (.dK _)=>True
  |some (.dT _)=>True
  |some (.set _ _)=>True
  |some (.ins _ _ _)=>True
  |some (.ext _)=>True
  |_=>False
section
variable {P:Program}{w:World}{H:Hp}{h h':Heap}{x e:Ad}{o':HO}
theorem HOk.write(ok:HOk P w H h)(mu:Mut (H x))(he:e=x\/H e=some (.own x))(k:∀ b u,b≠e->h.get? b=some u->h'.get? b=some u)(heo:∃ u,h'.get? e=some u)(new:ObjOk P w (upd H x o') h' x o'):HOk P w (upd H x o') h':=fun b u q=>by
  have nown:∀ c y,H c=some (.own y)->c≠x:=fun c y r z=>by subst z;rw[r]at mu;exact mu
  have ntup:∀ c xs,H c=some (.tup xs)->c≠x:=fun c xs r z=>by subst z;rw[r]at mu;exact mu
  by_cases hb:b=x
  · subst hb;rw[upd_same]at q;cases q;exact new
  · rw[upd_ne hb]at q
    by_cases hbe:b=e
    · have q':H b=some (.own x):=by
        rcases he with z|z
        · exact absurd (hbe.trans z) hb
        · rw[hbe];exact z
      rw[q]at q';cases q'
      obtain⟨v,hv⟩:=heo;exact⟨v,by rw[hbe];exact hv⟩
    · refine(ok b u q).stay (fun c v hc r=>k c v ?_ r) (fun c r=>by rw[upd_ne (nown c b r)];exact r) fun c xs r=>by rw[upd_ne (ntup c xs r)];exact r
      rcases hc with rfl|hc
      · exact hbe
      · rintro rfl
        rcases he with z|z
        · exact nown c b hc z
        · rw[hc]at z;cases z;exact hb rfl
end

structure Un(fs ex:List Addr)(H H':Hp)(h h':Heap):Prop where
  keep:∀ b o,h.get? b=some o->H b=none->b∉fs->b∉ex->h'.get? b=some o
  slot:∀ b o,h.get? b=some o->H b=none->b∈fs->b∉ex->∃ sl,h'.get? b=some { o with slots:=sl }
  free:∀ b o,h.get? b=some o->H b=none->b∉ex->H' b=none
  there:∀ b o,h.get? b=some o->b∉ex->∃ o',h'.get? b=some o'
  tups:∀ b xs,H b=some (.tup xs)->H' b=some (.tup xs)
  frzs:∀ b o u,H b=some (.frz o u)->H' b=some (.frz o u)
  tbls:∀ b ps,H b=some (.tbl ps)->∃ more,H' b=some (.tbl (ps++more))
section
variable {fs fs' ex ex':Li Ad}{H H1 H2:Hp}{h h1 h2 h':Heap}{a x e:Ad}{o:HO}
theorem Un.any(u:Un fs ex H H1 h h1){b:Ad}{ob:Obj}(q:h.get? b=some ob)(n:H b=none)(hx:b∉ex):∃ sl,h1.get? b=some { ob with slots:=sl }:=by
  by_cases hb:b∈fs
  · exact u.slot b ob q n hb hx
  · exact⟨ob.slots,u.keep b ob q n hb hx⟩
theorem Un.kept(k:∀ b u,h.get? b=some u->h'.get? b=some u):Un fs ex H H h h':=
  ⟨fun b ob q _ _ _=>k b ob q,fun b ob q _ _ _=>⟨ob.slots,k b ob q⟩,fun _ _ _ n _=>n,fun b ob q _=>⟨ob,k b ob q⟩,fun _ _ q=>q,fun _ _ _ q=>q,fun _ ps q=>⟨#[],by rw[q];simp⟩⟩
theorem Un.refl:Un fs ex H H h h:=Un.kept fun _ _ q=>q
theorem Un.laid(k:∀ b u,h.get? b=some u->h'.get? b=some u)(hp:h.objs.size<=a)(hn:H a=none):Un fs ex H (upd H a o) h h' where
  keep:=fun b u q _ _ _=>k b u q
  slot:=fun b u q _ _ _=>⟨u.slots,k b u q⟩
  free:=fun b u q n _=>by rw[upd_ne (aX (aP (aG q) hp))];exact n
  there:=fun b u q _=>⟨u,k b u q⟩
  tups:=fun b xs q=>by rw[upd_ne (ne_of_none q hn)];exact q
  frzs:=fun b u xs q=>by rw[upd_ne (ne_of_none q hn)];exact q
  tbls:=fun b ps q=>⟨#[],by rw[upd_ne (ne_of_none q hn),q];simp⟩
theorem Un.write(mu:Mut (H x))(he:e=x\/H e=some (.own x))(k:∀ b u,b≠e->h.get? b=some u->h'.get? b=some u)(heo:∃ u,h'.get? e=some u):Un fs ex H (upd H x o) h h':=by
  have hx:∀ b,H b=none->b≠x:=fun b n z=>by subst z;rw[n]at mu;exact mu
  have hb:∀ b,H b=none->b≠e:=fun b n z=>by
    subst z;rcases he with r|r
    · exact hx b n r
    · rw[n]at r;cases r
  have hm:∀ b u,H b=some u->¬Mut (some u)->b≠x:=fun b u q nm z=>by subst z;rw[q]at mu;exact nm mu
  refine⟨fun b u q n _ _=>k b u (hb b n) q,fun b u q n _ _=>⟨u.slots,k b u (hb b n) q⟩,fun b u q n _=>by rw[upd_ne (hx b n)];exact n,fun b u q _=>?_,
    fun b xs q=>by rw[upd_ne (hm b _ q fun z=>z)];exact q,fun b u xs q=>by rw[upd_ne (hm b _ q fun z=>z)];exact q,fun b ps q=>⟨#[],by rw[upd_ne (hm b _ q fun z=>z),q];simp⟩⟩
  by_cases hbe:b=e
  · subst hbe;exact heo
  · exact⟨u,k b u hbe q⟩
end

noncomputable def trk(h:Heap)(H:Hp):Li Ad:=(List.range h.objs.size).filter fun a=>(H a).isSome
noncomputable def hidT(h:Heap)(H:Hp):Heap:=PySem.W.hideAll h (trk h H)
theorem hidT_size(h:Heap)(H:Hp):(hidT h H).objs.size=h.objs.size:=PySem.W.hideAll_size _ _
theorem hidT_get{b:Ad}{o:Obj}(e:h.get? b=some o)(n:H b=none):(hidT h H).get? b=some o:=
  PySem.W.hideAll_get _ e fun hm=>by
    have q:(H b).isSome=true:=(cW.mp hm).2;rw[n]at q;simp at q
theorem of_hidT{b:Ad}{o:Obj}(e:(hidT h H).get? b=some o):h.get? b=some o/\H b=none:=by
  have e':h.get? b=some o:=PySem.W.of_hideAll (trk h H) e;refine⟨e',?_⟩;cases q:H b with
  |none=>rfl
  |some x=>
    have hm:b∈trk h H:=cW.mpr ⟨bM.mpr (aG e'),by simp[q]⟩
    have z:(hidT h H).get? b=none:=PySem.W.hideAll_none (trk h H) hm;rw[z]at e;cases e

structure Mod(K:Fg)(mg:Str->Option Value)(base:Heap):Prop where
  kin:K.In base
  glob:base.Ns mainGlobals mg
  blt:∃ mb,base.Ns builtinsNs mb/\∀ x:Str,x ≠ "__name__"->mb x=bootBuiltins x
  nolimit:base.NoLimit

structure Cx where
  prog:Program
  w:World
  K:Fg
  mg:Str->Option Value
  base:Heap
  A:Around
  N:List Str
  s₀:Shared
  H₀:Hp
  env:Env
  outer:List Env
  stack:List Env
  ex:List Addr
  fn:Str->Bool
  calm:Bool
  pn:List (Addr×Obj)
  xe:Value->Shared->Prop
noncomputable def frs(l:Li Env):Li Ad:=l.filterMap (·.frame)
noncomputable abbrev Cx.fs(X:Cx):Li Ad:=frs X.outer

def Vis(sc:Scope)(x:Str):Prop:=sc.names.lookup x=some .local\/sc.names.lookup x=some .cell\/sc.names.lookup x=some .free
def Loc(sc:Scope)(x:Str):Prop:=sc.names.lookup x=some .local\/sc.names.lookup x=some .cell
def Look(env:Env)(h:Heap)(m:Str->Ot vL)(x:Str)(u:vL):Prop:=
  (env.kindOf x=some .local/\m x=some u)\/((env.kindOf x=some .cell\/env.kindOf x=some .free)/\∃ c,env.cells.lookup x=some c/\h.IsCell c (some u))

structure Cx.Ok(X:Cx):Prop where
  mod:Mod X.K X.mg X.base
  kind:X.env.scope.kind=.function
  glob:X.env.globals=mainGlobals
  blt:X.env.builtins=builtinsNs
  above:X.s₀.heap.objs.size<=X.env.locals
  inj:∀ x y c,X.env.cells.lookup x=some c->X.env.cells.lookup y=some c->x=y
  has:∀ x,(X.env.kindOf x=some .cell\/X.env.kindOf x=some .free)->∃ c,X.env.cells.lookup x=some c
  cab:∀ x c,X.fn x=true->X.env.cells.lookup x=some c->X.s₀.heap.objs.size<=c
  hd:X.calm=true->X.A.handled=none
  frames:X.A.frames=some X.stack
  stk:X.stack=X.outer\/(X.stack=X.env :: X.outer/\X.env.frame=some X.env.locals)
  exf:∀ b∈X.ex,b≠X.env.locals/\∀ x c,X.env.cells.lookup x=some c->c≠b
  bs:∀ b o,X.base.get? b=some o->X.s₀.heap.get? b=some o/\X.H₀ b=none
  bsz:X.base.objs.size<=X.s₀.heap.objs.size
  noex:∀ b o,X.base.get? b=some o->b∉X.ex
  exfs:∀ b∈X.ex,b∉X.fs
  funs:X.s₀.heap.FunFrames X.base X.outer
  frf:∀ b∈X.fs,X.H₀ b=none

structure Inv(X:Cx)(pQ:List (Addr×Obj))(σ:List (Option V))(H:Hp)(s:Shared):Prop where
  ok:X.Ok
  os:s.os=X.s₀.os
  bare:AllBare s.gens
  base:Un X.fs X.ex X.H₀ H X.s₀.heap s.heap
  loc:∃ m,s.heap.Ns X.env.locals m/\∀ (i:Nat) (x:Str) (v:V),X.N[i]?=some x->σ[i]?=some (some v)->Vis X.env.scope x->∃ u,RelV v u/\Look X.env s.heap m x u
  cell:∀ x c,X.env.cells.lookup x=some c->∃ v,s.heap.IsCell c v
  free:H X.env.locals=none
  freeC:∀ x c,X.env.cells.lookup x=some c->H c=none
  pin:∀ p∈X.pn++pQ,s.heap.get? p.1=some p.2/\H p.1=none/\p.1≠X.env.locals/\p.1∉X.fs/\∀ v,p.2.data≠.cell v
  hok:HOk X.prog X.w H s.heap
  len:σ.length=X.N.length

variable{g':Array GenState}{t' i:Nat}{d':Drawn}{N:Li Str}
section
variable {X:Cx}{pQ:Li (Ad×Obj)}{σ:Li (Ot V)}{H H':Hp}{s:Sd}{h':Heap}

theorem Cx.Ok.nofr(ok:X.Ok){b:Ad}{o:Obj}(e:X.base.get? b=some o):b∉X.fs:=fun hb=>by
  have:=(ok.funs.mem hb).1;rw[e]at this;cases this
theorem Inv.bs(I:Inv X pQ σ H s):∀ b o,X.base.get? b=some o->s.heap.get? b=some o/\H b=none:=fun b o e=>
  ⟨I.base.keep b o (I.ok.bs b o e).1 (I.ok.bs b o e).2 (I.ok.nofr e) (I.ok.noex b o e),I.base.free b o (I.ok.bs b o e).1 (I.ok.bs b o e).2 (I.ok.noex b o e)⟩
theorem Inv.bk(I:Inv X pQ σ H s):∀ b o,X.base.get? b=some o->s.heap.get? b=some o:=fun b o e=>(I.bs b o e).1
theorem Inv.mod(I:Inv X pQ σ H s):Mod X.K X.mg X.base:=I.ok.mod
theorem Inv.kIn(I:Inv X pQ σ H s):X.K.In s.heap:=I.ok.mod.kin.keeps I.bk
theorem Inv.lt(I:Inv X pQ σ H s):X.env.locals < s.heap.objs.size:=let ⟨_,hn,_⟩:=I.loc;hn.lt
theorem Inv.sz(I:Inv X pQ σ H s):X.s₀.heap.objs.size<=s.heap.objs.size:=aF I.ok.above (Nat.le_of_lt I.lt)
theorem Inv.nofs(I:Inv X pQ σ H s){a:Ad}(h:s.heap.objs.size<=a):a∉X.fs:=fun hb=>by
  obtain⟨_,o,ho,_⟩:=I.ok.funs.mem hb;exact absurd (aP (aG ho) (aF I.sz h)) (bW _)
theorem Inv.cne(I:Inv X pQ σ H s):∀ x c,X.env.cells.lookup x=some c->c≠X.env.locals:=fun x c e z=>by
  obtain⟨v,o,ho,hd⟩:=I.cell x c e;obtain⟨m,⟨o',es,ep,ho',hd',_⟩,_⟩:=I.loc;rw[z,ho']at ho;cases ho;rw[hd']at hd;cases hd
theorem Inv.funs(I:Inv X pQ σ H s):s.heap.FunFrames X.base X.outer:=by
  have all:∀ (l:Li Env),(∀ b∈frs l,b∈X.fs)->X.s₀.heap.FunFrames X.base l->s.heap.FunFrames X.base l:=by
    intro l
    induction l with
    |nil=>intro _ _;trivial
    |cons env r ih=>
      intro hs hl;obtain⟨hk,⟨L,o,hf,hn,ho,hd⟩,hr⟩:=hl;have hL:L∈X.fs:=hs L (by unfold frs;rw[dL,hf];exact Ls)
      obtain⟨sl,e⟩:=I.base.slot L o ho (I.ok.frf L hL) hL fun z=>I.ok.exfs L z hL
      exact⟨hk,⟨L,_,hf,hn,e,hd⟩,ih (fun b hb=>hs b (by unfold frs;rw[dL,hf];exact Lm _ hb)) hr⟩
  exact all X.outer (fun _ hb=>hb) I.ok.funs

theorem Inv.stack(I:Inv X pQ σ H s):s.heap.FunFrames X.base X.stack:=by
  rcases I.ok.stk with e|⟨e,hf⟩
  · rw[e];exact I.funs
  · rw[e]
    obtain⟨m,hn,_⟩:=I.loc;refine .cons (by rw[I.ok.kind];decide) hf hn ?_ I.funs
    exact Heap.get?_none_of_le (aF I.ok.bsz I.ok.above)
theorem Inv.stkSub(I:Inv X pQ σ H s):∀ b∈frs X.stack,b∈X.env.locals :: X.fs:=fun b hb=>by
  rcases I.ok.stk with e|⟨e,hf⟩
  · rw[e]at hb;exact Lm _ hb
  · rw[e]at hb
    unfold frs at hb;rw[dL,hf]at hb;exact hb
theorem Inv.stkFree(I:Inv X pQ σ H s):∀ b∈frs X.stack,H b=none:=fun b hb=>by
  rcases aJ.mp (I.stkSub b hb) with e|hb
  · rw[e];exact I.free
  · obtain⟨_,o,ho,_⟩:=I.ok.funs.mem hb
    exact I.base.free b o ho (I.ok.frf b hb) fun z=>I.ok.exfs b z hb

theorem Inv.step{ch:Li Ad}(I:Inv X pQ σ H s)(hch:∀ b∈ch,(b∈X.ex\/X.s₀.heap.objs.size<=b)/\b≠X.env.locals/\(∀ x c,X.env.cells.lookup x=some c->c≠b)/\∀ p∈X.pn++pQ,p.1≠b)(keep:∀ b o,b≠X.env.locals->b∉X.fs->b∉ch->s.heap.get? b=some o->H b=none->h'.get? b=some o)(slot:∀ b o,b≠X.env.locals->b∈X.fs->b∉ch->s.heap.get? b=some o->H b=none->∃ sl,h'.get? b=some { o with slots:=sl })(free:∀ b o,b∉ch->s.heap.get? b=some o->H b=none->H' b=none)(there:∀ b o,b∉ch->s.heap.get? b=some o->∃ o',h'.get? b=some o')(tups:∀ b xs,H b=some (.tup xs)->H' b=some (.tup xs))(frzs:∀ b o u,H b=some (.frz o u)->H' b=some (.frz o u))(tbls:∀ b ps,H b=some (.tbl ps)->∃ more,H' b=some (.tbl (ps++more)))(ns:∀ m,s.heap.Ns X.env.locals m->h'.Ns X.env.locals m)(hok:HOk X.prog X.w H' h')(hg:AllBare g') :
    Inv X pQ σ H' { s with heap:=h',gens:=g',drawn:=d',toks:=t' }:=by
  have neL:∀ b o,X.s₀.heap.get? b=some o->b≠X.env.locals:=fun b o e=>aX (aP (aG e) I.ok.above)
  have neC:∀ b o,X.s₀.heap.get? b=some o->b∉X.ex->b∉ch:=fun b o e hx hb=>by
    rcases (hch b hb).1 with z|z
    · exact hx z
    · exact absurd (aP (aG e) z) (bW _)
  have cellK:∀ x c,X.env.cells.lookup x=some c->∀ v,s.heap.IsCell c v->h'.IsCell c v:=fun x c e v ⟨o,ho,hd⟩=>by
    have nch:c∉ch:=fun z=>(hch c z).2.2.1 x c e rfl
    by_cases hc:c∈X.fs
    · obtain⟨sl,q⟩:=slot c o (I.cne x c e) hc nch ho (I.freeC x c e)
      exact⟨_,q,hd⟩
    · exact⟨o,keep c o (I.cne x c e) hc nch ho (I.freeC x c e),hd⟩
  refine⟨I.ok,I.os,hg,⟨fun b o e n hb hx=>?_,fun b o e n hb hx=>?_,fun b o e n hx=>?_,fun b o e hx=>?_,fun b xs e=>tups b xs (I.base.tups b xs e),fun b o xs e=>frzs b o xs (I.base.frzs b o xs e),fun b ps e=>?_⟩,?_,fun x c e=>?_,?_,fun x c e=>?_,fun p hp=>?_,hok,I.len⟩
  · exact keep b o (neL b o e) hb (neC b o e hx) (I.base.keep b o e n hb hx) (I.base.free b o e n hx)
  · obtain⟨sl,e1⟩:=I.base.slot b o e n hb hx
    obtain⟨sl',e2⟩:=slot b _ (neL b o e) hb (neC b o e hx) e1 (I.base.free b o e n hx);exact⟨sl',e2⟩
  · obtain⟨o',e1⟩:=I.base.there b o e hx
    exact free b o' (neC b o e hx) e1 (I.base.free b o e n hx)
  · obtain⟨o',e1⟩:=I.base.there b o e hx
    exact there b o' (neC b o e hx) e1
  · obtain⟨m1,e1⟩:=I.base.tbls b ps e
    obtain⟨m2,e2⟩:=tbls b _ e1;exact⟨m1++m2,by rw[e2,Array.append_assoc]⟩
  · obtain⟨m,hn,hl⟩:=I.loc
    refine⟨m,ns m hn,fun i x v e1 e2 e3=>?_⟩
    obtain⟨u,r,l⟩:=hl i x v e1 e2 e3;refine⟨u,r,?_⟩;rcases l with l|⟨k,c,e,z⟩
    · exact .inl l
    · exact .inr ⟨k,c,e,cellK x c e _ z⟩
  · obtain⟨v,z⟩:=I.cell x c e
    exact⟨v,cellK x c e v z⟩
  · obtain⟨m,⟨o,_,_,ho,_⟩,_⟩:=I.loc
    exact free _ o (fun z=>(hch _ z).2.1 rfl) ho I.free
  · obtain⟨v,o,ho,hd⟩:=I.cell x c e
    exact free c o (fun z=>(hch c z).2.2.1 x c e rfl) ho (I.freeC x c e)
  · obtain⟨e,n,ne,nf,d⟩:=I.pin p hp
    have nch:p.1∉ch:=fun z=>(hch p.1 z).2.2.2 p hp rfl
    exact⟨keep p.1 p.2 ne nf nch e n,free p.1 p.2 nch e n,ne,nf,d⟩
theorem Inv.un(I:Inv X pQ σ H s)(u:Un X.fs [] H H' s.heap h')(hok:HOk X.prog X.w H' h'):Inv X pQ σ H' { s with heap:=h',toks:=t' }:=by
  obtain⟨m,⟨o,es,ep,ho,r⟩,_⟩:=id I.loc;obtain⟨sl,hL⟩:=u.any ho I.free (by simp)
  exact I.step (g':=s.gens) (d':=s.drawn) (ch:=[]) (fun _ z=>nomatch z) (fun b o _ hb _ e n=>u.keep b o e n hb (by simp)) (fun b o _ hb _ e n=>u.slot b o e n hb (by simp)) (fun b o _ e n=>u.free b o e n (by simp)) (fun b o _ e=>u.there b o e (by simp)) u.tups u.frzs u.tbls (fun m' hm=>by
    obtain⟨o',es',ep',ho',r'⟩:=hm;rw[ho]at ho';cases ho'
    exact⟨_,es',ep',hL,r'⟩) hok I.bare
theorem Inv.call{ch:Li Ad}(I:Inv X pQ σ H s)(u:Un (frs X.stack) ch H H' s.heap h')(hok:HOk X.prog X.w H' h')(hg:AllBare g')(hch:∀ b∈ch,(b∈X.ex\/X.s₀.heap.objs.size<=b)/\b≠X.env.locals/\(∀ x c,X.env.cells.lookup x=some c->c≠b)/\∀ p∈X.pn++pQ,p.1≠b) :
    Inv X pQ σ H' { s with heap:=h',gens:=g',drawn:=d',toks:=t' }:=by
  obtain⟨m,⟨o,es,ep,ho,r⟩,_⟩:=id I.loc;obtain⟨sl,hL⟩:=u.any ho I.free fun z=>(hch _ z).2.1 rfl
  exact I.step (ch:=ch) hch (fun b o hL hb hc e n=>u.keep b o e n (fun z=>(aJ.mp (I.stkSub b z)).elim hL hb) hc) (fun b o _ _ hc e n=>u.any e n hc) (fun b o hc e n=>u.free b o e n hc) (fun b o hc e=>u.there b o e hc) u.tups u.frzs u.tbls (fun m' hm=>by
    obtain⟨o',es',ep',ho',r'⟩:=hm;rw[ho]at ho';cases ho'
    exact⟨_,es',ep',hL,r'⟩) hok hg
theorem Inv.turned{it:Ad}(I:Inv X pQ σ H s)(k:∀ b o,b≠it->s.heap.get? b=some o->h'.get? b=some o)(hn:H it=none)(hL:it≠X.env.locals)(h1:it∈X.ex\/X.s₀.heap.objs.size<=it)(h2:∀ x c,X.env.cells.lookup x=some c->c≠it)(h3:∀ p∈X.pn++pQ,p.1≠it):Inv X pQ σ H { s with heap:=h',toks:=t' }:=by
  have nit:∀ b u,H b=some u->b≠it:=fun b u e z=>by rw[z,hn]at e;cases e
  refine I.step (g':=s.gens) (d':=s.drawn) (ch:=[it]) (fun b hb=>?_) (fun b o _ _ hc e _=>k b o (fun z=>hc (by simp[z])) e) (fun b o _ _ hc e _=>⟨o.slots,k b o (fun z=>hc (by simp[z])) e⟩) (fun _ _ _ _ n=>n)
    (fun b o hc e=>⟨o,k b o (fun z=>hc (by simp[z])) e⟩) (fun _ _ e=>e) (fun _ _ _ e=>e) (fun b ps e=>⟨#[],by rw[e];simp⟩) (fun m hm=>?_) (fun b u e=>?_) I.bare
  · have e:b=it:=by simpa using hb
    subst e;exact⟨h1,hL,h2,h3⟩
  · obtain⟨o,es,ep,ho,r⟩:=hm
    exact⟨o,es,ep,k _ o (Ne.symm hL) ho,r⟩
  · refine(I.hok b u e).stay (fun c v hc q=>k c v ?_ q) (fun _ q=>q) fun _ _ q=>q
    rcases hc with z|z
    · rw[z];exact nit b u e
    · exact nit c _ z
theorem Inv.tok(I:Inv X pQ σ H s)(t:Nat):Inv X pQ σ H { s with toks:=t }:=I.un (h':=s.heap) (t':=t) Un.refl I.hok
theorem Inv.kept{t':Nat}(I:Inv X pQ σ H s)(k:∀ b u,s.heap.get? b=some u->h'.get? b=some u):Inv X pQ σ H { s with heap:=h',toks:=t' }:=I.un (Un.kept k) (I.hok.kept k)
theorem Inv.laid{a:Ad}{o:HO}{t':Nat}(I:Inv X pQ σ H s)(k:∀ b u,s.heap.get? b=some u->h'.get? b=some u)(hp:s.heap.objs.size<=a)(new:ObjOk X.prog X.w (upd H a o) h' a o) :
    Inv X pQ σ (upd H a o) { s with heap:=h',toks:=t' }:=I.un (Un.laid k hp (I.hok.fresh hp)) (I.hok.laid k hp new)
theorem Inv.write{x e:Ad}{o:HO}{t':Nat}(I:Inv X pQ σ H s)(mu:Mut (H x))(he:e=x\/H e=some (.own x))(k:∀ b u,b≠e->s.heap.get? b=some u->h'.get? b=some u)(heo:∃ u,h'.get? e=some u)(new:ObjOk X.prog X.w (upd H x o) h' x o):Inv X pQ σ (upd H x o) { s with heap:=h',toks:=t' }:=I.un (Un.write mu he k heo) (I.hok.write mu he k heo new)
theorem Inv.pins_of{pins':Li (Ad×Obj)}(I:Inv X pQ σ H s)(h:∀ p∈pins',s.heap.get? p.1=some p.2/\H p.1=none/\p.1≠X.env.locals/\p.1∉X.fs/\∀ v,p.2.data≠.cell v):Inv X pins' σ H s:=
  ⟨I.ok,I.os,I.bare,I.base,I.loc,I.cell,I.free,I.freeC,fun p hp=>(aR.mp hp).elim (fun z=>I.pin p (List.mem_append_left _ z)) (h p),I.hok,I.len⟩

theorem nodup_ix(hN:N.Nodup){j:Nat}{x:Str}(a:N[i]?=some x)(b:N[j]?=some x):i=j:=by
  obtain⟨h1,e1⟩:=bI.mp a;obtain⟨h2,e2⟩:=bI.mp b;exact(List.getElem_inj hN).mp (e1.trans e2.symm)

theorem store_ok2{M:Model}{A:Around}{E:vL->Sd->Prop}{x:Str}{v:V}{u:vL}{Q:Unit->Sd->Prop}(I:Inv X pQ σ H s)(hN:X.N.Nodup)(hi:X.N[i]?=some x)(hx:Loc X.env.scope x)(r:RelV v u)(h:∀ s',Inv X pQ (σ.set i (some v)) H s'->(∃ a,Heap.SameBut a s.heap s'.heap/\(a=X.env.locals\/X.env.cells.lookup x=some a))->Q () s')(hf:X.fn x=true\/X.env.scope.names.lookup x=some .local:=by first|exact .inl rfl|exact .inr rfl|assumption):wpAny M A (storeName X.env x u) Q E s:=by
  obtain⟨m,hn,hl⟩:=id I.loc;have hcls:(X.env.scope.kind==.class||(X.env.scope.kind==.module&&X.env.locals != X.env.globals))=false:=by rw[I.ok.kind];rfl
  have hiσ:i < σ.length:=by rw[I.len];exact(bI.mp hi).1
  have cne:=I.cne;have tracked:∀ {a:Ad}{h':Heap},(∃ o,s.heap.get? a=some o/\H a=none)->Heap.SameBut a s.heap h'->HOk X.prog X.w H h':=fun {a h'} ha hs b ob e=>by
    obtain⟨_,_,hfree⟩:=ha;refine(I.hok b ob e).stay (fun c w' hc q=>(hs.2 c ?_).trans q) (fun _ q=>q) fun _ _ q=>q
    rintro rfl
    rcases hc with rfl|hc
    · rw[hfree]at e;cases e
    · rw[hfree]at hc;cases hc
  rcases hx with hk|hk
  · refine wpAny_storeName_local hk hn (fun h' hn' hs=>?_) hcls
    obtain⟨oL,_,_,hoL,_⟩:=id hn;refine h _ ⟨I.ok,I.os,I.bare,⟨fun b o e n hb hx=>?_,fun b o e n hb hx=>?_,I.base.free,fun b o e hx=>?_,I.base.tups,I.base.frzs,I.base.tbls⟩,⟨_,hn',fun j y v' e1 e2 e3=>?_⟩,fun y c e=>?_,I.free,I.freeC,fun p hp=>?_,tracked ⟨oL,hoL,I.free⟩ hs,by simpa using I.len⟩ ⟨_,hs,.inl rfl⟩
    · exact(hs.2 b (aX (aP (aG e) I.ok.above))).trans (I.base.keep b o e n hb hx)
    · obtain⟨sl,e1⟩:=I.base.slot b o e n hb hx
      exact⟨sl,(hs.2 b (aX (aP (aG e) I.ok.above))).trans e1⟩
    · obtain⟨o',e1⟩:=I.base.there b o e hx
      exact⟨o',(hs.2 b (aX (aP (aG e) I.ok.above))).trans e1⟩
    · by_cases hj:j=i
      · subst hj
        rw[hi]at e1;cases e1
        rw[cX hiσ]at e2;cases e2;exact⟨u,r,.inl ⟨hk,by simp⟩⟩
      · rw[cN (Ne.symm hj)]at e2
        obtain⟨u',r',q⟩:=hl j y v' e1 e2 e3;refine⟨u',r',?_⟩;rcases q with⟨k,e⟩|⟨k,c,e,z⟩
        · refine .inl ⟨k,?_⟩
          have:y≠x:=fun e=>hj (nodup_ix hN e1 (e ▸ hi))
          simp[this,e]
        · exact .inr ⟨k,c,e,z.sameBut hs (cne y c e)⟩
    · obtain⟨w',z⟩:=I.cell y c e
      exact⟨w',z.sameBut hs (cne y c e)⟩
    · obtain⟨e,n,ne,nf,d⟩:=I.pin p hp
      exact⟨(hs.2 p.1 ne).trans e,n,ne,nf,d⟩
  · have hfn:X.fn x=true:=by
      rcases hf with z|z
      · exact z
      · rw[z]at hk;cases hk
    obtain⟨c,hc⟩:=I.ok.has x (.inl hk);obtain⟨w',z⟩:=I.cell x c hc;refine wpAny_storeName_cell I.ok.kind hk hc z (fun h' hc' hs=>?_)
    obtain⟨oc,hoc,hocd⟩:=id z;refine h { s with heap:=h' } ⟨I.ok,I.os,I.bare,⟨fun b o e n hb hx=>?_,fun b o e n hb hx=>?_,I.base.free,fun b o e hx=>?_,I.base.tups,I.base.frzs,I.base.tbls⟩,⟨m,hn.sameBut hs (Ne.symm (cne x c hc)),fun j y v' e1 e2 e3=>?_⟩,fun y c' e=>?_,I.free,I.freeC,fun p hp=>?_,tracked ⟨oc,hoc,I.freeC x c hc⟩ hs,by simpa using I.len⟩ ⟨c,hs,.inr hc⟩
    · exact(hs.2 b (aX (aP (aG e) (I.ok.cab x c hfn hc)))).trans (I.base.keep b o e n hb hx)
    · obtain⟨sl,e1⟩:=I.base.slot b o e n hb hx
      exact⟨sl,(hs.2 b (aX (aP (aG e) (I.ok.cab x c hfn hc)))).trans e1⟩
    · obtain⟨o',e1⟩:=I.base.there b o e hx
      exact⟨o',(hs.2 b (aX (aP (aG e) (I.ok.cab x c hfn hc)))).trans e1⟩
    · by_cases hj:j=i
      · subst hj
        rw[hi]at e1;cases e1
        rw[cX hiσ]at e2;cases e2;exact⟨u,r,.inr ⟨.inl hk,c,hc,hc'⟩⟩
      · rw[cN (Ne.symm hj)]at e2
        obtain⟨u',r',q⟩:=hl j y v' e1 e2 e3;refine⟨u',r',?_⟩;rcases q with q|⟨k,c',e,z'⟩
        · exact .inl q
        · refine .inr ⟨k,c',e,z'.sameBut hs ?_⟩
          rintro rfl
          exact hj (nodup_ix hN e1 (I.ok.inj _ _ _ e hc ▸ hi))
    · by_cases hcc:c'=c
      · subst hcc;exact⟨_,hc'⟩
      · obtain⟨w2,z2⟩:=I.cell y c' e
        exact⟨w2,z2.sameBut hs hcc⟩
    · obtain⟨e,n,ne,nf,d⟩:=I.pin p hp
      refine⟨(hs.2 p.1 ?_).trans e,n,ne,nf,d⟩;intro q;rw[q,hoc]at e;have q':oc=p.2:=Option.some.inj e;exact d w' (by rw[<-q'];exact hocd)
theorem store_ok{M:Model}{A:Around}{E:vL->Sd->Prop}{x:Str}{v:V}{u:vL}{Q:Unit->Sd->Prop}(I:Inv X pQ σ H s)(hN:X.N.Nodup)(hi:X.N[i]?=some x)(hx:Loc X.env.scope x)(r:RelV v u)(h:∀ s',Inv X pQ (σ.set i (some v)) H s'->Q () s')(hf:X.fn x=true\/X.env.scope.names.lookup x=some .local:=by first|exact .inl rfl|exact .inr rfl|assumption):wpAny M A (storeName X.env x u) Q E s:=
  store_ok2 I hN hi hx r (fun s' I' _=>h s' I') hf
theorem Inv.call'{s':Sd}{ch:Li Ad}(I:Inv X pQ σ H s)(ho:s'.os=s.os)(u:Un (frs X.stack) ch H H' s.heap s'.heap)(hok:HOk X.prog X.w H' s'.heap)(hg:AllBare s'.gens)(hch:∀ b∈ch,(b∈X.ex\/X.s₀.heap.objs.size<=b)/\b≠X.env.locals/\(∀ x c,X.env.cells.lookup x=some c->c≠b)/\∀ p∈X.pn++pQ,p.1≠b):Inv X pQ σ H' s':=by
  obtain⟨h',g',d',t',o'⟩:=s';have e:o'=s.os:=ho;subst e;exact I.call (g':=g') (t':=t') (d':=d') u hok hg hch
end

abbrev XK:=vL->Ot Ad->Hp->Prop
noncomputable abbrev St:=Li (Ot V)
abbrev VK:=V->Hp->Prop
abbrev TE:=St->Hp->VK->Prop
abbrev TT:=St->Hp->(Bool->Hp->Prop)->Prop
abbrev TA:=St->Hp->(Li V->Hp->Prop)->Prop
structure Ends where
  nx:St->Hp->Prop
  rt:VK
  bk:St->Hp->Prop:=fun _ _=>False
  ct:St->Hp->Prop:=fun _ _=>False
abbrev TS:=Ends->St->Hp->Prop

def EP(X:Cx)(pQ:Li (Ad×Obj))(σ:St)(Q:VK)(u:vL)(s':Sd):Prop:=∃ v H',Inv X pQ σ H' s'/\RelV v u/\Q v H'
def TP(X:Cx)(pQ:Li (Ad×Obj))(σ:St)(Q:Bool->Hp->Prop)(b:Bool)(s':Sd):Prop:=∃ H',Inv X pQ σ H' s'/\Q b H'
def AP(X:Cx)(pQ:Li (Ad×Obj))(σ:St)(Q:Li V->Hp->Prop)(us:Li vL)(s':Sd):Prop:=∃ vs H',Inv X pQ σ H' s'/\Vals vs us/\Q vs H'
def SP(X:Cx)(pQ:Li (Ad×Obj))(D:Ends)(f:Flow)(s':Sd):Prop:=
  match f with
  |.next=>∃ σ' H',Inv X pQ σ' H' s'/\D.nx σ' H'
  |.brk=>∃ σ' H',Inv X pQ σ' H' s'/\D.bk σ' H'
  |.cont=>∃ σ' H',Inv X pQ σ' H' s'/\D.ct σ' H'
  |.ret u=>∃ v σ' H',Inv X pQ σ' H' s'/\RelV v u/\D.rt v H'

def PE(X:Cx)(e:Expr)(t:TE):Prop:=
  ∀ (pQ:Li (Ad×Obj)) (s:Sd) (σ:St) (H:Hp) (Q:VK),Inv X pQ σ H s->t σ H Q->wpAny (model X.prog X.w) X.A (eval e X.env) (EP X pQ σ Q) X.xe s
def PT(X:Cx)(e:Expr)(t:TT):Prop:=
  ∀ (pQ:Li (Ad×Obj)) (s:Sd) (σ:St) (H:Hp) (Q:Bool->Hp->Prop),Inv X pQ σ H s->t σ H Q->wpAny (model X.prog X.w) X.A (isTrue e X.env (eval e X.env)) (TP X pQ σ Q) X.xe s
def PW(X:Cx)(e:Expr)(t:TT):Prop:=
  ∀ (whole:Sem vL) (pQ:Li (Ad×Obj)) (s:Sd) (σ:St) (H:Hp) (Q:Bool->Hp->Prop),Inv X pQ σ H s->t σ H Q->wpAny (model X.prog X.w) X.A (isTrue e X.env whole) (TP X pQ σ Q) X.xe s
variable{X:Cx}
theorem PW.pt{e:Expr}{t:TT}(h:PW X e t):PT X e t:=h _
def PA(X:Cx)(es:Li Expr)(t:TA):Prop:=
  ∀ (pos:Pos) (pQ:Li (Ad×Obj)) (s:Sd) (σ:St) (H:Hp) (Q:Li V->Hp->Prop),Inv X pQ σ H s->t σ H Q->wpAny (model X.prog X.w) X.A (spliced (backTo pos (starEach es X.env))) (AP X pQ σ Q) X.xe s
def PS(X:Cx)(st:Stmt)(t:TS):Prop:=
  ∀ (pQ:Li (Ad×Obj)) (s:Sd) (σ:St) (H:Hp) (D:Ends),Inv X pQ σ H s->t D σ H->wpAny (model X.prog X.w) X.A (exec st X.env) (SP X pQ D) X.xe s
def PSs(X:Cx)(st:Li Stmt)(t:TS):Prop:=
  ∀ (pQ:Li (Ad×Obj)) (s:Sd) (σ:St) (H:Hp) (D:Ends),Inv X pQ σ H s->t D σ H->wpAny (model X.prog X.w) X.A (execs st X.env) (SP X pQ D) X.xe s
variable{M:Model}{A:Around}
theorem thn{α:Type}{t:Sem α}{Q Q':α->Sd->Prop}{E:vL->Sd->Prop}{s:Sd}(h:wpAny M A t Q E s)(hQ:∀ a s,Q a s->Q' a s):wpAny M A t Q' E s:=bC h hQ fun _ _ x=>x
variable{pQ:Li (Ad×Obj)}{s:Sd}{Q:vL->Sd->Prop}
section
variable {X:Cx}


noncomputable def tVar(i:Nat):TE:=fun σ H Q=>∃ v,σ[i]?=some (some v)/\Q v H
noncomputable def tC(v:V):TE:=fun _ H Q=>Q v H
theorem pe_var{x:Str}{pos:Pos}(hN:X.N[i]?=some x)(hv:Vis X.env.scope x)(hd:(x==("__debug__":Str))=false:=by decide)(hcd:(x==("__classdict__":Str))=false:=by decide):PE X (.Name x pos) (tVar i):=by
  intro pQ s σ H Q I h;obtain⟨v,e,h⟩:=h;obtain⟨m,hn,hl⟩:=I.loc;obtain⟨u,r,l⟩:=hl i x v hN e hv;have fin:EP X pQ σ Q u s:=⟨v,H,I,r,h⟩;rcases l with⟨hk,hm⟩|⟨hk,c,hc,hcell⟩
  · exact wpAny_Name (wpAny_loadName_local I.ok.kind hk hn hm fin) hd
  · rcases hk with hk|hk
    · exact wpAny_Name (wpAny_loadName_cell I.ok.kind hk hc hcell fin) hd
    · exact wpAny_Name (wpAny_loadName_free I.ok.kind hk hc hcell fin hcd) hd
theorem pe_int{i j pos}:PE X (.Constant (.int i) j pos) (tC (.int i)):=fun _ _ _ H _ I h=>wpAny_Constant_int ⟨.int i,H,I.tok _,⟨_,rfl⟩,h⟩
theorem pe_bl{b j pos}:PE X (.Constant (.bool b) j pos) (tC (.bl b)):=fun _ _ _ H _ I h=>Constant_bool ⟨.bl b,H,I,rfl,h⟩
theorem pe_non{j pos}:PE X (.Constant .none j pos) (tC .non):=fun _ _ _ H _ I h=>Constant_none ⟨.non,H,I,rfl,h⟩
theorem pe_str{x j pos}:PE X (.Constant (.str x) j pos) (tC (.str x)):=fun _ _ _ H _ I h=>Calls.Constant_str ⟨.str x,H,I.tok _,⟨_,rfl⟩,h⟩

def Gl(X:Cx)(x:Str):Prop:=X.env.kindOf x=some .globalImplicit
theorem ld_glob{E:vL->Sd->Prop}{σ:St}{x:Str}{u:vL}{pos:Pos}(I:Inv X pQ σ H s)(hg:Gl X x)(hm:X.mg x=some u)(h:Q u s)(hd:(x==("__debug__":Str))=false:=by decide):wpAny (model X.prog X.w) X.A (eval (.Name x pos) X.env) Q E s:=
  Calls.Name_function_global I.ok.kind hg (Calls.loadGlobal_global (by rw[I.ok.glob];exact I.mod.glob.keeps I.bk) hm h) hd
theorem ld_blt{E:vL->Sd->Prop}{σ:St}{x:Str}{u:vL}{pos:Pos}(I:Inv X pQ σ H s)(hg:Gl X x)(hm:X.mg x=none)(hv:bootBuiltins x=some u)(h:Q u s)(hn:x ≠ "__name__":=by decide)(hd:(x==("__debug__":Str))=false:=by decide):wpAny (model X.prog X.w) X.A (eval (.Name x pos) X.env) Q E s:=by
  obtain⟨mb,h1,h2⟩:=I.mod.blt;exact Calls.Name_function_global I.ok.kind hg (Calls.loadGlobal_builtin (by rw[I.ok.glob];exact I.mod.glob.keeps I.bk) hm (by rw[I.ok.blt];exact h1.keeps I.bk) ((h2 x hn).trans hv) h) hd
theorem pe_glob{x:Str}{v:V}{u:vL}{pos:Pos}(hg:Gl X x)(hm:X.mg x=some u)(r:RelV v u)(hd:(x==("__debug__":Str))=false:=by decide):PE X (.Name x pos) (tC v):=
  fun _ _ _ H _ I h=>ld_glob I hg hm ⟨v,H,I,r,h⟩ hd
theorem pe_bltn{x:Str}{v:V}{u:vL}{pos:Pos}(hg:Gl X x)(hm:X.mg x=none)(hv:bootBuiltins x=some u)(r:RelV v u)(hn:x ≠ "__name__":=by decide)(hd:(x==("__debug__":Str))=false:=by decide):PE X (.Name x pos) (tC v):=
  fun _ _ _ H _ I h=>ld_blt I hg hm hv ⟨v,H,I,r,h⟩ hn hd

variable {a b:Expr}{ta tb:TE}{pos:Pos}

noncomputable def tB(t:TE):TT:=fun σ H Q=>t σ H fun x H1=>∃ c,x=.bl c/\Q c H1
theorem pt_val{e:Expr}{t:TE}(h:PE X e t)(he:∀ whole,isTrue e X.env whole=(do let v <-whole;standAt e.pos;holding [v] (truthy v)):=by intro _;rfl):PT X e (tB t):=by
  intro pQ s σ H Q I hw;refine isTrue_plain (thn (h pQ s σ H _ I hw) fun v s1 ⟨x,H1,I1,r1,q1⟩=>?_) (he _)
  obtain⟨d,rfl,q⟩:=q1;cases r1;exact wpAny_truthy_bool ⟨H1,I1,q⟩

variable {tA tB':TT}{rest:Li Expr}
noncomputable def tAnd(t u:TT):TT:=fun σ H Q=>t σ H fun c H1=>if c=true then u σ H1 Q else Q false H1
noncomputable def tOr(t u:TT):TT:=fun σ H Q=>t σ H fun c H1=>if c=true then Q true H1 else u σ H1 Q
noncomputable def tNot(t:TT):TT:=fun σ H Q=>t σ H fun c H1=>Q (!c) H1
theorem pw_and1(ha:PT X a tA):PW X (.BoolOp .And [a] pos) tA:=by
  intro wh pQ s σ H Q I h;refine isTrue_and (thn (ha pQ s σ H Q I h) fun c s1 e=>?_)
  cases c with
  |true=>exact isTrue_and_nil e
  |false=>exact e
theorem pw_or1(ha:PT X a tA):PW X (.BoolOp .Or [a] pos) tA:=by
  intro wh pQ s σ H Q I h;refine isTrue_or (thn (ha pQ s σ H Q I h) fun c s1 e=>?_)
  cases c with
  |false=>exact isTrue_or_nil e
  |true=>exact e
theorem pw_and(ha:PT X a tA)(hb:PW X (.BoolOp .And (b :: rest) pos) tB'):PW X (.BoolOp .And (a :: b :: rest) pos) (tAnd tA tB'):=by
  intro wh pQ s σ H Q I h;refine isTrue_and (thn (ha pQ s σ H _ I h) fun c s1 ⟨H1,I1,q1⟩=>?_)
  cases c with
  |true=>exact hb wh pQ s1 σ H1 Q I1 q1
  |false=>exact⟨H1,I1,q1⟩
theorem pw_or(ha:PT X a tA)(hb:PW X (.BoolOp .Or (b :: rest) pos) tB'):PW X (.BoolOp .Or (a :: b :: rest) pos) (tOr tA tB'):=by
  intro wh pQ s σ H Q I h;refine isTrue_or (thn (ha pQ s σ H _ I h) fun c s1 ⟨H1,I1,q1⟩=>?_)
  cases c with
  |true=>exact⟨H1,I1,q1⟩
  |false=>exact hb wh pQ s1 σ H1 Q I1 q1
theorem pt_not(ha:PT X a tA):PT X (.UnaryOp .Not a pos) (tNot tA):=by
  intro pQ s σ H Q I h;exact isTrue_not (ha pQ s σ H (fun c H1=>Q (!c) H1) I h)
noncomputable def tAndV(ta tb:TE):TE:=fun σ H Q=>ta σ H fun x H1=>∃ c,x=.bl c/\if c=true then tb σ H1 Q else Q (.bl false) H1
noncomputable def tOrV(ta tb:TE):TE:=fun σ H Q=>ta σ H fun x H1=>∃ c,x=.bl c/\if c=true then Q (.bl true) H1 else tb σ H1 Q
noncomputable def tNotV(ta:TE):TE:=fun σ H Q=>ta σ H fun x H1=>∃ c,x=.bl c/\Q (.bl (!c)) H1
theorem pe_one{op}{t:TE}(h:PE X a t):PE X (.BoolOp op [a] pos) t:=fun pQ s σ H Q I hw=>BoolOp_one (h pQ s σ H Q I hw)
theorem pe_and(ha:PE X a ta)(hb:PE X (.BoolOp .And (b :: rest) pos) tb):PE X (.BoolOp .And (a :: b :: rest) pos) (tAndV ta tb):=by
  intro pQ s σ H Q I h;refine BoolOp_and (thn (ha pQ s σ H _ I h) fun v s1 ⟨x,H1,I1,r1,q1⟩=>?_)
  obtain⟨c,rfl,q1⟩:=q1;cases r1;refine wpAny_truthy_bool ?_;cases c with
  |true=>exact hb pQ s1 σ H1 Q I1 q1
  |false=>exact⟨.bl false,H1,I1,rfl,q1⟩
theorem pe_or(ha:PE X a ta)(hb:PE X (.BoolOp .Or (b :: rest) pos) tb):PE X (.BoolOp .Or (a :: b :: rest) pos) (tOrV ta tb):=by
  intro pQ s σ H Q I h;refine BoolOp_or (thn (ha pQ s σ H _ I h) fun v s1 ⟨x,H1,I1,r1,q1⟩=>?_)
  obtain⟨c,rfl,q1⟩:=q1;cases r1;refine wpAny_truthy_bool ?_;cases c with
  |false=>exact hb pQ s1 σ H1 Q I1 q1
  |true=>exact⟨.bl true,H1,I1,rfl,q1⟩
theorem pe_not(ha:PE X a ta):PE X (.UnaryOp .Not a pos) (tNotV ta):=by
  intro pQ s σ H Q I h;refine UnaryOp_ (thn (ha pQ s σ H _ I h) fun v s1 ⟨x,H1,I1,r1,q1⟩=>?_)
  obtain⟨c,rfl,q1⟩:=q1;cases r1;exact not_of (wpAny_truthy_bool ⟨.bl (!c),H1,I1,rfl,q1⟩)
noncomputable def tIf(t:TT)(ta tb:TE):TE:=fun σ H Q=>t σ H fun c H1=>if c=true then ta σ H1 Q else tb σ H1 Q
theorem pe_ifExp{c:Expr}(hc:PT X c tA)(ha:PE X a ta)(hb:PE X b tb):PE X (.IfExp c a b pos) (tIf tA ta tb):=by
  intro pQ s σ H Q I h;refine wpAny_IfExp (thn (hc pQ s σ H _ I h) fun d s1 ⟨H1,I1,q1⟩=>?_)
  cases d with
  |true=>exact ha pQ s1 σ H1 Q I1 q1
  |false=>exact hb pQ s1 σ H1 Q I1 q1
end
def SqL(K:Fg)(H:Hp)(a:Ad)(xs:Li V):Prop:=
  Rd H a (.lst xs) \/
    ∃ (o:Obj) (its:Array vL) (n:Nat),K.lookup a=some o/\o.cls=.type "list"/\o.dict=none/\o.data=.seq its n/\its.size<=sizeLine/\Vals xs its.toList
def SqT(K:Fg)(H:Hp)(a:Ad)(xs:Li V):Prop:=
  Rd H a (.tup xs) \/
    ∃ (o:Obj) (its:Array vL) (n:Nat),K.lookup a=some o/\o.cls=.type "tuple"/\o.data=.seq its n/\its.size<=sizeLine/\Vals xs its.toList
noncomputable def absV:vL->Ot V
  |.none=>some .non
  |.bool b=>some (.bl b)
  |.int i _=>some (.int i)
  |.str x _=>some (.str x)
  |.bytes b _=>some (.byt b)
  |.float b _=>some (.flt b)
  |.ref a=>some (.ref a)
  |.type n=>some (.ty n)
  |_=>none
theorem RelV.abs{x:V}{u:vL}(r:RelV x u):absV u=some x:=by
  cases x with
  |non=>cases r;rfl
  |bl _=>cases r;rfl
  |int _=>obtain⟨t,rfl⟩:=r;rfl
  |str _=>obtain⟨t,rfl⟩:=r;rfl
  |byt _=>obtain⟨t,rfl⟩:=r;rfl
  |flt _=>obtain⟨t,rfl⟩:=r;rfl
  |ref _=>cases r;rfl
  |ty _=>cases r;rfl
variable{y:V}
theorem RelV.inj{x:V}{u:vL}(r:RelV x u)(q:RelV y u):x=y:=Option.some.inj (r.abs.symm.trans q.abs)
theorem Vals.inj:∀ {xs ys:Li V}{us:Li vL},Vals xs us->Vals ys us->xs=ys
  |_,_,_,.nil,.nil=>rfl
  |_,_,_,.cons r t,.cons r' t'=>by rw[r.inj r',Vals.inj t t']
variable{K:Fg}
section
variable {X:Cx}{pQ:Li (Ad×Obj)}{σ:St}{H:Hp}{s:Sd}{a:Ad}{xs ys:Li V}
theorem SqT.of(h:H a=some (.tup xs)):SqT K H a xs:=.inl (.inl h)
theorem Inv.list(I:Inv X pQ σ H s)(h:SqL X.K H a xs):∃ its:Li vL,Vals xs its/\PlainL s.heap a its.toArray/\xs.length<=sizeLine:=by
  rcases h with h|⟨o,its,n,hk,hc,hd,hs,hz,r⟩
  · obtain⟨z,its,n,r,e⟩:=h.ok I.hok
    exact⟨its,r,⟨_,n,e,rfl,rfl,rfl⟩,z⟩
  · refine⟨its.toList,r,⟨o,n,I.kIn a o hk,hc,hd,by simpa using hs⟩,?_⟩
    have e:=r.length;simp only[bD]at e;omega
theorem Inv.tuple(I:Inv X pQ σ H s)(h:SqT X.K H a xs):∃ its:Li vL,Vals xs its/\IsTup s.heap a its.toArray/\xs.length<=sizeLine:=by
  rcases h with h|⟨o,its,n,hk,hc,hs,hz,r⟩
  · obtain⟨z,its,r,p⟩:=h.ok I.hok
    exact⟨its,r,p,z⟩
  · refine⟨its.toList,r,⟨o,I.kIn a o hk,hc,n,by simpa using hs⟩,?_⟩
    have e:=r.length;simp only[bD]at e;omega
theorem Inv.list_inj(I:Inv X pQ σ H s)(h:SqL X.K H a xs)(h':SqL X.K H a ys):xs=ys:=by
  obtain⟨its,r,⟨o,n,e,_,_,d⟩,_⟩:=I.list h;obtain⟨its',r',⟨o',n',e',_,_,d'⟩,_⟩:=I.list h';rw[e]at e';cases e'
  rw[d]at d'
  injection d' with d1 _
  have:its=its':=by simpa using congrArg Array.toList d1
  subst this;exact r.inj r'
theorem Inv.tuple_inj(I:Inv X pQ σ H s)(h:SqT X.K H a xs)(h':SqT X.K H a ys):xs=ys:=by
  obtain⟨its,r,⟨o,e,_,n,d⟩,_⟩:=I.tuple h;obtain⟨its',r',⟨o',e',_,n',d'⟩,_⟩:=I.tuple h';rw[e]at e';cases e'
  rw[d]at d'
  injection d' with d1 _
  have:its=its':=by simpa using congrArg Array.toList d1
  subst this;exact r.inj r'
end

noncomputable abbrev Cx.wish(X:Cx)(E:vL->Sd->Prop):Cx:={ X with xe:=E }
noncomputable abbrev Cx.nox(X:Cx):Cx:=X.wish fun _ _=>False
theorem Cx.Ok.wish(ok:X.Ok)(E:vL->Sd->Prop):(X.wish E).Ok:=
  ⟨ok.mod,ok.kind,ok.glob,ok.blt,ok.above,ok.inj,ok.has,ok.cab,ok.hd,ok.frames,ok.stk,ok.exf,ok.bs,ok.bsz,ok.noex,ok.exfs,ok.funs,ok.frf⟩
theorem Cx.Ok.unwish{E:vL->Sd->Prop}(ok:(X.wish E).Ok):X.Ok:=
  ⟨ok.mod,ok.kind,ok.glob,ok.blt,ok.above,ok.inj,ok.has,ok.cab,ok.hd,ok.frames,ok.stk,ok.exf,ok.bs,ok.bsz,ok.noex,ok.exfs,ok.funs,ok.frf⟩
section
variable {X:Cx}{pQ:Li (Ad×Obj)}{σ:St}{H:Hp}{s:Sd}{E:vL->Sd->Prop}
theorem Inv.wish(I:Inv X pQ σ H s)(E:vL->Sd->Prop):Inv (X.wish E) pQ σ H s:=⟨I.ok.wish E,I.os,I.bare,I.base,I.loc,I.cell,I.free,I.freeC,I.pin,I.hok,I.len⟩
theorem Inv.unwish(I:Inv (X.wish E) pQ σ H s):Inv X pQ σ H s:=⟨I.ok.unwish,I.os,I.bare,I.base,I.loc,I.cell,I.free,I.freeC,I.pin,I.hok,I.len⟩
theorem SP.unwish{D:Ends}{f:Flow}{s':Sd}(h:SP (X.wish E) pQ D f s'):SP X pQ D f s':=by
  cases f with
  |next=>obtain⟨σ',H',I,q⟩:=h;exact⟨σ',H',I.unwish,q⟩
  |brk=>obtain⟨σ',H',I,q⟩:=h;exact⟨σ',H',I.unwish,q⟩
  |cont=>obtain⟨σ',H',I,q⟩:=h;exact⟨σ',H',I.unwish,q⟩
  |ret u=>obtain⟨v,σ',H',I,r,q⟩:=h;exact⟨v,σ',H',I.unwish,r,q⟩
theorem PSs.nox{st:Li Stmt}{t:TS}(h:PSs X.nox st t):PSs X st t:=fun pQ s σ H D I hw=>
  bC (h pQ s σ H D (I.wish _) hw) (fun _ _ q=>q.unwish) fun _ _ z=>False.elim z
end

section
variable {X:Cx}{st:Stmt}{rest:Li Stmt}{t u:TS}{e:Expr}{te:TE}{pos:Pos}
noncomputable def tNext:TS:=fun D σ H=>D.nx σ H
noncomputable def tSeq(t u:TS):TS:=fun D σ H=>t { D with nx:=u D } σ H
theorem pss_nil:PSs X [] tNext:=fun _ _ σ H _ I h=>wpAny_execs_nil ⟨σ,H,I,h⟩
theorem pss_cons(h1:PS X st t)(h2:PSs X rest u):PSs X (st :: rest) (tSeq t u):=by
  intro pQ s σ H D I h;refine wpAny_execs_cons (thn (h1 pQ s σ H { D with nx:=u D } I h) fun f s1 q=>?_)
  cases f with
  |next=>
    obtain⟨σ',H',I',q⟩:=q;exact h2 pQ s1 σ' H' D I' q
  |ret v=>exact q
  |brk=>exact q
  |cont=>exact q
noncomputable def tBreak:TS:=fun D σ H=>D.bk σ H
noncomputable def tCont:TS:=fun D σ H=>D.ct σ H
theorem ps_pass:PS X (.Pass pos) tNext:=fun _ _ σ H _ I h=>wpAny_Pass ⟨σ,H,I,h⟩
theorem ps_break:PS X (.Break pos) tBreak:=fun _ _ σ H _ I h=>wpAny_Break ⟨σ,H,I,h⟩
theorem ps_continue:PS X (.Continue pos) tCont:=fun _ _ σ H _ I h=>wpAny_Continue ⟨σ,H,I,h⟩
theorem Inv.quiet{σ:St}(I:Inv X pQ σ H s):interactive X.env=false:=by simp[interactive,I.ok.kind]
noncomputable def tDrop(te:TE):TS:=fun D σ H=>te σ H fun _ H1=>D.nx σ H1
theorem ps_expr(he:PE X e te)(hs:swapsWith e none pos.line X.env=pure false:=by rfl):PS X (.Expr e pos) (tDrop te):=by
  intro pQ s σ H D I h;exact wpAny_Expr_any (thn (he pQ s σ H _ I h) fun v s1 ⟨x,H1,I1,r1,q1⟩=>⟨σ,H1,I1,q1⟩) I.quiet hs
noncomputable def tRet(te:TE):TS:=fun D σ H=>te σ H D.rt
theorem ps_ret(he:PE X e te):PS X (.Return (some e) pos) (tRet te):=by
  intro pQ s σ H D I h;exact wpAny_Return_some (thn (he pQ s σ H _ I h) fun v s1 ⟨x,H1,I1,r1,q1⟩=>⟨x,σ,H1,I1,r1,q1⟩)
noncomputable def tIfS(c:TT)(t u:TS):TS:=fun D σ H=>c σ H fun b H1=>if b=true then t D σ H1 else u D σ H1
theorem ps_if{c:Expr}{a b:Li Stmt}{tc:TT}(hc:PT X c tc)(ha:PSs X a t)(hb:PSs X b u):PS X (.If c a b pos) (tIfS tc t u):=by
  intro pQ s σ H D I h;refine wpAny_If (thn (hc pQ s σ H _ I h) fun d s1 ⟨H1,I1,q1⟩=>?_)
  cases d with
  |true=>exact ha pQ s1 σ H1 D I1 q1
  |false=>exact hb pQ s1 σ H1 D I1 q1
end

abbrev TG:=V->St->Hp->(St->Hp->Prop)->Prop
abbrev TGs:=Li V->St->Hp->(St->Hp->Prop)->Prop
def PG(X:Cx)(target:Expr)(t:TG):Prop:=
  ∀ (pQ:Li (Ad×Obj)) (s:Sd) (σ:St) (H:Hp) (v:V) (u:vL) (Q:St->Hp->Prop),Inv X pQ σ H s->RelV v u->t v σ H Q->
    wpAny (model X.prog X.w) X.A (assign target X.env u) (fun _ s'=>∃ σ' H',Inv X pQ σ' H' s'/\Q σ' H') X.xe s
def PGs(X:Cx)(ts:Li Expr)(t:TGs):Prop:=
  ∀ (pQ:Li (Ad×Obj)) (s:Sd) (σ:St) (H:Hp) (vs:Li V) (us:Li vL) (Q:St->Hp->Prop),Inv X pQ σ H s->Vals vs us->t vs σ H Q->
    wpAny (model X.prog X.w) X.A (assignInOrder ((assignEach ts X.env).map (·.2)) us) (fun _ s'=>∃ σ' H',Inv X pQ σ' H' s'/\Q σ' H') X.xe s
abbrev TSet:=V->V->V->Hp->(Hp->Prop)->Prop
def PSet(X:Cx)(t:TSet):Prop:=
  ∀ (pQ:Li (Ad×Obj)) (s:Sd) (σ:St) (H:Hp) (o i v:V) (ov iv u:vL) (Q:Hp->Prop),Inv X pQ σ H s->RelV o ov->RelV i iv->RelV v u->t o i v H Q->
    wpAny (model X.prog X.w) X.A (setItem ov iv u) (fun _ s'=>∃ H',Inv X pQ σ H' s'/\Q H') X.xe s
variable{es:Li Expr}{n:Nat}{tg:Expr}
section
variable {X:Cx}{pos:Pos}
noncomputable def gName(i:Nat):TG:=fun v σ H Q=>Q (σ.set i (some v)) H
theorem pg_name{x:Str}(hN:X.N.Nodup)(hi:X.N[i]?=some x)(hx:Loc X.env.scope x)(hf:X.fn x=true\/X.env.scope.names.lookup x=some .local:=by first|exact .inl rfl|exact .inr rfl|assumption):PG X (.Name x pos) (gName i):=by
  intro pQ s σ H v u Q I r h;exact wpAny_assign_Name (store_ok I hN hi hx r (fun s' I'=>⟨_,H,I',h⟩) hf)
noncomputable def gNil:TGs:=fun vs σ H Q=>vs=[]/\Q σ H
noncomputable def gCons(t:TG)(u:TGs):TGs:=fun vs σ H Q=>∃ v r,vs=v :: r/\t v σ H fun σ' H'=>u r σ' H' Q
theorem pgs_nil:PGs X [] gNil:=by
  intro pQ s σ H vs us Q I r h;obtain⟨e,h⟩:=h;subst e;cases r;exact assignInOrder_nil ⟨σ,H,I,h⟩
theorem pgs_cons{e:Expr}{t:TG}{u:TGs}(h1:PG X e t)(h2:PGs X es u)(hs:(assignEach (e :: es) X.env).map (·.2)=assign e X.env :: (assignEach es X.env).map (·.2):=by rfl):PGs X (e :: es) (gCons t u):=by
  intro pQ s σ H vs us Q I r h;obtain⟨v,vr,e1,h⟩:=h;subst e1;cases r with
  |cons r rr=>
    rw[hs];refine assignInOrder_cons (thn (h1 pQ s σ H _ _ _ I r h) fun _ s1 ⟨σ1,H1,I1,q1⟩=>?_)
    exact h2 pQ s1 σ1 H1 _ _ Q I1 rr q1
noncomputable def gTup(K:Fg)(n:Nat)(t:TGs):TG:=fun v σ H Q=>∃ a xs,v=.ref a/\SqT K H a xs/\xs.length=n/\t xs σ H Q
theorem pg_tup{k:Nat}{t:TGs}(hc:X.calm=true)(h:PGs X es t)(hn:(assignEach es X.env).length=n:=by rfl)(hst:(assignEach es X.env).findIdx? (·.1)=none:=by rfl):PG X (.Tuple es k pos) (gTup X.K n t):=by
  intro pQ s σ H v u Q I r hw;obtain⟨a,xs,e1,hq,hl,hw⟩:=hw;subst e1;cases r;obtain⟨its,rv,ht,hz⟩:=I.tuple hq;refine assign_Tuple_tuple (I.ok.hd hc) ht (by simp[hn,<-hl,rv.length]) hst fun h' hx=>?_
  have I1:Inv X pQ σ H { s with heap:=h' }:=I.kept (t':=s.toks) fun b o e=>hx b o (aX (aG e)) e
  exact h pQ _ σ H xs _ Q I1 (by simpa using rv) hw
noncomputable def gSub(to ti:TE)(t:TSet):TG:=fun v σ H Q=>to σ H fun o H1=>ti σ H1 fun i H2=>t o i v H2 fun H3=>Q σ H3
theorem pg_sub{o i:Expr}{to ti:TE}{t:TSet}(ho:PE X o to)(hi:PE X i ti)(hs:PSet X t)(ha:∀ v,assign (.Subscript o i pos) X.env v=(do
      let ov <-holding [v] (eval o X.env)
      let iv <-holding [v,ov] (eval i X.env)
      standAt pos
      holding [v,ov,iv] (setItem ov iv v)
      release [v,ov,iv] []):=by intro _;rfl):PG X (.Subscript o i pos) (gSub to ti t):=by
  intro pQ s σ H v u Q I r h;rw[ha];refine aA (wpAny_holding (thn (ho pQ s σ H _ I h) fun ov s1 ⟨x,H1,I1,r1,q1⟩=>?_))
  refine aA (wpAny_holding (thn (hi pQ s1 σ H1 _ I1 q1) fun iv s2 ⟨y,H2,I2,r2,q2⟩=>?_))
  refine aA (wpAny_standAt (aA (wpAny_holding (thn (hs pQ s2 σ H2 x y v ov iv u _ I2 r1 r2 r q2) fun _ s3 ⟨H3,I3,q3⟩=>?_))))
  exact wpAny_release ⟨σ,H3,I3,q3⟩
noncomputable def tAsg(te:TE)(g:TG):TS:=fun D σ H=>te σ H fun x H1=>g x σ H1 D.nx
theorem ps_asg{e:Expr}{te:TE}{g:TG}(he:PE X e te)(hg:PG X tg g)(hs:swapsWithSole [tg] e pos.line X.env=pure false:=by rfl)(hw:swappedStores [tg] e X.env=pure none:=by rfl)(h1:(assignEach [tg] X.env).map (·.2)=[assign tg X.env]:=by rfl):PS X (.Assign [tg] e pos) (tAsg te g):=by
  intro pQ s σ H D I h;refine wpAny_Assign_stores (thn (he pQ s σ H _ I h) fun v s1 ⟨x,H1,I1,r1,q1⟩=>?_) hs hw
  rw[h1];exact thn (hg pQ s1 σ H1 x v _ I1 r1 q1) fun _ s2 q=>q
theorem ps_set{x:Str}{e:Expr}{te:TE}{pos':Pos}(hN:X.N.Nodup)(hi:X.N[i]?=some x)(hx:Loc X.env.scope x)(he:PE X e te)(hs:swapsWith e (some (.Name x pos')) pos.line X.env=pure false:=by rfl)(hf:X.fn x=true\/X.env.scope.names.lookup x=some .local:=by first|exact .inl rfl|exact .inr rfl|assumption) :
    PS X (.Assign [.Name x pos'] e pos) (tAsg te (gName i)):=by
  intro pQ s σ H D I h;refine wpAny_Assign_Name (thn (he pQ s σ H _ I h) fun v s1 ⟨y,H1,I1,r1,q1⟩=>?_) hs
  exact store_ok I1 hN hi hx r1 (fun s2 I2=>⟨_,H1,I2,q1⟩) hf
end

section
variable {X:Cx}{pos:Pos}
end

structure It where
  go:Nat->Hp->Prop
  yld:Nat->Hp->V->Hp->Prop
  stop:Nat->Hp->Prop
def FpOk(X:Cx)(pQ:Li (Ad×Obj))(H:Hp)(b:Ad):Prop:=
  H b=none/\b≠X.env.locals/\b∉X.fs/\(b∈X.ex\/X.s₀.heap.objs.size<=b)/\(∀ x c,X.env.cells.lookup x=some c->c≠b)/\∀ p∈X.pn++pQ,p.1≠b
theorem Inv.fpOk{σ:St}{H':Hp}{b:Ad}(I:Inv X pQ σ H s)(hb:s.heap.objs.size<=b)(hn:H' b=none):FpOk X pQ H' b:=by
  refine⟨hn,Nat.ne_of_gt (aP I.lt hb),I.nofs hb,.inr (aF I.sz hb),fun x c e z=>?_,fun p hp z=>?_⟩
  · obtain⟨v,q⟩:=I.cell x c e
    exact absurd (aP q.lt (by rw[z];exact hb)) (bW _)
  · exact absurd (aP (aG (I.pin p hp).1) (by rw[z];exact hb)) (bW _)
structure Turn(P:Program)(w:World)(K:Fg)(tg:Expr)(J:It)(fp:List Addr)(it:Addr)(tn:Nat->Heap->Prop):Prop where
  mem:it∈fp
  obj:∀ i h,tn i h->∀ b∈fp,∃ o,h.get? b=some o/\∀ v,o.data≠.cell v
  keep:∀ i h h',tn i h->(∀ b∈fp,∀ o,h.get? b=some o->h'.get? b=some o)->tn i h'
  item:∀ (X:Cx),X.prog=P->X.w=w->X.K=K->X.calm=true->∀ (i:Nat) (pQ:List (Addr×Obj)) (s:Shared) (σ:St) (H:Hp) (E:Value->Shared->Prop),Inv X pQ σ H s->(∀ b∈fp,FpOk X pQ H b)->tn i s.heap->J.go i H->
    wpAny (model P w) X.A (pyNext (.ref it)) (fun r s1=>∃ u,r=some u /\
      wpAny (model P w) X.A (letOwnedTupleGo tg (.ref it) u) (fun _ s2=>∃ x H',Inv X pQ σ H' s2/\RelV x u/\J.yld i H x H'/\tn (i+1) s2.heap/\∀ b∈fp,H' b=none) E s1) E s
  done:∀ (X:Cx),X.prog=P->X.w=w->X.K=K->X.calm=true->∀ (i:Nat) (pQ:List (Addr×Obj)) (s:Shared) (σ:St) (H:Hp) (E:Value->Shared->Prop),Inv X pQ σ H s->(∀ b∈fp,FpOk X pQ H b)->tn i s.heap->J.stop i H->
    wpAny (model P w) X.A (pyNext (.ref it)) (fun r s1=>r=none/\Inv X pQ σ H s1) E s
  self:∀ (A:Around) (i:Nat) (s:Shared) (Q:Value->Shared->Prop) (E:Value->Shared->Prop),tn i s.heap->Q (.ref it) s->wpAny (model P w) A (pyIter (.ref it)) Q E s
abbrev TI:=St->Hp->(It->Hp->Prop)->Prop
def PIE(X:Cx)(pQ:Li (Ad×Obj))(σ:St)(tg:Expr)(R:It->Hp->Prop)(itv:vL)(s2:Sd):Prop:=
  ∃ (it:Ad) (fp:Li Ad) (tn:Nat->Heap->Prop) (J:It) (H':Hp),itv=.ref it/\Inv X pQ σ H' s2/\Turn X.prog X.w X.K tg J fp it tn/\tn 0 s2.heap/\(∀ b∈fp,FpOk X pQ H' b)/\R J H'
def PI(X:Cx)(tg iter:Expr)(wi:TI):Prop:=
  ∀ (pQ:Li (Ad×Obj)) (s:Sd) (σ:St) (H:Hp) (R:It->Hp->Prop),Inv X pQ σ H s->wi σ H R->
    wpAny (model X.prog X.w) X.A (eval iter X.env) (fun v s1=>wpAny (model X.prog X.w) X.A (pyIter v) (PIE X pQ σ tg R) X.xe s1) X.xe s

theorem go_of{E:vL->Sd->Prop}{it:Ad}{u:vL}{o:Obj}{n:String}{vs:Array vL}{Q:Unit->Sd->Prop}(ho:s.heap.get? it=some o)(hc:o.cls=.type n)(hd:o.data=.fields vs)(hn:["enumerate", "zip", "dict_itemiterator", "dict_reverseitemiterator", "odict_iterator", "itertools.zip_longest", "itertools.pairwise"].contains n=false)(hQ:Q () s):wpAny M A (letOwnedTupleGo tg (.ref it) u) Q E s:=by
  unfold letOwnedTupleGo;cases tg<;>first
    |exact aE hQ
    | (cases u<;>first
        |exact aE hQ
        | (refine aA (wpAny_load ho ?_)
           rw[hc,hd];show wpAny M A (if (["enumerate", "zip", "dict_itemiterator", "dict_reverseitemiterator", "odict_iterator", "itertools.zip_longest", "itertools.pairwise"].contains n&&vs[0]?==some (rawInt _))=true then _ else _) Q E s
           rw[if_neg (by intro h;rw[hn,Bool.false_and]at h;cases h)]
           exact aE hQ))

noncomputable def Itl(K:Fg)(a:Ad):It:=
  ⟨fun i H=>∃ xs x,SqL K H a xs/\xs[i]?=some x,fun i H x H'=>H'=H/\∀ xs,SqL K H a xs->xs[i]?=some x,fun i H=>∃ xs,SqL K H a xs/\xs.length<=i⟩
noncomputable def Itt(K:Fg)(a:Ad):It:=
  ⟨fun i H=>∃ xs x,SqT K H a xs/\xs[i]?=some x,fun i H x H'=>H'=H/\∀ xs,SqT K H a xs->xs[i]?=some x,fun i H=>∃ xs,SqT K H a xs/\xs.length<=i⟩
noncomputable def Itr(lo:Int)(n:Nat):It:=⟨fun i _=>i < n,fun i H x H'=>H'=H/\x=.int (lo+i),fun i _=>n<=i⟩
theorem turn_list{P:Program}(a it:Ad):Turn P w K tg (Itl K a) [it] it (fun i h=>h.IsListIter it a i) where
  mem:=by simp
  obj:=fun i h st b hb=>by
    have e:b=it:=by simpa using hb
    subst e;obtain⟨o,e,c,d⟩:=st;exact⟨o,e,fun v z=>by rw[d]at z;cases z⟩
  keep:=fun i h h' st k=>st.at fun o e=>k it (by simp) o e
  item:=by
    intro X hP hw hK hc i pQ s σ H E I hf st hg;subst hP hw hK;obtain⟨xs,x,hq,hx⟩:=hg;obtain⟨its,rv,p,hz⟩:=I.list hq;obtain⟨u,hu,ru⟩:=rv.get hx;obtain⟨f0,f1,f2,f3,f4,f5⟩:=hf it (by simp)
    refine wpAny_pyNext_list_item st p.isList (x:=u) (by simpa using hu) fun h' st' sb=>?_
    have I1:Inv X pQ σ H { s with heap:=h' }:=I.turned (t':=s.toks) (fun b o hb e=>(sb.2 b hb).trans e) f0 f1 f3 f4 f5
    obtain⟨o,e,c,d⟩:=id st';exact⟨u,rfl,go_of (s:={ s with heap:=h' }) e c d (by decide) ⟨x,H,I1,ru,⟨rfl,fun ys hy=>by rw[I.list_inj hy hq];exact hx⟩,st',fun b hb=>(hf b hb).1⟩⟩
  done:=by
    intro X hP hw hK hc i pQ s σ H E I hf st hg;subst hP hw hK;obtain⟨xs,hq,hx⟩:=hg;obtain⟨its,rv,p,hz⟩:=I.list hq;obtain⟨f0,f1,f2,f3,f4,f5⟩:=hf it (by simp)
    have hl:=rv.length;exact wpAny_pyNext_list_end (I.ok.hd hc) st p.isList (by simp;omega) fun h' eb=>⟨rfl,I.turned (t':=s.toks) (fun b o hb e=>eb b o hb e) f0 f1 f3 f4 f5⟩
  self:=fun _ _ _ _ _ st h=>wpAny_pyIter_listiter st h
theorem turn_tuple{P:Program}(a it:Ad):Turn P w K tg (Itt K a) [it] it (fun i h=>h.IsTupleIter it a i) where
  mem:=by simp
  obj:=fun i h st b hb=>by
    have e:b=it:=by simpa using hb
    subst e;obtain⟨o,e,c,d⟩:=st;exact⟨o,e,fun v z=>by rw[d]at z;cases z⟩
  keep:=fun i h h' st k=>st.at fun o e=>k it (by simp) o e
  item:=by
    intro X hP hw hK hc i pQ s σ H E I hf st hg;subst hP hw hK;obtain⟨xs,x,hq,hx⟩:=hg;obtain⟨its,rv,p,hz⟩:=I.tuple hq;obtain⟨u,hu,ru⟩:=rv.get hx;obtain⟨f0,f1,f2,f3,f4,f5⟩:=hf it (by simp)
    refine wpAny_pyNext_tuple_item st (show s.heap.IsTuple a its.toArray from p) (x:=u) (by simpa using hu) fun h' st' sb=>?_
    have I1:Inv X pQ σ H { s with heap:=h' }:=I.turned (t':=s.toks) (fun b o hb e=>(sb.2 b hb).trans e) f0 f1 f3 f4 f5
    obtain⟨o,e,c,d⟩:=id st';exact⟨u,rfl,go_of (s:={ s with heap:=h' }) e c d (by decide) ⟨x,H,I1,ru,⟨rfl,fun ys hy=>by rw[I.tuple_inj hy hq];exact hx⟩,st',fun b hb=>(hf b hb).1⟩⟩
  done:=by
    intro X hP hw hK hc i pQ s σ H E I hf st hg;subst hP hw hK;obtain⟨xs,hq,hx⟩:=hg;obtain⟨its,rv,p,hz⟩:=I.tuple hq;obtain⟨f0,f1,f2,f3,f4,f5⟩:=hf it (by simp)
    have hl:=rv.length;exact wpAny_pyNext_tuple_end (I.ok.hd hc) st (show s.heap.IsTuple a its.toArray from p) (by simp;omega) fun h' eb=>⟨rfl,I.turned (t':=s.toks) (fun b o hb e=>eb b o hb e) f0 f1 f3 f4 f5⟩
  self:=fun _ _ _ _ _ st h=>wpAny_pyIter_tupleiter st h
theorem turn_range{P:Program}(it:Ad)(lo:Int)(n:Nat):Turn P w K tg (Itr lo n) [it] it (fun i h=>IsRangeIter h it (lo+(i:Nat) * 1) ((n:Int) - (i:Nat)) 1) where
  mem:=by simp
  obj:=fun i h st b hb=>by
    have e:b=it:=by simpa using hb
    subst e;exact⟨_,st,fun v z=>by
      have z':Data.fields _=Data.cell v:=z;cases z'⟩
  keep:=fun i h h' st k=>k it (by simp) _ st
  item:=by
    intro X hP hw hK hc i pQ s σ H E I hf st hg;subst hP hw hK;obtain⟨f0,f1,f2,f3,f4,f5⟩:=hf it (by simp)
    have W:=Walks.range (prog:=X.prog) (w:=X.w) (I.ok.hd hc) it lo 1 n;refine W.item i s _ _ hg st fun v h' tk hv st' kk=>?_
    obtain⟨t,rfl⟩:=hv;have I1:Inv X pQ σ H { s with heap:=h',toks:=tk }:=I.turned (fun b o hb e=>kk b o (by simpa using hb) e) f0 f1 f3 f4 f5
    refine⟨_,rfl,go_of (s:={ s with heap:=h',toks:=tk }) (n := "range_iterator") st' rfl rfl (by decide) ⟨.int (lo+i),H,I1,⟨t,?_⟩,⟨rfl,rfl⟩,st',fun b hb=>(hf b hb).1⟩⟩
    rw[Int.mul_one]
  done:=by
    intro X hP hw hK hc i pQ s σ H E I hf st hg;subst hP hw hK;obtain⟨f0,f1,f2,f3,f4,f5⟩:=hf it (by simp)
    exact wpAny_pyNext_range_end (I.ok.hd hc) st (by have:n<=i:=hg;omega) fun h' eb=>⟨rfl,I.turned (t':=s.toks) (fun b o hb e=>eb b o hb e) f0 f1 f3 f4 f5⟩
  self:=fun _ _ _ _ _ st h=>wpAny_pyIter_rangeiter st h
variable{l:Expr}{lo:Int}{fp:Li Ad}
section
variable {X:Cx}{tg:Expr}
noncomputable def iList(K:Fg)(tl:TE):TI:=fun σ H R=>tl σ H fun x H1=>∃ a,x=.ref a/\(∃ xs,SqL K H1 a xs)/\R (Itl K a) H1
noncomputable def iTup(K:Fg)(tl:TE):TI:=fun σ H R=>tl σ H fun x H1=>∃ a,x=.ref a/\(∃ xs,SqT K H1 a xs)/\R (Itt K a) H1
theorem pi_list{tl:TE}(hl:PE X l tl):PI X tg l (iList X.K tl):=by
  intro pQ s σ H R I h;refine thn (hl pQ s σ H _ I h) fun v s1 ⟨x,H1,I1,r1,q1⟩=>?_
  obtain⟨a,e,⟨xs,hq⟩,q⟩:=q1;subst e;cases r1;obtain⟨its,rv,p,hz⟩:=I1.list hq;refine wpAny_pyIter_list p.isList ?_;refine⟨s1.heap.objs.size,[s1.heap.objs.size],_,_,H1,rfl,I1.kept (t':=s1.toks) fun b o e=>aL _ e,turn_list a _,⟨_,aV _ rfl,rfl,rfl⟩,fun b hb=>?_,q⟩
  have e:b=s1.heap.objs.size:=by simpa using hb
  subst e;exact I1.fpOk (aB _) (I1.hok.fresh (aB _))
theorem pi_tup{tl:TE}(hl:PE X l tl):PI X tg l (iTup X.K tl):=by
  intro pQ s σ H R I h;refine thn (hl pQ s σ H _ I h) fun v s1 ⟨x,H1,I1,r1,q1⟩=>?_
  obtain⟨a,e,⟨xs,hq⟩,q⟩:=q1;subst e;cases r1;obtain⟨its,rv,p,hz⟩:=I1.tuple hq;refine wpAny_pyIter_tuple (show s1.heap.IsTuple a its.toArray from p) ?_;refine⟨s1.heap.objs.size,[s1.heap.objs.size],_,_,H1,rfl,I1.kept (t':=s1.toks) fun b o e=>aL _ e,turn_tuple a _,⟨_,aV _ rfl,rfl,rfl⟩,fun b hb=>?_,q⟩
  have e:b=s1.heap.objs.size:=by simpa using hb
  subst e;exact I1.fpOk (aB _) (I1.hok.fresh (aB _))
theorem range_it{σ:St}{R:It->Hp->Prop}{E:vL->Sd->Prop}{hi:Int}{t u v:Tok}{tk:Nat}(I:Inv X pQ σ H s)(h1:-(2 ^ 62)<=lo)(h2:lo < 2 ^ 62)(h3:-(2 ^ 62)<=hi)(h4:hi < 2 ^ 62)(q:R (Itr lo (hi - lo).toNat) H):wpAny (model X.prog X.w) X.A (pyIter (.ref s.heap.objs.size)) (PIE X pQ σ tg R) E { s with heap:=s.heap.push { cls:=.type "range",data:=.fields #[.int lo t,.int hi u,.int 1 v] },toks:=tk }:=by
  refine wpAny_pyIter_range (IsRange.new ..) (small_one h1 h2 h3 h4) ?_;have I1:Inv X pQ σ H { s with heap:=s.heap.push { cls:=.type "range",data:=.fields #[.int lo t,.int hi u,.int 1 v] },toks:=tk }:=I.kept fun b o e=>aL _ e
  refine⟨(s.heap.push { cls:=.type "range",data:=.fields #[.int lo t,.int hi u,.int 1 v] }).objs.size,[(s.heap.push { cls:=.type "range",data:=.fields #[.int lo t,.int hi u,.int 1 v] }).objs.size],_,_,H,rfl,
    I1.kept (t':=tk) fun b o e=>aL _ e,turn_range _ lo (hi - lo).toNat,?_,fun b hb=>?_,q⟩
  · have e1:lo+((0:Nat):Int) * 1=lo:=by simp
    have e2:(((hi - lo).toNat:Nat):Int) - ((0:Nat):Int)=Builtin.Range.rangeSize lo hi 1:=by rw[rangeSize_one];split<;>omega
    show IsRangeIter _ _ (lo+((0:Nat):Int) * 1) ((((hi - lo).toNat:Nat):Int) - ((0:Nat):Int)) 1;rw[e1,e2];exact aV _ rfl
  · have e:b=(s.heap.push { cls:=.type "range",data:=.fields #[.int lo t,.int hi u,.int 1 v] }).objs.size:=by simpa using hb
    subst e;exact I1.fpOk (aB _) (I1.hok.fresh (aB _))
noncomputable def iRng1(ta:TA):TI:=fun σ H R=>ta σ H fun vs H1=>∃ j:Int,vs=[.int j]/\-(2 ^ 62)<=j/\j < 2 ^ 62/\R (Itr 0 j.toNat) H1
theorem pi_range1{a:Expr}{ta:TA}{p pos:Pos}(hg:Gl X "range")(hm:X.mg "range"=none)(ha:PA X [a] ta)(hs:starEach [a] X.env=[(false,eval a X.env)]:=by rfl):PI X tg (.Call (.Name "range" p) [a] [] pos) (iRng1 ta):=by
  intro pQ s σ H R I h;refine Call_ (ld_blt I hg hm boot_range (PyProof.Rows.callWith_type1 (thn (ha pos pQ s σ H _ I h) fun us s1 ⟨vs,H1,I1,r1,q1⟩=>?_) hs rfl))
  obtain⟨j,e,q1,q2,q⟩:=q1;subst e;cases r1 with
  |cons r rr=>
    cases rr;obtain⟨t,rfl⟩:=r;exact call_range_1 (range_it I1 (by omega) (by omega) q1 q2 (by simpa using q))

noncomputable def tFor(wi:TI)(g:TG)(tb:TS):TS:=fun D σ H=>wi σ H fun J H1=>∃ W:Nat->Nat->St->Hp->Prop,(∃ m,W 0 m σ H1)/\∀ i m σ H,W i m σ H->
  (J.stop i H/\D.nx σ H)\/(J.go i H/\∃ N:St->Hp->Prop,(∀ σ' H',N σ' H'->∃ m',m' < m/\W (i+1) m' σ' H')/\∀ x H',J.yld i H x H'->g x σ H' fun σ2 H2=>tb { D with nx:=N,ct:=N,bk:=D.nx } σ2 H2)
noncomputable def pinsAt(fp:Li Ad)(h:Heap):Li (Ad×Obj):=fp.filterMap fun b=>(h.get? b).map fun o=>(b,o)
theorem mem_pinsAt{b:Ad}{o:Obj}(hb:b∈fp)(e:h.get? b=some o):(b,o)∈pinsAt fp h:=List.mem_filterMap.mpr ⟨b,hb,by rw[e];rfl⟩
theorem of_pinsAt{p:Ad×Obj}(hp:p∈pinsAt fp h):p.1∈fp/\h.get? p.1=some p.2:=by
  obtain⟨b,hb,e⟩:=List.mem_filterMap.mp hp;cases q:h.get? b with
  |none=>rw[q]at e;cases e
  |some o=>
    rw[q]at e;have e':(b,o)=p:=Option.some.inj e;subst e';exact⟨hb,q⟩
theorem Inv.pinned{σ:St}{fp:Li Ad}(I:Inv X pQ σ H s)(hf:∀ b∈fp,FpOk X pQ H b)(ho:∀ b∈fp,∃ o,s.heap.get? b=some o/\∀ v,o.data≠.cell v):Inv X (pQ++pinsAt fp s.heap) σ H s:=
  I.pins_of fun p hp=>(aR.mp hp).elim (fun z=>I.pin p (cD _ z)) fun z=>by
    obtain⟨hb,e⟩:=of_pinsAt z;obtain⟨f0,f1,f2,_⟩:=hf p.1 hb;obtain⟨o,e',d⟩:=ho p.1 hb;rw[e]at e';cases e'
    exact⟨e,f0,f1,f2,d⟩
theorem Inv.unpinned{pl:Li (Ad×Obj)}{σ:St}(I:Inv X (pQ++pl) σ H s):Inv X pQ σ H s:=I.pins_of fun p hp=>I.pin p (cD _ (List.mem_append_left _ hp))
theorem ps_for{iter:Expr}{body:Li Stmt}{wi:TI}{g:TG}{tb:TS}{pos:Pos}(hp:PassesOwn (model X.prog X.w) X.A X.env X.xe)(hc:X.calm=true)(hi:PI X tg iter wi)(hg:PG X tg g)(hb:PSs X body tb)(hs:∀ x,foldedSetIterable iter X.env x=pure x:=by intro _;rfl):PS X (.For tg iter body [] pos) (tFor wi g tb):=by
  intro pQ s σ H D I h;refine wpAny_For (thn (hi pQ s σ H _ I h) fun v s1 h1=>thn h1 fun itv s2 h2=>?_) hs
  obtain⟨it,fp,tn,J,H2,e,I2,T,st2,f2,W,⟨m0,w0⟩,turn⟩:=h2;subst e
  -- what stays true of the iterator's objects through the loop
  have stat:∀ {H':Hp},(∀ b∈fp,H' b=none)->∀ b∈fp,FpOk X pQ H' b:=fun hn b hb=>⟨hn b hb,(f2 b hb).2⟩
  refine codeAny_forLoop_any (fun n s'=>∃ i σ' H',Inv X pQ σ' H' s'/\tn i s'.heap/\(∀ b∈fp,H' b=none)/\W i n σ' H') ?_ m0 ⟨0,σ,H2,I2,st2,fun b hb=>(f2 b hb).1,w0⟩
  rintro n s3 ⟨i,σ3,H3,I3,st3,fr3,w3⟩
  rcases turn i n σ3 H3 w3 with⟨stop,qn⟩|⟨go,N,hN,step⟩
  · refine wpAny_passesOwn hp (thn (T.done X rfl rfl rfl hc i pQ s3 σ3 H3 X.xe I3 (stat fr3) st3 stop) fun r s4 ⟨hr,I4⟩=>?_)
    subst hr;exact wpAny_execs_nil ⟨σ3,H3,I4,qn⟩
  · refine wpAny_passesOwn hp (thn (T.item X rfl rfl rfl hc i pQ s3 σ3 H3 X.xe I3 (stat fr3) st3 go) fun r s4 ⟨u,hr,h4⟩=>?_)
    subst hr;refine wpAny_passesOwn hp (thn h4 fun _ s5 ⟨x,H5,I5,r5,y5,st5,fr5⟩=>?_)
    have I5':=I5.pinned (stat fr5) (T.obj _ _ st5);refine wpAny_passesOwn hp (thn (hg _ s5 σ3 H5 x u _ I5' r5 (step x H5 y5)) fun _ s6 ⟨σ6,H6,I6,q6⟩=>?_)
    refine wpAny_passesOwn hp (thn (hb _ s6 σ6 H6 _ I6 q6) fun f s7 q7=>?_)
    have again:∀ {σ7:St}{H7:Hp},Inv X (pQ++pinsAt fp s5.heap) σ7 H7 s7->N σ7 H7->∃ m,m < n/\∃ i σ' H',Inv X pQ σ' H' s7/\tn i s7.heap/\(∀ b∈fp,H' b=none)/\W i m σ' H':=fun {σ7 H7} I7 n7=>by
      obtain⟨m',hm,w7⟩:=hN σ7 H7 n7;refine⟨m',hm,i+1,σ7,H7,I7.unpinned,T.keep _ _ _ st5 fun b hb o e=>(I7.pin (b,o) (cD _ (cD _ (mem_pinsAt hb e)))).1,fun b hb=>?_,w7⟩
      obtain⟨o,e,d⟩:=T.obj _ _ st5 b hb;exact(I7.pin (b,o) (cD _ (cD _ (mem_pinsAt hb e)))).2.1
    cases f with
    |next=>obtain⟨σ7,H7,I7,n7⟩:=q7;exact again I7 n7
    |cont=>obtain⟨σ7,H7,I7,n7⟩:=q7;exact again I7 n7
    |brk=>obtain⟨σ7,H7,I7,q7⟩:=q7;exact⟨σ7,H7,I7.unpinned,q7⟩
    |ret v=>obtain⟨x7,σ7,H7,I7,r7,q7⟩:=q7;exact⟨x7,σ7,H7,I7.unpinned,r7,q7⟩
end

theorem for_tup{a:Ad}{g:TG}{tb:TS}{D:Ends}{σ:St}{H:Hp}(Pv:Nat->St->Hp->Prop)(h0:Pv 0 σ H)(hl:∀ i σ H,i<=xs.length->Pv i σ H->SqT K H a xs)(hs:∀ i x σ H,xs[i]?=some x->Pv i σ H->g x σ H fun σ2 H2=>tb { D with nx:=Pv (i+1),ct:=Pv (i+1),bk:=D.nx } σ2 H2)(hd:∀ σ H,Pv xs.length σ H->D.nx σ H) :
    ∃ W:Nat->Nat->St->Hp->Prop,(∃ m,W 0 m σ H)/\∀ i m σ H,W i m σ H->
      ((Itt K a).stop i H/\D.nx σ H)\/((Itt K a).go i H/\∃ N:St->Hp->Prop,(∀ σ' H',N σ' H'->∃ m',m' < m/\W (i+1) m' σ' H')/\∀ x H',(Itt K a).yld i H x H'->g x σ H' fun σ2 H2=>tb { D with nx:=N,ct:=N,bk:=D.nx } σ2 H2):=by
  refine⟨fun i m σ H=>m=xs.length - i/\i<=xs.length/\Pv i σ H,⟨xs.length,by simp,bX _,h0⟩,?_⟩
  rintro i m σ H ⟨rfl,hi,p⟩
  have q:=hl i σ H hi p;by_cases hlt:i < xs.length
  · refine .inr ⟨⟨xs,xs[i],q,by simp[hlt]⟩,Pv (i+1),fun σ' H' p'=>⟨xs.length - (i+1),by omega,rfl,hlt,p'⟩,fun x H' y=>?_⟩
    obtain⟨e,y⟩:=y;subst e;exact hs i x σ _ (y xs q) p
  · have e:i=xs.length:=by omega
    subst e;exact .inl ⟨⟨xs,q,aB _⟩,hd σ H p⟩
theorem for_range{g:TG}{tb:TS}{D:Ends}{σ:St}{H:Hp}(Pv:Nat->St->Hp->Prop)(h0:Pv 0 σ H)(hs:∀ i σ H,i < n->Pv i σ H->g (.int (lo+i)) σ H fun σ2 H2=>tb { D with nx:=Pv (i+1),ct:=Pv (i+1),bk:=D.nx } σ2 H2)(hd:∀ σ H,Pv n σ H->D.nx σ H) :
    ∃ W:Nat->Nat->St->Hp->Prop,(∃ m,W 0 m σ H)/\∀ i m σ H,W i m σ H->
      ((Itr lo n).stop i H/\D.nx σ H)\/((Itr lo n).go i H/\∃ N:St->Hp->Prop,(∀ σ' H',N σ' H'->∃ m',m' < m/\W (i+1) m' σ' H')/\∀ x H',(Itr lo n).yld i H x H'->g x σ H' fun σ2 H2=>tb { D with nx:=N,ct:=N,bk:=D.nx } σ2 H2):=by
  refine⟨fun i m σ H=>m=n - i/\i<=n/\Pv i σ H,⟨n,by simp,bX _,h0⟩,?_⟩
  rintro i m σ H ⟨rfl,hi,p⟩
  by_cases hlt:i < n
  · refine .inr ⟨hlt,Pv (i+1),fun σ' H' p'=>⟨n - (i+1),by omega,rfl,hlt,p'⟩,fun x H' y=>?_⟩
    obtain⟨e,y⟩:=y;subst e y;exact hs i σ _ hlt p
  · have e:i=n:=by omega
    subst e;exact .inl ⟨aB _,hd σ H p⟩
abbrev R2:=V->V->Hp->VK->Prop
def OpR(X:Cx)(f:vL->vL->Sem vL)(r:R2):Prop:=
  ∀ (pQ:Li (Ad×Obj)) (s:Sd) (σ:St) (H:Hp) (x y:V) (v u:vL) (Q:VK),Inv X pQ σ H s->RelV x v->RelV y u->r x y H Q->
    wpAny (model X.prog X.w) X.A (f v u) (EP X pQ σ Q) X.xe s
def UnR(X:Cx)(f:vL->Sem vL)(r:V->Hp->VK->Prop):Prop:=
  ∀ (pQ:Li (Ad×Obj)) (s:Sd) (σ:St) (H:Hp) (x:V) (v:vL) (Q:VK),Inv X pQ σ H s->RelV x v->r x H Q->
    wpAny (model X.prog X.w) X.A (f v) (EP X pQ σ Q) X.xe s
def CallR(X:Cx)(f:vL)(r:Li V->Hp->VK->Prop):Prop:=
  ∀ (pQ:Li (Ad×Obj)) (s:Sd) (σ:St) (H:Hp) (xs:Li V) (us:Li vL) (Q:VK),Inv X pQ σ H s->Vals xs us->r xs H Q->
    wpAny (model X.prog X.w) X.A (call f us) (EP X pQ σ Q) X.xe s

noncomputable def tOp(r:R2)(ta tb:TE):TE:=fun σ H Q=>ta σ H fun x H1=>tb σ H1 fun y H2=>r x y H2 Q
noncomputable def tUn(r:V->Hp->VK->Prop)(ta:TE):TE:=fun σ H Q=>ta σ H fun x H1=>r x H1 Q
noncomputable def rI(C:Int->Int->Prop)(g:Int->Int->V):R2:=fun x y H Q=>∃ i j,x=.int i/\y=.int j/\C i j/\Q (g i j) H
noncomputable def rI0(g:Int->Int->V):R2:=fun x y H Q=>∃ i j,x=.int i/\y=.int j/\Q (g i j) H
def rU(g:Int->V):V->Hp->VK->Prop:=fun x H Q=>∃ i,x=.int i/\Q (g i) H

section
variable {X:Cx}{a b c:Expr}{ta tb tc:TE}{pos:Pos}

theorem binT(ha:PE X a ta)(hb:PE X b tb){σ:St}{R:V->V->Hp->Prop}(I:Inv X pQ σ H s)(h:ta σ H fun x H1=>tb σ H1 fun y H2=>R x y H2){f:vL->vL->Sem vL}(hf:∀ v u s2 x y H2,Inv X pQ σ H2 s2->RelV x v->RelV y u->R x y H2->wpAny (model X.prog X.w) X.A (f v u) Q X.xe s2) :
    wpAny (model X.prog X.w) X.A (eval a X.env) (fun v s₁=>wpAny (model X.prog X.w) X.A (eval b X.env) (fun u s₂=>wpAny (model X.prog X.w) X.A (f v u) Q X.xe s₂) X.xe s₁) X.xe s:=by
  refine thn (ha pQ s σ H _ I h) fun v s1 ⟨x,H1,I1,r1,q1⟩=>?_
  refine thn (hb pQ s1 σ H1 _ I1 q1) fun u s2 ⟨y,H2,I2,r2,q2⟩=>?_
  exact hf v u s2 x y H2 I2 r1 r2 q2

theorem pe_op{op:Operator}{r:R2}(ho:OpR X (binaryOp op) r)(ha:PE X a ta)(hb:PE X b tb):PE X (.BinOp a op b pos) (tOp r ta tb):=by
  intro pQ s σ H Q I h;exact wpAny_BinOp (binT ha hb I h fun v u s2 x y H2 I2 rx ry q=>ho pQ s2 σ H2 x y v u Q I2 rx ry q)
theorem pe_un{op:UnaryOp}{r:V->Hp->VK->Prop}(ho:UnR X (unaryOp op) r)(ha:PE X a ta):PE X (.UnaryOp op a pos) (tUn r ta):=by
  intro pQ s σ H Q I h;exact UnaryOp_ (thn (ha pQ s σ H _ I h) fun v s1 ⟨x,H1,I1,r1,q1⟩=>ho pQ s1 σ H1 x v Q I1 r1 q1)

theorem opI{f:vL->vL->Sem vL}{C:Int->Int->Prop}{g:Int->Int->Int}(rule:∀ (i j:Int) (t u:Tok) (s:Sd) (Q:vL->Sd->Prop) (E:vL->Sd->Prop),C i j->Q (.int (g i j) s.toks) { s with toks:=s.toks+1 }->wpAny (model X.prog X.w) X.A (f (.int i t) (.int j u)) Q E s) :
    OpR X f (rI C fun i j=>.int (g i j)):=by
  intro pQ s σ H x y v u Q I rx ry h;obtain⟨i,j,rfl,rfl,hc,q⟩:=h;obtain⟨t,rfl⟩:=rx;obtain⟨t',rfl⟩:=ry;exact rule i j t t' s _ _ hc ⟨.int (g i j),H,I.tok _,⟨_,rfl⟩,q⟩
theorem opI0{f:vL->vL->Sem vL}{g:Int->Int->Int}(rule:∀ (i j:Int) (t u:Tok) (s:Sd) (Q:vL->Sd->Prop) (E:vL->Sd->Prop),Q (.int (g i j) s.toks) { s with toks:=s.toks+1 }->wpAny (model X.prog X.w) X.A (f (.int i t) (.int j u)) Q E s) :
    OpR X f (rI0 fun i j=>.int (g i j)):=by
  intro pQ s σ H x y v u Q I rx ry h;obtain⟨i,j,rfl,rfl,q⟩:=h;obtain⟨t,rfl⟩:=rx;obtain⟨t',rfl⟩:=ry;exact rule i j t t' s _ _ ⟨.int (g i j),H,I.tok _,⟨_,rfl⟩,q⟩
theorem opB0{f:vL->vL->Sem vL}{g:Int->Int->Bool}(rule:∀ (i j:Int) (t u:Tok) (s:Sd) (Q:vL->Sd->Prop) (E:vL->Sd->Prop),Q (.bool (g i j)) s->wpAny (model X.prog X.w) X.A (f (.int i t) (.int j u)) Q E s) :
    OpR X f (rI0 fun i j=>.bl (g i j)):=by
  intro pQ s σ H x y v u Q I rx ry h;obtain⟨i,j,rfl,rfl,q⟩:=h;obtain⟨t,rfl⟩:=rx;obtain⟨t',rfl⟩:=ry;exact rule i j t t' s _ _ ⟨.bl (g i j),H,I,rfl,q⟩

def CDiv(i j:Int):Prop:=0 < j/\j < 1073741824
def CDivN(i j:Int):Prop:=j≠0/\j.natAbs < 1073741824
def CMul(i j:Int):Prop:=(-(2 ^ 64) < i/\i < 2 ^ 64)\/(-(2 ^ 64) < j/\j < 2 ^ 64)
theorem CMul.ok{i j:Int}(h:CMul i j):IntMulOk i j:=by
  rcases h with⟨h1,h2⟩|⟨h1,h2⟩
  · exact .of_left (intBits_le_64 h1 h2)
  · exact .of_right (intBits_le_64 h1 h2)

theorem op_add:OpR X (binaryOp .Add) (rI0 fun i j=>.int (i+j)):=opI0 fun _ _ _ _ _ _ _ q=>add_int q
theorem op_sub:OpR X (binaryOp .Sub) (rI0 fun i j=>.int (i - j)):=opI0 fun _ _ _ _ _ _ _ q=>sub_int q
theorem op_mul:OpR X (binaryOp .Mult) (rI CMul fun i j=>.int (i * j)):=opI fun _ _ _ _ _ _ _ hc q=>mul_int q hc.ok
theorem op_fdiv:OpR X (binaryOp .FloorDiv) (rI CDiv fun i j=>.int (i / j)):=opI fun i j _ _ _ _ _ hc q=>by
  have h1:(0:Int) < j:=hc.1;have h2:j < 1073741824:=hc.2;exact floordiv_int (by omega) (by rw[Int.fdiv_eq_ediv_of_nonneg i (by omega)];exact q) (.inl (PyProof.noPylong_small (by omega)))
theorem op_fdivN:OpR X (binaryOp .FloorDiv) (rI CDivN fun i j=>.int (i.fdiv j)):=opI fun _ _ _ _ _ _ _ hc q=>floordiv_int hc.1 q (.inl (PyProof.noPylong_small hc.2))
theorem op_mod:OpR X (binaryOp .Mod) (rI (fun _ j=>0 < j) fun i j=>.int (i % j)):=opI fun i j _ _ _ _ _ hc q=>by
  have h1:(0:Int) < j:=hc;exact mod_int' (by omega) (by rw[Int.fmod_eq_emod_of_nonneg i (by omega)];exact q)
theorem op_modN:OpR X (binaryOp .Mod) (rI (fun _ j=>j≠0) fun i j=>.int (i.fmod j)):=opI fun _ _ _ _ _ _ _ hc q=>mod_int' hc q


theorem unI{f:vL->Sem vL}{g:Int->Int}(rule:∀ (i:Int) (t:Tok) (s:Sd) (Q:vL->Sd->Prop) (E:vL->Sd->Prop),Q (.int (g i) s.toks) { s with toks:=s.toks+1 }->wpAny (model X.prog X.w) X.A (f (.int i t)) Q E s) :
    UnR X f (rU fun i=>.int (g i)):=by
  intro pQ s σ H x v Q I rx h;obtain⟨i,rfl,q⟩:=h;obtain⟨t,rfl⟩:=rx;exact rule i t s _ _ ⟨.int (g i),H,I.tok _,⟨_,rfl⟩,q⟩
theorem un_neg:UnR X (unaryOp .USub) (rU fun i=>.int (-i)):=unI fun _ _ _ _ _ q=>neg_int q

end

noncomputable def scal:V->V->Bool
  |.non,.non=>true|.non,.int _=>true|.int _,.non=>true|.non,.bl _=>true|.bl _,.non=>true|.non,.str _=>true|.str _,.non=>true
  |.int _,.int _=>true|.bl _,.bl _=>true|.str _,.str _=>true|.byt _,.byt _=>true
  |.int _,.str _=>true|.str _,.int _=>true|.bl _,.str _=>true|.str _,.bl _=>true
  |_,_=>false
noncomputable def rEq:R2:=fun x y H Q=>scal x y=true/\Q (.bl (decide (x=y))) H
noncomputable def rNe:R2:=fun x y H Q=>scal x y=true/\Q (.bl (!decide (x=y))) H

theorem dec_int{i j:Int}:decide (V.int i=V.int j)=(i==j):=by
  rw[bS];simp
theorem dec_bl{i j:Bool}:decide (V.bl i=V.bl j)=(i==j):=by
  rw[bS];simp
theorem dec_str{i j:Str}:decide (V.str i=V.str j)=(i==j):=by
  rw[bS];simp
theorem dec_byt{i j:Array UInt8}:decide (V.byt i=V.byt j)=(i.toList==j.toList):=by
  rw[bS];cases i;cases j;simp

variable{op op':CmpOp}
section
variable {X:Cx}{a b c:Expr}{ta tb tc:TE}{pos:Pos}
theorem fin_bl{σ:St}{Q:VK}{k k':Bool}(I:Inv X pQ σ H s)(q:Q (.bl k) H)(e:k=k'):EP X pQ σ Q (.bool k') s:=by
  subst e;exact⟨.bl k,H,I,rfl,q⟩
theorem op_eq:OpR X (compareOp .Eq) rEq:=by
  intro pQ s σ H x y v u Q I rx ry h;obtain⟨hs,q⟩:=h;cases x with
  |non=>
    cases rx;cases y with
    |non=>cases ry;exact PySem.EqNone.eq_none_none (fin_bl I q (by simp))
    |bl j=>cases ry;exact PySem.EqNone.eq_none_bool (fin_bl I q (by simp))
    |int j=>obtain⟨t',rfl⟩:=ry;exact PySem.EqNone.eq_none_int (fin_bl I q (by simp))
    |str j=>obtain⟨t',rfl⟩:=ry;exact PySem.EqNone.eq_none_str (fin_bl I q (by simp))
    |_=>exact absurd (show false=true from hs) Bf
  |bl i=>
    cases rx;cases y with
    |non=>cases ry;exact PySem.EqNone.eq_bool_none (fin_bl I q (by simp))
    |bl j=>cases ry;exact eq_bool (fin_bl I q dec_bl)
    |str j=>obtain⟨t',rfl⟩:=ry;exact PySem.EqMixed.eq_bool_str (fin_bl I q (by simp))
    |_=>exact absurd (show false=true from hs) Bf
  |int i=>
    obtain⟨t,rfl⟩:=rx;cases y with
    |non=>cases ry;exact PySem.EqNone.eq_int_none (fin_bl I q (by simp))
    |int j=>obtain⟨t',rfl⟩:=ry;exact eq_int (fin_bl I q dec_int)
    |str j=>obtain⟨t',rfl⟩:=ry;exact PySem.EqMixed.eq_int_str (fin_bl I q (by simp))
    |_=>exact absurd (show false=true from hs) Bf
  |str i=>
    obtain⟨t,rfl⟩:=rx;cases y with
    |non=>cases ry;exact PySem.EqNone.eq_str_none (fin_bl I q (by simp))
    |bl j=>cases ry;exact PySem.EqMixed.eq_str_bool (fin_bl I q (by simp))
    |int j=>obtain⟨t',rfl⟩:=ry;exact PySem.EqMixed.eq_str_int (fin_bl I q (by simp))
    |str j=>obtain⟨t',rfl⟩:=ry;exact eq_str (fin_bl I q dec_str)
    |_=>exact absurd (show false=true from hs) Bf
  |byt i=>
    obtain⟨t,rfl⟩:=rx;cases y with
    |byt j=>obtain⟨t',rfl⟩:=ry;exact PySem.W.eq_bytes (fin_bl I q dec_byt)
    |_=>exact absurd (show false=true from hs) Bf
  |_=>cases y<;>exact absurd (show false=true from hs) Bf
theorem op_ne:OpR X (compareOp .NotEq) rNe:=by
  intro pQ s σ H x y v u Q I rx ry h;obtain⟨hs,q⟩:=h;cases x with
  |non=>
    cases rx;cases y with
    |non=>cases ry;exact PySem.EqNone.ne_none_none (fin_bl I q (by simp))
    |bl j=>cases ry;exact PySem.EqNone.ne_none_bool (fin_bl I q (by simp))
    |int j=>obtain⟨t',rfl⟩:=ry;exact PySem.EqNone.ne_none_int (fin_bl I q (by simp))
    |str j=>obtain⟨t',rfl⟩:=ry;exact PySem.EqNone.ne_none_str (fin_bl I q (by simp))
    |_=>exact absurd (show false=true from hs) Bf
  |bl i=>
    cases rx;cases y with
    |non=>cases ry;exact PySem.EqNone.ne_bool_none (fin_bl I q (by simp))
    |bl j=>cases ry;exact ne_bool (fin_bl I q (congrArg not dec_bl))
    |str j=>obtain⟨t',rfl⟩:=ry;exact PySem.EqMixed.ne_bool_str (fin_bl I q (by simp))
    |_=>exact absurd (show false=true from hs) Bf
  |int i=>
    obtain⟨t,rfl⟩:=rx;cases y with
    |non=>cases ry;exact PySem.EqNone.ne_int_none (fin_bl I q (by simp))
    |int j=>obtain⟨t',rfl⟩:=ry;exact ne_int (fin_bl I q (congrArg not dec_int))
    |str j=>obtain⟨t',rfl⟩:=ry;exact PySem.EqMixed.ne_int_str (fin_bl I q (by simp))
    |_=>exact absurd (show false=true from hs) Bf
  |str i=>
    obtain⟨t,rfl⟩:=rx;cases y with
    |non=>cases ry;exact PySem.EqNone.ne_str_none (fin_bl I q (by simp))
    |bl j=>cases ry;exact PySem.EqMixed.ne_str_bool (fin_bl I q (by simp))
    |int j=>obtain⟨t',rfl⟩:=ry;exact PySem.EqMixed.ne_str_int (fin_bl I q (by simp))
    |str j=>obtain⟨t',rfl⟩:=ry;exact ne_str (fin_bl I q (congrArg not dec_str))
    |_=>exact absurd (show false=true from hs) Bf
  |byt i=>
    obtain⟨t,rfl⟩:=rx;cases y with
    |byt j=>obtain⟨t',rfl⟩:=ry;exact PySem.W.ne_bytes (fin_bl I q (congrArg not dec_byt))
    |_=>exact absurd (show false=true from hs) Bf
  |_=>cases y<;>exact absurd (show false=true from hs) Bf

theorem op_lt:OpR X (compareOp .Lt) (rI0 fun i j=>.bl (decide (i < j))):=opB0 fun _ _ _ _ _ _ _ q=>lt_int q
theorem op_le:OpR X (compareOp .LtE) (rI0 fun i j=>.bl (decide (i<=j))):=opB0 fun _ _ _ _ _ _ _ q=>le_int q
theorem op_gt:OpR X (compareOp .Gt) (rI0 fun i j=>.bl (decide (j < i))):=opB0 fun _ _ _ _ _ _ _ q=>gt_int q
theorem op_ge:OpR X (compareOp .GtE) (rI0 fun i j=>.bl (decide (j<=i))):=opB0 fun _ _ _ _ _ _ _ q=>ge_int q
theorem op_in_str:OpR X (compareOp .In) (fun x y H Q=>∃ i j,x=.str i/\y=.str j/\Q (.bl (!(Builtin.Str.occurrences j i 0 j.length 1).isEmpty)) H):=by
  intro pQ s σ H x y v u Q I rx ry h;obtain⟨i,j,rfl,rfl,q⟩:=h;obtain⟨t,rfl⟩:=rx;obtain⟨t',rfl⟩:=ry;exact in_str (fin_bl I q rfl)

theorem op_isN:OpR X (compareOp .Is) (fun x y H Q=>y=.non/\Q (.bl (decide (x=.non))) H):=by
  intro pQ s σ H x y v u Q I rx ry h;obtain⟨rfl,q⟩:=h;cases ry;refine is_none_gen (fin_bl I q ?_);cases x<;>first
    | (cases rx;rfl)
    | (obtain⟨t,rfl⟩:=rx;rfl)
theorem op_notN:OpR X (compareOp .IsNot) (fun x y H Q=>y=.non/\Q (.bl (!decide (x=.non))) H):=by
  intro pQ s σ H x y v u Q I rx ry h;obtain⟨rfl,q⟩:=h;cases ry;refine isnot_none_gen (fin_bl I q ?_);cases x<;>first
    | (cases rx;rfl)
    | (obtain⟨t,rfl⟩:=rx;rfl)



theorem pe_cmpR{r:R2}(ho:OpR X (compareOp op) r)(ha:PE X a ta)(hb:PE X b tb)(hm:behindInMarks op b=false):PE X (.Compare a [op] [b] pos) (tOp r ta tb):=by
  intro pQ s σ H Q I h;exact wpAny_Compare1 (binT ha hb I h fun v u s2 x y H2 I2 rx ry q=>ho pQ s2 σ H2 x y v u Q I2 rx ry q) hm
noncomputable def tTest(t:TE):TT:=fun σ H Q=>t σ H fun x H'=>∃ k,x=.bl k/\Q k H'
theorem pt_cmpR{r:R2}(ho:OpR X (compareOp op) r)(ha:PE X a ta)(hb:PE X b tb)(hm:behindInMarks op b=false):PT X (.Compare a [op] [b] pos) (tTest (tOp r ta tb)):=by
  intro pQ s σ H Q I h;refine wpAny_isTrue_Compare1 (thn (ha pQ s σ H _ I h) fun v s1 ⟨x,H1,I1,r1,q1⟩=>thn (hb pQ s1 σ H1 _ I1 q1) fun u s2 ⟨y,H2,I2,r2,q2⟩=>
    thn (ho pQ s2 σ H2 x y v u _ I2 r1 r2 q2) fun c s3 ⟨z,H3,I3,r3,k,e,q3⟩=>?_) hm
  subst e;cases r3;exact wpAny_truthy_bool ⟨H3,I3,q3⟩
noncomputable def tChain(r r':R2)(ta tb tc:TE):TE:=fun σ H Q=>ta σ H fun x H1=>tb σ H1 fun y H2=>r x y H2 fun z H3=>∃ k,z=.bl k /\
  (if k=true then tc σ H3 fun w' H4=>r' y w' H4 Q else Q (.bl false) H3)
theorem pe_chain{r r':R2}(ho:OpR X (compareOp op) r)(ho':OpR X (compareOp op') r')(ha:PE X a ta)(hb:PE X b tb)(hc:PE X c tc)(hm:lastMarks [op,op'] [b,c]=false:=by with_unfolding_all rfl):PE X (.Compare a [op,op'] [b,c] pos) (tChain r r' ta tb tc):=by
  intro pQ s σ H Q I h;refine Compare_chain (thn (ha pQ s σ H _ I h) fun v s1 ⟨x,H1,I1,r1,q1⟩=>chain_link (thn (hb pQ s1 σ H1 _ I1 q1) fun u s2 ⟨y,H2,I2,r2,q2⟩=>
    thn (ho pQ s2 σ H2 x y v u _ I2 r1 r2 q2) fun d s3 ⟨z,H3,I3,r3,k,e,q3⟩=>?_)) hm
  subst e;cases r3;refine wpAny_truthy_bool ?_;cases k with
  |false=>exact ite_ff ⟨.bl false,H3,I3,rfl,q3⟩
  |true=>exact ite_tt (chain_last (thn (hc pQ s3 σ H3 _ I3 q3) fun w' s4 ⟨z',H4,I4,r4,q4⟩=>ho' pQ s4 σ H4 y z' u w' Q I4 r2 r4 q4))
theorem pt_chain{r r':R2}(ho:OpR X (compareOp op) r)(ho':OpR X (compareOp op') r')(ha:PE X a ta)(hb:PE X b tb)(hc:PE X c tc)(hm:lastMarks [op,op'] [b,c]=false:=by with_unfolding_all rfl):PT X (.Compare a [op,op'] [b,c] pos) (tTest (tChain r r' ta tb tc)):=by
  intro pQ s σ H Q I h;refine isTrue_chain (thn (ha pQ s σ H _ I h) fun v s1 ⟨x,H1,I1,r1,q1⟩=>test_link (thn (hb pQ s1 σ H1 _ I1 q1) fun u s2 ⟨y,H2,I2,r2,q2⟩=>
    thn (ho pQ s2 σ H2 x y v u _ I2 r1 r2 q2) fun d s3 ⟨z,H3,I3,r3,k,e,q3⟩=>?_)) hm
  subst e;cases r3;refine wpAny_truthy_bool ?_;cases k with
  |false=>
    obtain⟨k',e',q'⟩:=q3;cases e';exact ite_ff ⟨H3,I3,q'⟩
  |true=>
    refine ite_tt (test_last (thn (hc pQ s3 σ H3 _ I3 q3) fun w' s4 ⟨z',H4,I4,r4,q4⟩=>thn (ho' pQ s4 σ H4 y z' u w' _ I4 r2 r4 q4) fun d' s5 ⟨z2,H5,I5,r5,k2,e2,q5⟩=>?_))
    subst e2;cases r5;exact wpAny_truthy_bool ⟨H5,I5,q5⟩

theorem line63:(sizeLine:Nat) < 2 ^ 63:=by rw[sizeLine_eq];decide

theorem op_add_str:OpR X (binaryOp .Add) (fun x y H Q=>∃ i j,x=.str i/\y=.str j/\i.length+j.length<=sizeLine/\Q (.str (i++j)) H):=by
  intro pQ s σ H x y v u Q I rx ry h;obtain⟨i,j,rfl,rfl,hz,q⟩:=h;obtain⟨t,rfl⟩:=rx;obtain⟨t',rfl⟩:=ry;exact add_str (fun t' tk=>⟨.str (i++j),H,I.tok _,⟨_,rfl⟩,q⟩) hz


theorem vals1{x:V}(r:Vals [x] us):∃ u,us=[u]/\RelV x u:=by
  cases r with
  |cons r1 r2=>cases r2;exact⟨_,rfl,r1⟩
theorem vals2{x:V}(r:Vals [x,y] us):∃ u w',us=[u,w']/\RelV x u/\RelV y w':=by
  cases r with
  |cons r1 r2=>
    cases r2 with
    |cons r3 r4=>cases r4;exact⟨_,_,rfl,r1,r3⟩
theorem call_max2(hc:X.calm=true):CallR X (.builtin "max") (fun xs H Q=>∃ i j,xs=[.int i,.int j]/\Q (.int (if j > i then j else i)) H):=by
  intro pQ s σ H xs us Q I r h;obtain⟨i,j,rfl,q⟩:=h;obtain⟨u,w',rfl,⟨t,rfl⟩,⟨t',rfl⟩⟩:=vals2 r;refine max_two_ints (I.ok.hd hc) fun h' tk k=>⟨_,H,I.kept k,?_,q⟩
  by_cases hj:j > i
  · rw[if_pos hj,if_pos hj];exact⟨_,rfl⟩
  · rw[if_neg hj,if_neg hj];exact⟨_,rfl⟩
theorem call_min2(hc:X.calm=true):CallR X (.builtin "min") (fun xs H Q=>∃ i j,xs=[.int i,.int j]/\Q (.int (if j < i then j else i)) H):=by
  intro pQ s σ H xs us Q I r h;obtain⟨i,j,rfl,q⟩:=h;obtain⟨u,w',rfl,⟨t,rfl⟩,⟨t',rfl⟩⟩:=vals2 r;refine min_two_ints (I.ok.hd hc) fun h' tk k=>⟨_,H,I.kept k,?_,q⟩
  by_cases hj:j < i
  · rw[if_pos hj,if_pos hj];exact⟨_,rfl⟩
  · rw[if_neg hj,if_neg hj];exact⟨_,rfl⟩
theorem call_int1:CallR X (.type "int") (fun xs H Q=>(∃ i,xs=[.int i]/\Q (.int i) H)\/∃ k,xs=[.bl k]/\Q (.int (if k then 1 else 0)) H):=by
  intro pQ s σ H xs us Q I r h;rcases h with⟨i,rfl,q⟩|⟨k,rfl,q⟩
  · obtain⟨u,rfl,t,rfl⟩:=vals1 r
    exact call_int_int ⟨.int i,H,I,⟨_,rfl⟩,q⟩
  · obtain⟨u,rfl,r1⟩:=vals1 r
    cases r1;exact call_int_bool ⟨.int (if k then 1 else 0),H,I.tok _,⟨_,rfl⟩,q⟩
def LenV(K:Fg)(x:V)(H:Hp)(n:Nat):Prop:=
  match x with
  |.str y=>y.length<=sizeLine/\n=y.length
  |.byt y=>y.size<=sizeLine/\n=y.size
  |.ref p=>(∃ xs,SqL K H p xs/\n=xs.length)\/∃ xs,SqT K H p xs/\n=xs.length
  |_=>False
theorem call_len:CallR X (.builtin "len") (fun xs H Q=>∃ x n,xs=[x]/\LenV X.K x H n/\Q (.int n) H):=by
  intro pQ s σ H xs us Q I r h;obtain⟨x,n,rfl,e,q⟩:=h;obtain⟨u,rfl,rx⟩:=vals1 r;have hl:=line63;have hs:sizeLine=16777216:=sizeLine_eq;cases x with
  |str y=>
    obtain⟨t,rfl⟩:=rx;obtain⟨hy,e'⟩:y.length<=sizeLine/\n=y.length:=e;subst e';exact len_str (by omega) ⟨.int _,H,I.tok _,⟨_,rfl⟩,q⟩
  |byt y=>
    obtain⟨t,rfl⟩:=rx;obtain⟨hy,e'⟩:y.size<=sizeLine/\n=y.size:=e;subst e';exact PySem.W.len_bytes (by omega) ⟨.int _,H,I.tok _,⟨_,rfl⟩,q⟩
  |ref p=>
    cases rx;have e':(∃ xs,SqL X.K H p xs/\n=xs.length)\/∃ xs,SqT X.K H p xs/\n=xs.length:=e;rcases e' with⟨xs,hx,e'⟩|⟨xs,hx,e'⟩
    · subst e'
      obtain⟨its,r',pl,hz⟩:=I.list hx;have hlen:=r'.length;exact Calls.call_len_list pl.isList (by simp only[aI];omega) ⟨.int xs.length,H,I.tok _,⟨_,by simp only[aI];rw[hlen]⟩,q⟩
    · subst e'
      obtain⟨its,r',pl,hz⟩:=I.tuple hx;have hlen:=r'.length;exact len_tuple pl (by simp only[aI];omega) ⟨.int xs.length,H,I.tok _,⟨_,by simp only[aI];rw[hlen]⟩,q⟩
  |_=>exact(show False from e).elim
end
structure ObjM(h:Heap)(x dx C:Addr)(mA:Str->Option Value):Prop where
  obj:h.get? x=some (PySem.W.instObj C dx)
  ns:h.Ns1 dx mA
  ne:dx≠x

variable{mA:Str->Ot vL}
theorem lookIn_ns{dx:Ad}(n:h.Ns1 dx mA):∃ od,h.get? dx=some od/\∀ name,PySem.W.lookIn name od=some (mA name):=by
  obtain⟨o,es,ep,ho,hd,hk,_,hm⟩:=n;refine⟨o,ho,fun name=>?_⟩
  have e:=hm name;unfold nsFind findBy at e;rw[<-Array.find?_toList]at e;unfold PySem.W.lookIn;rw[hd];dsimp only;split
  · rename_i y q
    rw[q]at e;exact congrArg some e
  · rename_i q
    rw[q]at e;have a:es.toList.any (·.refKey)=false:=by
      rw[List.any_eq_false];intro y hy;obtain⟨z,t,hkey⟩:=hk y (Array.mem_toList_iff.mp hy);simp[DictEntry.refKey,hkey]
    have a':¬es.toList.any (·.refKey)=true:=by rw[a];exact Bf
    rw[if_neg a'];exact congrArg some e

variable{C:Ad}
theorem ObjM.look{x dx:Ad}(I:ObjM h x dx C mA):∃ od,PySem.W.InstAt h x (PySem.W.instObj C dx) C (some od)/\∀ name,PySem.W.lookIn name od=some (mA name):=
  let ⟨od,ho,hl⟩:=lookIn_ns I.ns
  ⟨od,⟨I.obj,rfl,rfl,ho⟩,hl⟩

variable{pl:Sem Bool}{kw:Li (Str×vL)}
section
variable {prog:Program}{w:World}{A:Around}{E:vL->Sd->Prop}{s:Sd}{K:Fg}{x dx C f:Ad}{mA:Str->Ot vL}{name:Str}{v:vL}

theorem get_map{expr:Bool}(X:K.In s.heap)(I:ObjM s.heap x dx C mA)(hg:PySem.W.plainGet K C name=true)(hh:PySem.W.hasDictIn K C=true)(ha:PySem.W.findIn K (.ref C) name=some none)(hv:mA name=some v)(hv':PySem.W.handedIn v=true)(h:Q v { s with toks:=s.toks+1 }) :
    wpAny (model prog w) A (getAttr (.ref x) name expr) Q E s:=by
  obtain⟨od,J,hl⟩:=I.look;exact PySem.W.get_value X J (PySem.W.plainGet_of hg).1 (PySem.W.findObj_own hh ha rfl (by rw[hl,hv])) hv' h


theorem get_meth{Q:vL×Li vL->Sd->Prop}(X:K.In s.heap)(I:ObjM s.heap x dx C mA)(hg:PySem.W.plainGet K C name=true)(hf:PySem.W.findIn K (.ref C) name=some (some (.ref f)))(ht:PySem.W.isFn K (.ref f)=true)(hv:mA name=none)(h:Q (.ref f,[.ref x]) s) :
    wpAny (model prog w) A (getMethod (.ref x) name pl) Q E s:=by
  obtain⟨od,J,hl⟩:=I.look;exact PySem.W.method_fn X J (PySem.W.plainGet_of hg).1 (PySem.W.plainGet_of hg).2 hf (beq_iff_eq.mp ht) (by show(PySem.W.lookIn name od).map (·.isSome)=some false;rw[hl,hv];rfl) h

theorem set_map{ns:Li Str}{Q:Unit->Sd->Prop}(X:K.In s.heap)(I:ObjM s.heap x dx C mA)(hs:PySem.W.findIn K (.ref C) "__setattr__"=some (some (.builtin "object.__setattr__")))(hp:PySem.W.plainOver K C=true)(ht:PySem.W.takerIn K C name=some none)(hh:PySem.W.hasDictIn K C=true)(hw:PySem.Within mA ns)(hsz:ns.length<=sizeLine)(h:∀ h',ObjM h' x dx C (fun y=>if y=name then some v else mA y)->Heap.SameBut dx s.heap h'->Q () { s with heap:=h',toks:=s.toks+2 }) :
    wpAny (model prog w) A (setAttr (.ref x) name v) Q E s:=by
  obtain⟨od,J,hl⟩:=I.look;refine PySem.W.set_plain X J hs (PySem.W.osa_open (s:={ s with toks:=s.toks+1 }) (r:=none) X J hp ht fun b=>?_)
  obtain⟨cd,hc,hd'⟩:=PySem.W.any_some hh;have hx:s.heap.get? x=some ⟨.ref C,some dx,.plain,#[]⟩:=I.obj;refine aA (aE (aA (aA (wpAny_loadPart hx (aA (PySem.W.Looks.here (s:={ s with toks:=s.toks+1 }) (PySem.W.looks_clsIn X hc) ?_))))))
  rw[hd'];refine aE (a:=some dx) (aA (aE (aA ?_)));refine wpAny_nsSet1 (s:={ s with toks:=s.toks+1 }) I.ns fun h' hn2 hs2=>?_
  obtain⟨oD,esD,epD,hoD,hdD,hcD⟩:=hn2.count (PySem.Within.cons name v hw);refine aA (wpAny_lookBehind hoD (by rw[hdD];exact pastItsLine_dict (aF hcD (by rw[aY];omega))) ?_)
  exact aE (h _ ⟨(hs2.2 _ (Ne.symm I.ne)).trans I.obj,hn2,I.ne⟩ hs2)

theorem make_map{R:Result->Sd->Prop}{vs:Li vL}(X:K.In s.heap)(hm:PySem.W.makesIn K C=true)(hi:PySem.W.findIn K (.ref C) "__init__"=some (some (.ref f)))(hf:PySem.W.typeIn K (.ref f)=some (.type "function"))(h:codeAny (model prog w) (A.under (.builtin "type.__call__" ⟨.ref C :: vs,kw⟩)) (.call (.ref f) ⟨.ref (s.heap.objs.size+1) :: vs,kw⟩) (PySem.W.InitBack (s.heap.objs.size+1) R)
      { s with heap:=(s.heap.push PySem.W.emptyDict).push (PySem.W.instObj C s.heap.objs.size) }) :
    codeAny (model prog w) A (.call (.ref C) ⟨vs,kw⟩) R s:=by
  obtain⟨hh,g,d,t,os⟩:=s;exact PySem.W.make_core (PySem.W.makes_of X hm) (PySem.W.looks_findIn X hi) (fun self=>PySem.W.bind_fn X self hf) (.inl rfl) h
end

noncomputable def putF(f:Str)(v:V):Li (Str×V)->Li (Str×V)
  |[]=>[(f,v)]
  | (g,x) :: r=>if g=f then (g,v) :: r else (g,x) :: putF f v r
theorem lookup_putF(f g:Str)(v:V):∀ fs:Li (Str×V),(putF f v fs).lookup g=if g=f then some v else fs.lookup g
  |[]=>by
    show List.lookup g [(f,v)]=_;by_cases h:g=f
    · have hb:(g==f)=true:=beq_iff_eq.mpr h
      simp only[List.lookup,hb,if_pos h]
    · have hb:(g==f)=false:=bV.mpr h
      simp only[List.lookup,hb,if_neg h]
  | (k,x) :: r=>by
    have ih:=lookup_putF f g v r;rw[show putF f v ((k,x) :: r)=(if k=f then (k,v) :: r else (k,x) :: putF f v r) from rfl]
    by_cases hk:k=f
    · rw[if_pos hk]
      by_cases h:g=k
      · have hb:(g==k)=true:=beq_iff_eq.mpr h
        simp only[List.lookup,hb,if_pos (h.trans hk)]
      · have hb:(g==k)=false:=bV.mpr h
        simp only[List.lookup,hb,if_neg (fun e:g=f=>h (e.trans hk.symm))]
    · rw[if_neg hk]
      by_cases h:g=k
      · have hb:(g==k)=true:=beq_iff_eq.mpr h
        simp only[List.lookup,hb,if_neg (fun e:g=f=>hk (h.symm.trans e))]
      · have hb:(g==k)=false:=bV.mpr h
        simp only[List.lookup,hb];exact ih
theorem keys_putF(f:Str)(v:V):∀ fs:Li (Str×V),f∈(putF f v fs).map (·.1)/\∀ g,g∈fs.map (·.1)->g∈(putF f v fs).map (·.1)
  |[]=>⟨by simp[putF],fun g h=>by simp at h⟩
  | (k,x) :: r=>by
    obtain⟨i1,i2⟩:=keys_putF f v r;rw[show putF f v ((k,x) :: r)=(if k=f then (k,v) :: r else (k,x) :: putF f v r) from rfl]
    by_cases hk:k=f
    · rw[if_pos hk]
      subst hk;exact⟨by simp,fun g h=>by simpa using h⟩
    · rw[if_neg hk]
      refine⟨?_,fun g h=>?_⟩
      · rw[aM]
        exact Lm _ i1
      · rw[aM]at h ⊢
        rcases aJ.mp h with e|e
        · exact aJ.mpr (.inl e)
        · exact Lm _ (i2 g e)
theorem length_putF(f:Str)(v:V):∀ fs:Li (Str×V),(putF f v fs).length<=fs.length+1
  |[]=>by simp[putF]
  | (k,x) :: r=>by
    have ih:=length_putF f v r;rw[show putF f v ((k,x) :: r)=(if k=f then (k,v) :: r else (k,x) :: putF f v r) from rfl]
    by_cases hk:k=f
    · rw[if_pos hk,aY,aY];omega
    · rw[if_neg hk,aY,aY];omega

theorem RelO.some_of{v:V}{o:Ot vL}(r:RelO (some v) o):∃ u,o=some u/\RelV v u:=by
  cases o with
  |none=>exact(show False from r).elim
  |some u=>exact⟨u,rfl,r⟩
theorem RelO.none_of{o:Ot vL}(r:RelO none o):o=none:=by
  cases o with
  |none=>rfl
  |some u=>exact(show False from r).elim
theorem handed_of{v:V}{u:vL}(r:RelV v u):PySem.W.handedIn u=true:=by
  cases v with
  |non=>cases (show u=Value.none from r);rfl
  |bl b=>cases (show u=Value.bool b from r);rfl
  |int i=>obtain⟨t,e⟩:=(show ∃ t,u=Value.int i t from r);cases e;rfl
  |str x=>obtain⟨t,e⟩:=(show ∃ t,u=Value.str x t from r);cases e;rfl
  |byt b=>obtain⟨t,e⟩:=(show ∃ t,u=Value.bytes b t from r);cases e;rfl
  |flt b=>obtain⟨t,e⟩:=(show ∃ t,u=Value.float b t from r);cases e;rfl
  |ref a=>cases (show u=Value.ref a from r);rfl
  |ty n=>cases (show u=Value.type n from r);rfl

section
variable {P:Program}{w:World}{H H':Hp}{h h':Heap}{a C dx:Ad}{fs fs':Li (Str×V)}
theorem ins_get(hok:HOk P w H h)(e:H a=some (.ins C dx fs)):∃ mA,ObjM h a dx C mA/\(∀ f,RelO (fs.lookup f) (mA f))/\PySem.Within mA (fs.map (·.1))/\fs.length<=1000/\H dx=some (.own a):=by
  obtain⟨d,z,ne,ob,mA,n,r,q⟩:=(show ObjOk P w H h a (.ins C dx fs) from hok a _ e);exact⟨mA,⟨ob,n,ne⟩,r,q,z,d⟩
end

structure Cls(K:Fg)(C:Addr):Prop where
  pg:PySem.W.plainGet K C Str.empty=true
  hd:PySem.W.hasDictIn K C=true
  po:PySem.W.plainOver K C=true
  sa:PySem.W.findIn K (.ref C) "__setattr__"=some (some (.builtin "object.__setattr__"))
theorem Cls.get(c:Cls K C)(f:Str):PySem.W.plainGet K C f=true:=c.pg
def NoAttr(K:Fg)(C:Ad)(f:Str):Prop:=PySem.W.findIn K (.ref C) f=some none
theorem NoAttr.taker{f:Str}(n:NoAttr K C f):PySem.W.takerIn K C f=some none:=by
  unfold PySem.W.takerIn;rw[show PySem.W.findIn K (.ref C) f=some none from n];rfl
structure Con(K:Fg)(C:Addr)(f:Str)(v:V)(u:Value):Prop where
  at_:PySem.W.findIn K (.ref C) f=some (some u)
  rel:RelV v u
  get:PySem.W.specialIn K u "__get__"=some none
  cp:PySem.W.copiedNames.contains f=false
structure Meth(K:Fg)(C:Addr)(m:Str)(f:Addr):Prop where
  at_:PySem.W.findIn K (.ref C) m=some (some (.ref f))
  fn:PySem.W.isFn K (.ref f)=true
  kp:PySem.W.keepIn K (.ref f)=true

section
variable {X:Cx}{pQ:Li (Ad×Obj)}{σ:St}{H:Hp}{s:Sd}{a C dx:Ad}{fs:Li (Str×V)}{f:Str}{v:V}{A:Around}{E:vL->Sd->Prop}

theorem getattr_ok{b:Bool}(I:Inv X pQ σ H s)(e:H a=some (.ins C dx fs))(c:Cls X.K C)(n:NoAttr X.K C f)(l:fs.lookup f=some v)(h:∀ u s',Inv X pQ σ H s'->RelV v u->Q u s'):wpAny (model X.prog X.w) A (getAttr (.ref a) f b) Q E s:=by
  obtain⟨mA,O,r,_,_,_⟩:=ins_get I.hok e;obtain⟨u,hu,ru⟩:=RelO.some_of (v:=v) (o:=mA f) (by rw[<-l];exact r f)
  exact get_map I.kIn O (c.get f) c.hd n hu (handed_of ru) (h u _ (I.tok _) ru)


theorem getmeth_ok{m:Str}{g:Ad}{Q:vL×Li vL->Sd->Prop}(I:Inv X pQ σ H s)(e:H a=some (.ins C dx fs))(c:Cls X.K C)(k:Meth X.K C m g)(l:fs.lookup m=none)(h:Q (.ref g,[.ref a]) s):wpAny (model X.prog X.w) A (getMethod (.ref a) m pl) Q E s:=by
  obtain⟨mA,O,r,_,_,_⟩:=ins_get I.hok e;have hn:mA m=none:=RelO.none_of (by rw[<-l];exact r m)
  exact get_meth I.kIn O (c.get m) k.at_ k.fn hn h

theorem setattr_ok{u:vL}{Q:Unit->Sd->Prop}(I:Inv X pQ σ H s)(e:H a=some (.ins C dx fs))(c:Cls X.K C)(n:NoAttr X.K C f)(hl:fs.length < 1000)(ry:RelV y u)(h:∀ s',Inv X pQ σ (upd H a (.ins C dx (putF f y fs))) s'->Q () s'):wpAny (model X.prog X.w) A (setAttr (.ref a) f u) Q E s:=by
  obtain⟨mA,O,r,wi,_,ho⟩:=ins_get I.hok e;have hz:(fs.map (·.1)).length<=sizeLine:=by rw[aD,sizeLine_eq];omega
  refine set_map I.kIn O c.sa c.po n.taker c.hd wi hz fun h' O' sb=>h _ ?_
  have hd:∃ o,h'.get? dx=some o:=let ⟨o,_,_,e',_⟩:=O'.ns;⟨o,e'⟩
  refine I.write (x:=a) (e:=dx) (by rw[e];exact True.intro) (.inr ho) (fun b q hb z=>(sb.2 b hb).trans z) hd ?_
  refine⟨by rw[upd_ne O.ne];exact ho,?_,O.ne,O'.obj,_,O'.ns,fun g=>?_,fun g hg=>?_⟩
  · have:=length_putF f y fs;omega
  · show RelO ((putF f y fs).lookup g) (if g=f then some u else mA g)
    rw[lookup_putF];by_cases q:g=f
    · rw[if_pos q,if_pos q];exact ry
    · rw[if_neg q,if_neg q];exact r g
  · by_cases q:g=f
    · rw[q];exact(keys_putF f y fs).1
    · refine(keys_putF f y fs).2 g (wi g fun z=>hg ?_)
      show(if g=f then some u else mA g)=none
      rw[if_neg q];exact z

theorem Inv.made(I:Inv X pQ σ H s):Inv X pQ σ (upd (upd H s.heap.objs.size (.own (s.heap.objs.size+1))) (s.heap.objs.size+1) (.ins C s.heap.objs.size []))
    { s with heap:=(s.heap.push PySem.W.emptyDict).push (PySem.W.instObj C s.heap.objs.size) }:=by
  have e1:(s.heap.push PySem.W.emptyDict).get? s.heap.objs.size=some PySem.W.emptyDict:=aV s.heap rfl;have e2:((s.heap.push PySem.W.emptyDict).push (PySem.W.instObj C s.heap.objs.size)).get? (s.heap.objs.size+1)=some (PySem.W.instObj C s.heap.objs.size):=by
    have:=aV (s.heap.push PySem.W.emptyDict) (o:=PySem.W.instObj C s.heap.objs.size) rfl
    rwa [Heap.size_push]at this
  have e3:(s.heap.push PySem.W.emptyDict).Ns s.heap.objs.size (fun _=>none):=⟨PySem.W.emptyDict,#[],_,e1,rfl,(fun e he=>absurd he (by simp)),fun _=>rfl⟩
  have I1:=I.laid (a:=s.heap.objs.size) (o:=.own (s.heap.objs.size+1)) (h':=s.heap.push PySem.W.emptyDict) (t':=s.toks) (fun b u q=>aL _ q) (aB _) ⟨_,e1⟩
  refine I1.laid (a:=s.heap.objs.size+1) (o:=.ins C s.heap.objs.size []) (t':=s.toks) (fun b u q=>aL _ q) (cP (Heap.size_push _ _)) ?_
  have ne:s.heap.objs.size≠s.heap.objs.size+1:=aX (Nat.lt_succ_self _);refine⟨by rw[upd_ne ne,upd_same],bX _,ne,e2,fun _=>none,(Heap.Ns1.of_empty e3).at fun o q=>aL _ q,fun _=>True.intro,fun y hy=>absurd rfl hy⟩

theorem attr_of{prog:Program}{env:Env}{e:Expr}{pos:Pos}(hb:attributeBase e f env (eval e env)=eval e env)(h:wpAny (model prog w) A (eval e env) (fun o s₁=>wpAny (model prog w) A (getAttr o f true) Q E s₁) E s):wpAny (model prog w) A (eval (.Attribute e f pos) env) Q E s:=
  Attribute_any_ h (by rw[arm_eval_Attribute,hb])
end

noncomputable def tFld(K:Fg)(ta:TE)(f:Str):TE:=fun σ H Q=>ta σ H fun x H1=>∃ a C dx fs v,x=.ref a/\H1 a=some (.ins C dx fs)/\Cls K C/\NoAttr K C f/\fs.lookup f=some v/\Q v H1
noncomputable def sFld(K:Fg)(ta tv:TE)(f:Str):TS:=fun D σ H=>tv σ H fun y H1=>ta σ H1 fun x H2=>∃ a C dx fs,x=.ref a/\H2 a=some (.ins C dx fs)/\Cls K C/\NoAttr K C f/\fs.length < 1000 /\
  D.nx σ (upd H2 a (.ins C dx (putF f y fs)))

section
variable {X:Cx}{o e value:Expr}{f:Str}{pos pos' tpos:Pos}{ta tv:TE}
theorem pe_fld(he:PE X e ta)(hb:attributeBase e f X.env (eval e X.env)=eval e X.env):PE X (.Attribute e f pos) (tFld X.K ta f):=by
  intro pQ s σ H Q I h;refine attr_of hb (thn (he pQ s σ H _ I h) fun u s1 ⟨x,H1,I1,rx,a,C,dx,fs,v,ex,ea,c,n,l,q⟩=>?_)
  subst ex;obtain rfl:u=Value.ref a:=rx;exact getattr_ok I1 ea c n l fun u' s2 I2 ru=>⟨v,H1,I2,ru,q⟩
theorem ps_fld(ha:PE X o ta)(hv:PE X value tv)(hs:swapsWith value (some (.Attribute o f pos')) pos.line X.env=pure false):PS X (.Assign [.Attribute o f pos'] value pos) (sFld X.K ta tv f):=by
  intro pQ s σ H D I h;refine plainObj_wpAny_Assign_Attribute (thn (hv pQ s σ H _ I h) fun u s1 ⟨y,H1,I1,ry,q⟩=>thn (ha pQ s1 σ H1 _ I1 q) fun ov s2 ⟨x,H2,I2,rx,a,C,dx,fs,ex,ea,c,n,l,q2⟩=>?_) hs
  subst ex;obtain rfl:ov=Value.ref a:=rx;exact setattr_ok I2 ea c n l ry fun s3 I3=>⟨σ,_,I3,q2⟩

end

section
variable {X:Cx}{pQ:Li (Ad×Obj)}{σ:St}{H:Hp}{s:Sd}{A:Around}{E:vL->Sd->Prop}{Q:vL->Sd->Prop}{c:vL}{b:Bool}
inductive TyOf(K:Fg)(H:Hp):V->Value->Prop where
  |non:TyOf K H .non (.type "NoneType")
  |bl (x:Bool):TyOf K H (.bl x) (.type "bool")
  |int (i:Int):TyOf K H (.int i) (.type "int")
  |str (x:Str):TyOf K H (.str x) (.type "str")
  |flt (x:UInt64):TyOf K H (.flt x) (.type "float")
  |lst {a:Addr}{xs:List V} (e:H a=some (.lst xs)):TyOf K H (.ref a) (.type "list")
  |frz {a:Addr}{o:Obj}{xs:List V} (e:H a=some (.frz o (.lst xs))):TyOf K H (.ref a) (.type "list")
  |tup {a:Addr}{xs:List V} (e:H a=some (.tup xs)):TyOf K H (.ref a) (.type "tuple")
  |dK {a:Addr}{kvs:List (Key×V)} (e:H a=some (.dK kvs)):TyOf K H (.ref a) (.type "dict")
  |dT {a:Addr}{kvs:List (List Key×V)} (e:H a=some (.dT kvs)):TyOf K H (.ref a) (.type "dict")
  |ins {a C dx:Addr}{fs:List (Str×V)} (e:H a=some (.ins C dx fs)) (cl:Cls K C) (ha:PySem.W.findIn K (.ref C) "__class__"=some (some (.builtin "object.__class__")))
      (hn:PySem.W.specialIn K (.builtin "object.__class__") "__get__"=some (some (.builtin "getset_descriptor.__get__"))) (htk:PySem.W.takesIn K (.builtin "object.__class__")=some true)
      (hm:PySem.W.mroIn K C (.type "object")=some true):TyOf K H (.ref a) (.ref C)
theorem isinst_ok{x:V}{u t:vL}(I:Inv X pQ σ H s)(rx:RelV x u)(ty:TyOf X.K H x t)(e:PySem.W.kitOne X.K t c=some b)(h:∀ tk,Q (.bool b) { s with toks:=tk }) :
    wpAny (model X.prog X.w) A (call (.builtin "isinstance") [u,c]) Q E s:=by
  cases ty with
  |non=>cases (show u=Value.none from rx);exact PySem.W.kia_one PySem.W.kitx_none I.kIn True.intro e (fun z=>nomatch z) h
  |bl y=>cases (show u=Value.bool y from rx);exact PySem.W.kia_one PySem.W.kitx_bool I.kIn True.intro e (fun z=>nomatch z) h
  |int i=>obtain⟨t,q⟩:=(show ∃ t,u=Value.int i t from rx);cases q;exact PySem.W.kia_one PySem.W.kitx_int I.kIn True.intro e (fun z=>nomatch z) h
  |str y=>obtain⟨t,q⟩:=(show ∃ t,u=Value.str y t from rx);cases q;exact PySem.W.kia_one PySem.W.kitx_str I.kIn True.intro e (fun z=>nomatch z) h
  |flt y=>obtain⟨t,q⟩:=(show ∃ t,u=Value.float y t from rx);cases q;exact PySem.W.kia_one PySem.W.kitx_float I.kIn True.intro e (fun z=>nomatch z) h
  |@lst a xs ea=>
    cases (show u=Value.ref a from rx)
    obtain⟨_,_,n,_,h1⟩:=(show ObjOk X.prog X.w H s.heap a (.lst xs) from I.hok a _ ea);exact PySem.W.kia_one PySem.W.kitx_list I.kIn ⟨_,h1,rfl⟩ e (fun z=>nomatch z) h
  |@frz a ob xs ea=>
    cases (show u=Value.ref a from rx)
    obtain⟨_,_,_,n,_,h1⟩:=(show ObjOk X.prog X.w H s.heap a (.frz ob (.lst xs)) from I.hok a _ ea);exact PySem.W.kia_one PySem.W.kitx_list I.kIn ⟨_,h1,rfl⟩ e (fun z=>nomatch z) h
  |@tup a xs ea=>
    cases (show u=Value.ref a from rx)
    obtain⟨_,_,_,p⟩:=(show ObjOk X.prog X.w H s.heap a (.tup xs) from I.hok a _ ea);obtain⟨o,h1,h2,_⟩:=p;exact PySem.W.kia_one PySem.W.kitx_tuple I.kIn ⟨o,h1,h2⟩ e (fun z=>nomatch z) h
  |@dK a kvs ea=>
    cases (show u=Value.ref a from rx)
    obtain⟨_,_,vs,_,p⟩:=(show ObjOk X.prog X.w H s.heap a (.dK kvs) from I.hok a _ ea);obtain⟨o,es,ep,h1,h2,_⟩:=p;exact PySem.W.kia_one PySem.W.kitx_dict I.kIn ⟨o,h1,h2.1⟩ e (fun z=>nomatch z) h
  |@dT a kvs ea=>
    cases (show u=Value.ref a from rx)
    obtain⟨_,_,xs,_,o,es,ep,h1,h2,_⟩:=(show ObjOk X.prog X.w H s.heap a (.dT kvs) from I.hok a _ ea);exact PySem.W.kia_one PySem.W.kitx_dict I.kIn ⟨o,h1,h2.1⟩ e (fun z=>nomatch z) h
  |@ins a C dx fs ea cl ha hn htk hm=>
    cases (show u=Value.ref a from rx)
    obtain⟨mA,O,_⟩:=ins_get I.hok ea;obtain⟨od,J,_⟩:=O.look;exact PySem.W.kia_one (PySem.W.kitx_own (cl.get _) cl.hd ha hn htk hm) I.kIn J e (fun z=>nomatch z) h
end
structure Room(k:Nat)(A:Around):Prop where
  hd:A.handled=none
  dp:A.depth+3 * k+5 < recursionLimit
  un:A.units+16 * k+200 < cLine
variable{k:Nat}
theorem Room.mono{j:Nat}(r:Room k A)(h:j<=k):Room j A:=⟨r.hd,by have:=r.dp;omega,by have:=r.un;omega⟩
theorem Room.deeper(r:Room (k+1) A)(env:Env):Room k (A.deeper env):=
  ⟨r.hd,by have:=r.dp;show A.depth+1+3 * k+5 < _;omega,by have:=r.un;show A.units+3+16 * k+200 < _;omega⟩
theorem make_depth:(A.under (.builtin "type.__call__" ⟨.ref C :: us,kw⟩)).depth=A.depth+1:=by
  first|rfl|simp[Around.under,Code.weight,Code.isCreation,Code.isGuard,Code.isCaller,Code.frames,Code.isFrame,guardIds]
theorem make_units:(A.under (.builtin "type.__call__" ⟨.ref C :: us,kw⟩)).units=A.units+1:=by
  first|rfl|simp[Around.under,Code.cUnits,Code.frames,Code.isFrame]
theorem Room.make(r:Room (k+1) A)(C:Ad)(us:Li vL)(kw:Li (Str×vL)):Room k (A.under (.builtin "type.__call__" ⟨.ref C :: us,kw⟩)):=
  ⟨r.hd,by have:=r.dp;rw[make_depth];omega,by have:=r.un;rw[make_units];omega⟩
theorem Room.depth(r:Room k A):A.depth < recursionLimit:=by have:=r.dp;omega
theorem Room.units(r:Room k A):A.units+64 < cLine:=by have:=r.un;omega

noncomputable def tNil:TA:=fun _ H Q=>Q [] H
noncomputable def tCons(ta:TE)(tr:TA):TA:=fun σ H Q=>ta σ H fun x H1=>tr σ H1 fun xs H2=>Q (x :: xs) H2
section
variable {X:Cx}{e:Expr}{es:Li Expr}{te:TE}{t:TA}{pos:Pos}
theorem pa_nil:PA X [] tNil:=fun _ _ _ _ H Q I h=>Calls.spliced_nil ⟨[],H,I,.nil,h⟩
theorem pa_cons(ha:PE X e te)(hr:PA X es t)(hs:starEach (e :: es) X.env=(false,eval e X.env) :: starEach es X.env:=by rfl):PA X (e :: es) (tCons te t):=by
  intro pos pQ s σ H Q I h;rw[hs];show wpAny _ _ (spliced ((false,eval e X.env) :: backTo pos (starEach es X.env))) _ _ s;refine Calls.spliced_cons (thn (ha pQ s σ H _ I h) fun u s1 ⟨x,H1,I1,r1,q1⟩=>?_)
  exact thn (hr pos pQ s1 σ H1 _ I1 q1) fun us s2 ⟨xs,H2,I2,r2,q2⟩=>⟨x :: xs,H2,I2,.cons r1 r2,q2⟩

noncomputable def tTup(t:TA):TE:=fun σ H Q=>t σ H fun xs H1=>xs.length<=sizeLine/\∀ p,H1 p=none->Q (.ref p) (upd H1 p (.tup xs))
noncomputable def tLst(t:TA):TE:=fun σ H Q=>t σ H fun xs H1=>xs.length<=sizeLine/\∀ p,H1 p=none->Q (.ref p) (upd H1 p (.lst xs))
theorem pe_tup{x1}(h:PA X es t):PE X (.Tuple es x1 pos) (tTup t):=by
  intro pQ s σ H Q I hq;refine wpAny_Tuple_spliced (thn (h pos pQ s σ H _ I hq) fun us s1 ⟨xs,H1,I1,r,z,q⟩=>⟨by rw[<-r.length];exact z,?_⟩)
  have hf:H1 s1.heap.objs.size=none:=I1.hok.fresh (aB _);refine⟨.ref s1.heap.objs.size,upd H1 s1.heap.objs.size (.tup xs),I1.laid (t':=s1.toks) (fun b u e=>aL _ e) (aB _) ?_,rfl,q _ hf⟩
  exact⟨z,us,r,⟨_,aV _ rfl,rfl,_,rfl⟩⟩
theorem pe_lst(h:PA X es t):PE X (.List es pos) (tLst t):=by
  intro pQ s σ H Q I hq;refine wpAny_List_spliced (thn (h pos pQ s σ H _ I hq) fun us s1 ⟨xs,H1,I1,r,z,q⟩=>⟨by rw[<-r.length];exact z,?_⟩)
  have hf:H1 s1.heap.objs.size=none:=I1.hok.fresh (aB _);refine⟨.ref s1.heap.objs.size,upd H1 s1.heap.objs.size (.lst xs),I1.laid (t':=s1.toks) (fun b u e=>aL _ e) (aB _) ?_,rfl,q _ hf⟩
  exact⟨z,us,0,r,aV _ rfl⟩
end

abbrev Sp:=Li V->Hp->VK->XK->Prop
abbrev CXT:=Li Env->Hp->Sd->XK->vL->Sd->Prop

structure Env0(P:Program)(w:World)(K:Fg)(mg:Str->Option Value)(base:Heap)(A:Around)(outer:List Env)(s:Shared)(H:Hp):Prop where
  frames:A.frames=some outer
  mod:Mod K mg base
  bs:∀ b o,base.get? b=some o->s.heap.get? b=some o/\H b=none
  bsz:base.objs.size<=s.heap.objs.size
  funs:s.heap.FunFrames base outer
  frf:∀ b∈frs outer,H b=none
  hok:HOk P w H s.heap
  bare:AllBare s.gens
def CE(outer:Li Env)(P:Program)(w:World)(H:Hp)(s:Sd)(Q:VK)(u:vL)(s':Sd):Prop:=
  ∃ v H',s'.os=s.os/\AllBare s'.gens/\Un (frs outer) [] H H' s.heap s'.heap/\HOk P w H' s'.heap/\RelV v u/\Q v H'
def CR(CX:CXT)(outer:Li Env)(P:Program)(w:World)(H:Hp)(s:Sd)(Q:VK)(E:XK)(r:Result)(s':Sd):Prop:=
  match r with
  |.ok (.ret u)=>CE outer P w H s Q u s'
  |.ok _=>False
  |.error e=>CX outer H s E e s'
structure FnOk(P:Program)(w:World)(K:Fg)(mg:Str->Option Value)(base:Heap)(CX:CXT)(k:Nat)(f:Addr)(fd:FuncData)(ps:List Str)(sp:Sp):Prop where
  len:∀ vs H Q E,sp vs H Q E->vs.length=ps.length
  run:∀ (A:Around) (outer:List Env) (s:Shared) (H:Hp) (args:Args) (us:List Value) (vs:List V) (Q:VK) (E:XK),Room k A->Env0 P w K mg base A outer s H->BindsTo s fd args (ps.zip us)->Vals vs us->sp vs H Q E->
    codeAny (model P w) A (.call (.ref f) args) (CR CX outer P w H s Q E) s

variable{mg:Str->Ot vL}{base:Heap}{outer:Li Env}
theorem Env0.make{P:Program}(e:Env0 P w K mg base A outer s H)(C:Ad)(us:Li vL)(kw:Li (Str×vL)) :
    Env0 P w K mg base (A.under (.builtin "type.__call__" ⟨.ref C :: us,kw⟩)) outer s H:=⟨by first|exact e.frames | (simpa[Around.under,Code.envs,Code.isFrame,pushEnvs] using e.frames),e.mod,e.bs,e.bsz,e.funs,e.frf,e.hok,e.bare⟩

section
variable {X:Cx}{pQ:Li (Ad×Obj)}{σ:St}{H:Hp}{s s':Sd}
theorem Inv.env0(I:Inv X pQ σ H s):Env0 X.prog X.w X.K X.mg X.base X.A X.stack s H:=
  ⟨I.ok.frames,I.ok.mod,I.bs,aF I.ok.bsz I.sz,I.stack,I.stkFree,I.hok,I.bare⟩
theorem Inv.after{Q:VK}{u:vL}(I:Inv X pQ σ H s)(h:CE X.stack X.prog X.w H s Q u s'):EP X pQ σ Q u s':=by
  obtain⟨v,H',os,bare,un,hok,r,q⟩:=h;obtain⟨hh,g,d,t,os'⟩:=s';obtain rfl:os'=s.os:=os;exact⟨v,H',I.call (h':=hh) (g':=g) (d':=d) (t':=t) (ch:=[]) un hok bare (fun b z=>absurd z (by simp)),r,q⟩
end

noncomputable def tCall(sp:Sp)(dvs:Li V)(E:XK)(t:TA):TE:=fun σ H Q=>t σ H fun vs H1=>sp (vs++dvs) H1 Q E

def Binds(K:Fg)(fd:FuncData)(ps:Li Str)(ds:Li vL):Prop:=
  ∀ (s:Sd) (us:Li vL),K.In s.heap->(us++ds).length=ps.length->BindsTo s fd ⟨us,[]⟩ (ps.zip (us++ds))
variable{ps:Li Str}
theorem Binds.all{fd:FuncData}(h:∀ us:Li vL,us.length=ps.length->bindArgs fd ⟨us,[]⟩=pure (ps.zip us)):Binds K fd ps []:=fun s us _ hl=>by
  rw[bE]at hl ⊢;exact .of_eq (h us hl)

def Passes(CX:CXT)(X:Cx)(E:XK):Prop:=∀ (pQ:Li (Ad×Obj)) (σ:St) (H:Hp) (s:Sd) (e:vL) (s':Sd),Inv X pQ σ H s->CX X.stack H s E e s'->X.xe e s'

variable{vs:Li V}
section
variable {X:Cx}{CX:CXT}{k:Nat}{f C:Ad}{fd:FuncData}{ps:Li Str}{sp:Sp}{dvs:Li V}{ds:Li vL}{E:XK}{x m:Str}{p pos apos:Pos}{e o:Expr}{es:Li Expr}{ta:TE}{t:TA}

theorem run_fn{σ:St}{Q:VK}(F:FnOk X.prog X.w X.K X.mg X.base CX k f fd ps sp)(hr:Room k X.A)(hb:Binds X.K fd ps ds)(hd:Vals dvs ds)(hx:Passes CX X E)(I:Inv X pQ σ H s)(r:Vals vs us)(h:sp (vs++dvs) H Q E):wpAny (model X.prog X.w) X.A (call (.ref f) us) (EP X pQ σ Q) X.xe s:=by
  have r2:Vals (vs++dvs) (us++ds):=r.append hd;have hl:(us++ds).length=ps.length:=by rw[<-r2.length];exact F.len _ _ _ _ h
  refine wpAny_call (codeAny_mono (F.run X.A X.stack s H ⟨us,[]⟩ (us++ds) (vs++dvs) Q E hr I.env0 (hb s us I.kIn hl) r2 h) fun r s' hq=>?_)
  cases r with
  |error e=>exact hx pQ σ H s e s' I hq
  |ok fl=>
    cases fl with
    |ret u=>exact I.after hq
    |next=>exact False.elim hq
    |brk=>exact False.elim hq
    |cont=>exact False.elim hq

theorem pe_call(F:FnOk X.prog X.w X.K X.mg X.base CX k f fd ps sp)(hr:Room k X.A)(hg:Gl X x)(hm:X.mg x=some (.ref f))(hk:PySem.W.keepIn X.K (.ref f)=true)(hb:Binds X.K fd ps ds)(hd:Vals dvs ds)(hx:Passes CX X E)(ha:PA X (e :: es) t)(hdb:(x==("__debug__":Str))=false:=by decide)(he:starEach (e :: es) X.env=(false,eval e X.env) :: starEach es X.env:=by rfl)(hpl:(backTo pos (starEach es X.env)).any (·.1)=false:=by rfl) :
    PE X (.Call (.Name x p) (e :: es) [] pos) (tCall sp dvs E t):=by
  intro pQ s σ H Q I h;refine wpAny_Call_Name_kw (ld_glob I hg hm ?_ hdb);refine PySem.W.callWith_K (h₀:=X.base) I.ok.mod.kin hk (thn (ha pos pQ s σ H _ I h) fun us s1 ⟨vs,H1,I1,r,q⟩=>⟨I1.kIn,?_⟩) he hpl
  exact run_fn F hr hb hd hx I1 r q
theorem pe_call0(F:FnOk X.prog X.w X.K X.mg X.base CX k f fd ps sp)(hr:Room k X.A)(hg:Gl X x)(hm:X.mg x=some (.ref f))(hk:PySem.W.keepIn X.K (.ref f)=true)(hb:Binds X.K fd ps ds)(hd:Vals dvs ds)(hx:Passes CX X E)(hdb:(x==("__debug__":Str))=false:=by decide):PE X (.Call (.Name x p) [] [] pos) (tCall sp dvs E tNil):=by
  intro pQ s σ H Q I h;refine wpAny_Call_Name_kw (ld_glob I hg hm ?_ hdb);exact PySem.W.callWith_K0 I.kIn hk (run_fn (us:=[]) F hr hb hd hx I .nil h)


structure Mk(K:Fg)(C f:Addr):Prop where
  makes:PySem.W.makesIn K C=true
  init:PySem.W.findIn K (.ref C) "__init__"=some (some (.ref f))
  fn:PySem.W.isFn K (.ref f)=true
  kp:PySem.W.keepIn K (.ref C)=true

theorem run_make{σ:St}{Q:VK}(M:Mk X.K C f)(F:FnOk X.prog X.w X.K X.mg X.base CX k f fd ps sp)(hr:Room (k+1) X.A)(hb:Binds X.K fd ps ds)(hd:Vals dvs ds)(hx:Passes CX X E)(I:Inv X pQ σ H s)(r:Vals vs us)(h:∀ x dx,H x=none->H dx=none->dx≠x->(∀ o,X.K.lookup x≠some o)->sp (.ref x :: (vs++dvs)) (upd (upd H dx (.own x)) x (.ins C dx [])) (fun v H2=>v=.non/\Q (.ref x) H2) E) :
    wpAny (model X.prog X.w) X.A (call (.ref C) us) (EP X pQ σ Q) X.xe s:=by
  have hq:=h (s.heap.objs.size+1) s.heap.objs.size (I.hok.fresh (Nat.le_succ _)) (I.hok.fresh (aB _)) (aX (Nat.lt_succ_self _)) (fun o z=>absurd (aG (I.kIn _ o z)) (Nat.not_lt.mpr (Nat.le_succ _)))
  have I2:=Inv.made (C:=C) I;have r2:Vals (V.ref (s.heap.objs.size+1) :: (vs++dvs)) (Value.ref (s.heap.objs.size+1) :: (us++ds)):=.cons rfl (r.append hd);have hl:(Value.ref (s.heap.objs.size+1) :: us++ds).length=ps.length:=by
    have e:=r2.length;rw[F.len _ _ _ _ hq]at e;exact e.symm
  refine wpAny_call (make_map (f:=f) I.kIn M.makes M.init (beq_iff_eq.mp M.fn) (codeAny_mono (F.run _ X.stack _ _ ⟨Value.ref (s.heap.objs.size+1) :: us,[]⟩ (Value.ref (s.heap.objs.size+1) :: (us++ds)) _ _ E (hr.make C us [])
    (I2.env0.make C us []) (hb _ (Value.ref (s.heap.objs.size+1) :: us) I2.kIn hl) r2 hq) fun r s' hq'=>?_))
  cases r with
  |error e=>exact hx pQ σ _ _ e s' I2 hq'
  |ok fl=>
    cases fl with
    |ret u=>
      obtain⟨v,H',I3,rv,ev,q3⟩:=I2.after hq';subst ev;exact⟨rv,⟨V.ref (s.heap.objs.size+1),H',I3,rfl,q3⟩⟩
    |next=>exact False.elim hq'
    |brk=>exact False.elim hq'
    |cont=>exact False.elim hq'
end

section
variable {X:Cx}{CX:CXT}{k:Nat}{f C:Ad}{fd:FuncData}{ps ks:Li Str}{sp:Sp}{E:XK}{x m:Str}{p pos apos kpos:Pos}{e o:Expr}{es:Li Expr}{kws:Li Keyword}{te ta:TE}{t tk:TA}{nm:Ot Str}

structure KBinds(K:Fg)(fd:FuncData)(ps ks:List Str)(g:List Value->List Value->List Value)(gV:List V->List V->List V):Prop where
  to:∀ (s:Shared) (us ws:List Value),K.In s.heap->(g us ws).length=ps.length->BindsTo s fd ⟨us,ks.zip ws⟩ (ps.zip (g us ws))
  rel:∀ {vs:List V}{us:List Value}{zs:List V}{ws:List Value},Vals vs us->Vals zs ws->Vals (gV vs zs) (g us ws)
variable {g:Li vL->Li vL->Li vL}{gV:Li V->Li V->Li V}
end

structure FnScope(N P:List Str)(sc:Scope):Prop where
  kind:sc.kind=.function
  co:sc.isCoroutine=false
  gen:sc.isGenerator=false
  nd:N.Nodup
  pre:N.take P.length=P
  par:∀ x∈P,sc.names.lookup x=some .local\/sc.names.lookup x=some .cell
  nofree:∀ y∈sc.names,y.2≠.free

theorem bindL_out{kindOf:Str->Ot NameKind}{x:Str}:∀ {binds:Li (Str×vL)}{m:Str->Ot vL},(∀ v,(x,v)∉binds)->bindL kindOf binds m x=m x
  |[],_,_=>rfl
  | (n,v) :: r,m,h=>by
    unfold bindL;rw[bindL_out fun w hw=>h w (Lm _ hw)]
    split
    · have:x≠n:=by rintro rfl;exact h v Ls
      simp[this]
    · rfl
theorem bindC_out{kindOf:Str->Ot NameKind}{x:Str}:∀ {binds:Li (Str×vL)}{m:Str->Ot vL},(∀ v,(x,v)∉binds)->bindC kindOf binds m x=m x
  |[],_,_=>rfl
  | (n,v) :: r,m,h=>by
    unfold bindC;rw[bindC_out fun w hw=>h w (Lm _ hw)]
    split
    · rfl
    · have:x≠n:=by rintro rfl;exact h v Ls
      simp[this]
theorem bindL_get{kindOf:Str->Ot NameKind}{x:Str}{v:vL}:∀ {P:Li Str}{vs:Li vL}{i:Nat}{m:Str->Ot vL},P.Nodup->P[i]?=some x->vs[i]?=some v->kindOf x=some .local->
    bindL kindOf (P.zip vs) m x=some v
  |[],_,_,_,_,h,_,_=>by simp at h
  |_ :: _,[],_,_,_,_,h,_=>by simp at h
  |p :: P,w :: vs,0,m,nd,h1,h2,hk=>by
    simp at h1 h2;subst h1;subst h2;show bindL kindOf ((p,w) :: P.zip vs) m p=_;unfold bindL;rw[bindL_out fun v hv=>(dM.mp nd).1 (List.of_mem_zip hv).1,if_pos hk]
    simp
  |p :: P,w :: vs,i+1,m,nd,h1,h2,hk=>by
    show bindL kindOf ((p,w) :: P.zip vs) m x=_;unfold bindL;exact bindL_get (i:=i) (dM.mp nd).2 (by simpa using h1) (by simpa using h2) hk
theorem bindC_get{kindOf:Str->Ot NameKind}{x:Str}{v:vL}:∀ {P:Li Str}{vs:Li vL}{i:Nat}{m:Str->Ot vL},P.Nodup->P[i]?=some x->vs[i]?=some v->kindOf x≠some .local->
    bindC kindOf (P.zip vs) m x=some v
  |[],_,_,_,_,h,_,_=>by simp at h
  |_ :: _,[],_,_,_,_,h,_=>by simp at h
  |p :: P,w :: vs,0,m,nd,h1,h2,hk=>by
    simp at h1 h2;subst h1;subst h2;show bindC kindOf ((p,w) :: P.zip vs) m p=_;unfold bindC;rw[bindC_out fun v hv=>(dM.mp nd).1 (List.of_mem_zip hv).1,if_neg hk]
    simp
  |p :: P,w :: vs,i+1,m,nd,h1,h2,hk=>by
    show bindC kindOf ((p,w) :: P.zip vs) m x=_;unfold bindC;exact bindC_get (i:=i) (dM.mp nd).2 (by simpa using h1) (by simpa using h2) hk

noncomputable def start(N:Li Str)(vs:Li V):St:=vs.map some++List.replicate (N.length - vs.length) none

noncomputable def cxOf(CX:CXT)(P:Program)(w:World)(K:Fg)(mg:Str->Ot vL)(base:Heap)(N:Li Str)(qual:Str)(scope:Scope)(f:Ad)(cd:vL)(A:Around)(outer:Li Env)(s:Sd)(H:Hp)(E:XK):Cx where
  prog:=P
  w:=w
  K:=K
  mg:=mg
  base:=base
  A:=A.deeper (envOfC qual scope s.heap.objs.size f cd)
  N:=N
  s₀:=s
  H₀:=H
  env:=envOfC qual scope s.heap.objs.size f cd
  outer:=outer
  stack:=envOfC qual scope s.heap.objs.size f cd :: outer
  ex:=[]
  calm:=true
  fn:=fun _=>true
  pn:=[]
  xe:=fun e s'=>wpAny (model P w) (A.deeper (envOfC qual scope s.heap.objs.size f cd)) (leaving (envOfC qual scope s.heap.objs.size f cd) e) (fun _ s''=>CX outer H s E e s'') (fun e' s''=>CX outer H s E e' s'') s'

theorem cell_has{sc:Scope}{x:Str}(h:sc.names.lookup x=some .cell):∃ c,(cellsFrom n sc.names []).lookup x=some c:=by
  have q:=PySem.W.cellsFrom_some sc.names n [] (.inl h);exact Option.isSome_iff_exists.mp q

variable{CX:CXT}
theorem inv_start{P:Program}{qual:Str}{scope:Scope}{f:Ad}{cd:vL}{s1:Sd}{E:XK}(S:FnScope N ps scope)(hd:A.handled=none)(e0:Env0 P w K mg base A outer s H)(hl:vs.length=ps.length)(r:Vals vs us)(x:InCallC s s.heap.objs.size (bindL (envOfC qual scope s.heap.objs.size f cd).kindOf (ps.zip us) fun _=>none) (cellsFrom (s.heap.objs.size+1) scope.names []) (bindC (envOfC qual scope s.heap.objs.size f cd).kindOf (ps.zip us) fun _=>none) s1) :
    Inv (cxOf CX P w K mg base N qual scope f cd A outer s H E) [] (start N vs) H s1:=by
  have hpl:ps.length<=N.length:=by have:=congrArg List.length S.pre;rw[bJ]at this;omega
  obtain⟨h1,tk,rfl,hk⟩:=x.done;have noA:∀ b:Ad,b∉(cxOf CX P w K mg base N qual scope f cd A outer s H E).ex:=fun b z=>absurd (show b∈([]:Li Ad) from z) (by simp)
  refine⟨⟨e0.mod,S.kind,rfl,rfl,aB _,fun y z c h1 h2=>?_,fun y hy=>?_,fun y c _ h=>?_,fun _=>hd,Around.frames_deeper e0.frames,.inr ⟨rfl,rfl⟩,fun b z=>absurd z (noA b),e0.bs,e0.bsz,fun b _ _=>noA b,fun b z=>absurd z (noA b),e0.funs,e0.frf⟩,
    rfl,e0.bare,Un.kept hk,⟨_,x.toInCall.ns,fun i y v h1 h2 h3=>?_⟩,fun y c h=>⟨_,x.cell y c h⟩,e0.hok.fresh (aB _),fun y c h=>?_,fun p hp=>absurd (show p∈([]:Li (Ad×Obj)) from hp) (by simp),e0.hok.kept hk,?_⟩
  · exact name_of_addr x.apart (PySem.mem_of_lookup h1) (PySem.mem_of_lookup h2)
  · have hy:scope.names.lookup y=some .cell\/scope.names.lookup y=some .free:=hy
    rcases hy with hy|hy
    · exact cell_has hy
    · exact absurd rfl (S.nofree _ (PySem.mem_of_lookup hy))
  · exact Nat.le_of_lt (x.above y c (PySem.mem_of_lookup h))
  · have hi:i < vs.length:=by
      unfold start at h2;by_cases hi:i < vs.length
      · exact hi
      · rw[bF (by simpa using hi)]at h2
        rw[dN]at h2;split at h2<;>cases h2
    have ha:vs[i]?=some v:=by
      unfold start at h2;rw[aZ (by simpa using hi),aQ]at h2
      cases e:vs[i]? with
      |none=>rw[e]at h2;cases h2
      |some a=>rw[e]at h2;cases h2;rfl
    obtain⟨u,hu,rv⟩:=r.get ha;have hp:ps[i]?=some y:=by
      rw[<-S.pre,List.getElem?_take_of_lt (by omega)];exact h1
    have ndP:ps.Nodup:=by rw[<-S.pre];exact S.nd.sublist (List.take_sublist _ _)
    refine⟨u,rv,?_⟩;rcases S.par y (bG hp) with k|k
    · exact .inl ⟨k,bindL_get ndP hp hu k⟩
    · obtain⟨c,e⟩:=cell_has (n:=s.heap.objs.size+1) k
      refine .inr ⟨.inl k,c,e,?_⟩;have q:=x.cell y c e;rw[bindC_get ndP hp hu (by show scope.names.lookup y≠_;rw[k];decide)]at q
      exact q
  · exact e0.hok.fresh (Nat.le_of_lt (x.above y c (PySem.mem_of_lookup h)))
  · unfold start
    show _=N.length;rw[aH,aD,cY];omega

theorem fn_of{P:Program}{f:Ad}{name qual:Str}{params:Arguments}{body:Li Stmt}{scope:Scope}{dV kV doc pm cdv ct oc:vL}{an od:Ot Ad}{osl:Array (Ot vL)}{sp:Sp}(lk:K.lookup f=some ⟨oc,od,.func (PySem.W.fnOf name qual params body scope dV kV doc pm an cdv ct),osl⟩)(hcd:PySem.W.codeIn K cdv qual=true)(S:FnScope N ps scope)(len:∀ vs H Q E,sp vs H Q E->vs.length=ps.length)(hbody:∀ (A:Around) (outer:Li Env) (s:Sd) (H:Hp) (vs:Li V) (Q:VK) (E:XK),Room k (A.deeper (envOfC qual scope s.heap.objs.size f cdv))->sp vs H Q E->
      ∃ t,PSs (cxOf CX P w K mg base N qual scope f cdv A outer s H E) body t/\t { nx:=fun _ H'=>Q .non H',rt:=Q } (start N vs) H) :
    FnOk P w K mg base CX (k+1) f (PySem.W.fnOf name qual params body scope dV kV doc pm an cdv ct) ps sp:=by
  refine⟨len,fun A outer s H args us vs Q E hr e0 hb r hsp=>?_⟩
  have hl:=len _ _ _ _ hsp;have KX:K.In s.heap:=e0.mod.kin.keeps fun b o e=>(e0.bs b o e).1
  have lim:s.heap.NoLimit:=e0.mod.nolimit.keeps fun b o e=>(e0.bs b o e).1
  have hkind:∀ y∈ps.zip us,scope.names.lookup y.1=some .local\/(scope.names.lookup y.1=some .cell/\((cellsFrom (s.heap.objs.size+1) scope.names []).lookup y.1).isSome=true):=fun⟨n,v⟩ hy=>by
    rcases S.par n (List.of_mem_zip hy).1 with q|q
    · exact .inl q
    · exact .inr ⟨q,PySem.W.cellsFrom_some _ _ _ (.inl q)⟩
  refine codeAny_call_function hr.depth (KX _ _ lk) rfl S.co S.gen rfl (PySem.W.codeRec_of KX hcd) (hb _ _ _ _ ?_);refine wpAny_newFunctionEnv_cells S.kind hkind fun env he s1 x=>?_
  subst he;refine⟨lim.keeps x.toInCall.keep,codeAny_func ?_⟩;obtain⟨t,ht,hq⟩:=hbody A outer s H vs Q E (hr.deeper _) hsp;have I:Inv (cxOf CX P w K mg base N qual scope f cdv A outer s H E) [] (start N vs) H s1:=inv_start S hr.hd e0 hl r x;refine bC (ht [] s1 (start N vs) H _ I hq) (fun fl s' hs=>?_) fun e s' hs=>hs
  have fin:∀ {σ':St}{H':Hp}{v:V}{u:vL},Inv (cxOf CX P w K mg base N qual scope f cdv A outer s H E) [] σ' H' s'->RelV v u->Q v H'->CE outer P w H s Q u s':=
    fun {σ' H' v u} J rv q=>⟨v,H',J.os,J.bare,J.base,J.hok,rv,q⟩
  cases fl with
  |ret u=>
    obtain⟨v,σ',H',J,rv,q⟩:=hs;exact fin J rv q
  |next=>
    obtain⟨σ',H',J,q⟩:=hs;exact fin (v:=V.non) (u:=Value.none) J rfl q
  |brk=>
    obtain⟨_,_,_,q⟩:=hs;exact False.elim q
  |cont=>
    obtain⟨_,_,_,q⟩:=hs;exact False.elim q
section
variable {X:Cx}{x:Str}{p pos:Pos}{e:Expr}{es:Li Expr}{t:TA}{id T:String}{r:Li V->Hp->VK->Prop}

noncomputable def tCB(r:Li V->Hp->VK->Prop)(t:TA):TE:=fun σ H Q=>t σ H fun vs H1=>r vs H1 Q
theorem pe_callB(hc:CallR X (.builtin id) r)(hg:Gl X x)(hm:X.mg x=none)(hv:bootBuiltins x=some (.builtin id))(ha:PA X (e :: es) t)(hn:x ≠ "__name__":=by decide)(hdb:(x==("__debug__":Str))=false:=by decide)(he:starEach (e :: es) X.env=(false,eval e X.env) :: starEach es X.env:=by rfl)(hpl:(backTo pos (starEach es X.env)).any (·.1)=false:=by rfl):PE X (.Call (.Name x p) (e :: es) [] pos) (tCB r t):=by
  intro pQ s σ H Q I h;refine wpAny_Call_Name_kw (ld_blt I hg hm hv ?_ hn hdb);exact PyProof.Rows.callWith_builtin1 (thn (ha pos pQ s σ H _ I h) fun us s1 ⟨vs,H1,I1,r1,q1⟩=>hc pQ s1 σ H1 vs us Q I1 r1 q1) he hpl
theorem pe_callTy(hc:CallR X (.type T) r)(hg:Gl X x)(hm:X.mg x=none)(hv:bootBuiltins x=some (.type T))(ha:PA X (e :: es) t)(hn:x ≠ "__name__":=by decide)(hdb:(x==("__debug__":Str))=false:=by decide)(he:starEach (e :: es) X.env=(false,eval e X.env) :: starEach es X.env:=by rfl)(hpl:(backTo pos (starEach es X.env)).any (·.1)=false:=by rfl):PE X (.Call (.Name x p) (e :: es) [] pos) (tCB r t):=by
  intro pQ s σ H Q I h;refine wpAny_Call_Name_kw (ld_blt I hg hm hv ?_ hn hdb);exact PyProof.Rows.callWith_type1 (thn (ha pos pQ s σ H _ I h) fun us s1 ⟨vs,H1,I1,r1,q1⟩=>hc pQ s1 σ H1 vs us Q I1 r1 q1) he hpl
end
end L2

namespace HT
open PySem PyProof.Rows



section
open PySem.SeqAt
open PySem.AutoSeq1 (wpAny_loadPart')
open PySem.MeetsSeq PySem.MeetsSeq2 PySem.MeetsSeq3

end

variable{Q:vL->Sd->Prop}{lo hi:Ot Int}
section
variable {prog:Program}{w:World}{A:Around}{E:vL->Sd->Prop}{s:Sd}


theorem cat_tup{t b:Ad}{vs ws:Li vL}(ht:IsTup s.heap t vs.toArray)(hb:IsTup s.heap b ws.toArray)(hv:vs≠[])(h1:ws=[]->Q (.ref t) s)(h2:ws≠[]->Q (.ref s.heap.objs.size) { s with heap:=s.heap.push { cls:=.type "tuple",data:=.seq (vs++ws).toArray } })(hsz:vs.length+ws.length<=sizeLine):wpAny (model prog w) A (binaryOp .Add (.ref t) (.ref b)) Q E s:=by
  obtain⟨⟨cls,dd,data,sl⟩,ho,hc,n,hd⟩:=id ht;obtain⟨⟨cls2,dd2,data2,sl2⟩,ho2,hc2,n2,hd2⟩:=id hb;simp only at hc hd hc2 hd2;subst hc hd hc2 hd2;have e:vs.toArray++ws.toArray=(vs++ws).toArray:=by simp
  by_cases hw:ws=[]
  · exact concat_meets ⟨_,ho,rfl⟩ ⟨_,ho2,rfl⟩ noFill_tuple_add seq_tuple_add PySem.F.slot_tuple_add PySem.F.entry_tuple_add (PySem.F.args_tuple_add_2 _ _)
      (tuple_addW1 t b vs.toArray ws.toArray n n2 dd dd2 sl sl2 (by simpa using hv) (by simp[hw])) ⟨ho,ho2,h1 hw⟩
  · refine concat_meets ⟨_,ho,rfl⟩ ⟨_,ho2,rfl⟩ noFill_tuple_add seq_tuple_add PySem.F.slot_tuple_add PySem.F.entry_tuple_add (PySem.F.args_tuple_add_2 _ _)
      (tuple_addW2 t b vs.toArray ws.toArray n n2 dd dd2 sl sl2 (by simpa using hv) (by simpa using hw) (by rw[aI,aI];exact hsz)) ⟨ho,ho2,?_⟩
    rw[e];exact h2 hw

noncomputable def sIx(n d:Nat):Ot Int->Nat
  |none=>d
  |some v=>if v < 0 then (v+(n:Int)).toNat else min v.toNat n
theorem sIx_le(n d:Nat)(hd:d<=n)(o:Ot Int):sIx n d o<=n:=by
  cases o with
  |none=>exact hd
  |some v=>
    show(if v < 0 then (v+(n:Int)).toNat else min v.toNat n)<=n
    by_cases hv:v < 0
    · rw[if_pos hv];omega
    · rw[if_neg hv];exact Nat.min_le_right _ _
theorem clip_eq(v:Int)(n d:Nat):(if v < 0 then max (v+(n:Int)) 0 else min v (n:Int))=((sIx n d (some v):Nat):Int):=by
  show(if v < 0 then max (v+(n:Int)) 0 else min v (n:Int))=(((if v < 0 then (v+(n:Int)).toNat else min v.toNat n):Nat):Int)
  by_cases hv:v < 0
  · simp only[if_pos hv];omega
  · simp only[if_neg hv];omega
theorem adjust_gen(lo hi:Ot Int)(n:Nat):Builtin.Slice.sliceAdjust lo hi 1 (n:Int)=(((sIx n 0 lo:Nat):Int),((sIx n n hi:Nat):Int)):=by
  have h1:¬((1:Int) < 0):=by omega
  unfold Builtin.Slice.sliceAdjust;simp only[h1,if_false];refine Prod.ext ?_ ?_
  · cases lo with
    |none=>rfl
    |some v=>exact clip_eq v n 0
  · cases hi with
    |none=>rfl
    |some v=>exact clip_eq v n n
theorem places_gen(i j:Nat):Builtin.Slice.slicePlaces (i:Int) (j:Int) 1=j - i:=by
  unfold Builtin.Slice.slicePlaces;have h1:(1:Int) > 0:=by omega
  simp only[h1,if_true,Int.ediv_one];split<;>omega
theorem slicePart_{v:vL}{o:Ot Int}{Q:Ot Int->Sd->Prop}(p:IsPart v o)(h:Q o s):wpAny (model prog w) A (Builtin.Slice.slicePartIndex v) Q E s:=by
  cases p with
  |none=>exact slicePart_none h
  |int i t=>exact slicePart_int h
theorem sliceApplied_gen{sl:Ad}{vl vu:vL}{n:Nat}{Q:Int×Int×Nat->Sd->Prop}(hs:s.heap.IsSliceOf sl vl vu .none)(pl:IsPart vl lo)(pu:IsPart vu hi)(h:Q (((sIx n 0 lo:Nat):Int),1,sIx n n hi - sIx n 0 lo) s):wpAny (model prog w) A (Builtin.Slice.sliceApplied (.ref sl) (pure (n:Int))) Q E s:=by
  obtain⟨os,hos,hcs,hds⟩:=id hs;unfold Builtin.Slice.sliceApplied Builtin.Slice.sliceFields;refine aA (aA (wpAny_field hos hds (x:=vl) rfl (aA (wpAny_field hos hds (x:=vu) rfl (aA (wpAny_field hos hds (x:=.none) rfl (aE ?_)))))));refine aA (slicePart_none ?_);show wpAny _ _ (if ((1:Int)==0)=true then _ else _) _ _ s
  rw[if_neg (by decide)]
  refine aA (slicePart_ pl (aA (slicePart_ pu (aA (aE ?_)))));show wpAny _ _ (match Builtin.Slice.sliceAdjust lo hi 1 (n:Int) with | (lo,hi)=>pure (lo,(1:Int),Builtin.Slice.slicePlaces lo hi 1)) _ _ s
  rw[adjust_gen lo hi n];show wpAny _ _ (pure (((sIx n 0 lo:Nat):Int),(1:Int),Builtin.Slice.slicePlaces ((sIx n 0 lo:Nat):Int) ((sIx n n hi:Nat):Int) 1)) _ _ s;rw[places_gen];exact aE h
theorem pick_gen(xs:Array vL)(i k:Nat):((List.range k).filterMap fun(m:Nat)=>xs[((i:Int)+(m:Int) * 1).toNat]?).toArray=((xs.toList.drop i).take k).toArray:=by
  have e:(fun(m:Nat)=>xs[((i:Int)+(m:Int) * 1).toNat]?)=fun m=>xs[i+m]?:=by
    funext m
    have:((i:Int)+(m:Int) * 1).toNat=i+m:=by omega
    rw[this]
  rw[e];have:=pick_run xs i k;rw[List.filterMap_map]at this;have e2:((fun x=>xs[x]?) ∘ fun x=>i+x)=fun m=>xs[i+m]?:=rfl
  rw[e2]at this;rw[this]

theorem getItem_tuple_cut{t sl:Ad}{items:Array vL}{vl vu:vL}(ht:IsTup s.heap t items)(hs:s.heap.IsSliceOf sl vl vu .none)(pl:IsPart vl lo)(pu:IsPart vu hi)(hw:¬(sIx items.size 0 lo=0/\sIx items.size items.size hi=items.size))(h:Q (.ref s.heap.objs.size) { s with heap:=s.heap.push { cls:=.type "tuple",data:=.seq ((items.toList.drop (sIx items.size 0 lo)).take (sIx items.size items.size hi - sIx items.size 0 lo)).toArray } })(hsz:items.size<=sizeLine):wpAny (model prog w) A (getItem (.ref t) (.ref sl)) Q E s:=by
  have htake:sizeOk (.seq ((items.toList.drop (sIx items.size 0 lo)).take (sIx items.size items.size hi - sIx items.size 0 lo)).toArray):=by
    show((items.toList.drop (sIx items.size 0 lo)).take (sIx items.size items.size hi - sIx items.size 0 lo)).toArray.size<=sizeLine;rw[aI,bJ,cG,bD];omega
  have hj:sIx items.size items.size hi<=items.size:=sIx_le _ _ (aB _) hi;obtain⟨os,hos,hcs,hds⟩:=id hs;have hTs:s.TypeIs (.ref sl) "slice":=⟨os,hos,hcs⟩;unfold getItem
  try with_reducible refine wpAny_holding ?_
  first|refine aA (aE ?_)|skip
  refine aA (wpAny_sequenceKey ht.typeIs (by decide) ?_)
  refine aA (wpAny_callSpecial?_slot (name:=Str.ofString "__getitem__") ht.typeIs PyProof.Rows.slot_tuple_getitem
    (wpAny_call_entry PyProof.Rows.slot_tuple_getitem ht.typeIs entry_tuple_getitem ?_ (args_tuple_getitem _ _)))
  show wpAny _ _ (Builtin.Tuple.tupleItemsOf (.ref t) >>= _) _ _ s;refine aA (tupleItemsOf_ ht ?_);refine aA (wpAny_typeOf hTs ?_);rw[if_pos (by decide)]
  refine aA (sliceApplied_gen hs pl pu ?_);have hno:¬((((sIx items.size 0 lo:Nat):Int)==0&&(1:Int)==1&&(sIx items.size items.size hi - sIx items.size 0 lo)==items.size)=true):=by
    intro q;rw[Ba,Ba]at q;have q1:((sIx items.size 0 lo:Nat):Int)=0:=eq_of_beq q.1.1;have q2:sIx items.size items.size hi - sIx items.size 0 lo=items.size:=eq_of_beq q.2;exact hw ⟨by omega,by omega⟩
  show wpAny _ _ (if (((sIx items.size 0 lo:Nat):Int)==0&&(1:Int)==1&&(sIx items.size items.size hi - sIx items.size 0 lo)==items.size)=true then _ else _) _ _ s
  rw[if_neg hno,pick_gen]
  first
    |exact aA (m:=Builtin.Tuple.tupleExact _) (wpAny_newObj_type (aE ⟨_,rfl,aE h⟩) htake)
    |exact aA (m:=Builtin.Tuple.tupleExact _) (wpAny_newObj_type (aA (aE (aE ⟨_,rfl,aE h⟩))) htake)
    |exact aA (aA (m:=Builtin.Tuple.tupleExact _) (wpAny_newObj_type (aE (aE ⟨_,rfl,aE h⟩)) htake))
    |exact aA (aA (m:=Builtin.Tuple.tupleExact _) (wpAny_newObj_type (aE ⟨_,rfl,aE h⟩) htake))
end
end HT

namespace L2
open PySem PySem.Spec PyProof.Rows

abbrev TO:=St->Hp->(Ot Int->Hp->Prop)->Prop
def PO(X:Cx)(e:Ot Expr)(t:TO):Prop:=
  ∀ (pQ:Li (Ad×Obj)) (s:Sd) (σ:St) (H:Hp) (Q:Ot Int->Hp->Prop),Inv X pQ σ H s->t σ H Q->
    wpAny (model X.prog X.w) X.A (evalPart e X.env) (fun u s'=>∃ o H',Inv X pQ σ H' s'/\IsPart u o/\Q o H') X.xe s
noncomputable def tNoPart:TO:=fun _ H Q=>Q none H
noncomputable def tPart(t:TE):TO:=fun σ H Q=>t σ H fun x H1=>∃ i,x=.int i/\Q (some i) H1


variable{xs:Li V}{us:Li vL}
section
variable {X:Cx}{e:Expr}{te:TE}{lo hi:Ot Expr}{tl th:TO}{pos p2:Pos}

theorem po_none:PO X none tNoPart:=by
  intro pQ s σ H Q I h;rw[evalPart_none];exact aE ⟨none,H,I,.none,h⟩
theorem po_some(h:PE X e te):PO X (some e) (tPart te):=by
  intro pQ s σ H Q I hw;rw[evalPart_some];refine thn (h pQ s σ H _ I hw) fun u s1 ⟨x,H1,I1,r1,q1⟩=>?_
  obtain⟨i,rfl,q⟩:=q1;obtain⟨t,rfl⟩:=r1;exact⟨some i,H1,I1,.int i t,q⟩

def SlR(X:Cx)(r:V->Ot Int->Ot Int->Hp->VK->Prop):Prop:=
  ∀ (pQ:Li (Ad×Obj)) (s:Sd) (σ:St) (H:Hp) (x:V) (v vl vu:vL) (lo hi:Ot Int) (sl:Ad) (Q:VK),Inv X pQ σ H s->RelV x v->s.heap.IsSliceOf sl vl vu .none->IsPart vl lo->IsPart vu hi->r x lo hi H Q->
    ∃ T id,typeLookup (.type T) "__getitem__"=pure (some (.builtin id))/\s.TypeIs v T/\wpAny (model X.prog X.w) X.A (getItem v (.ref sl)) (EP X pQ σ Q) X.xe s
noncomputable def tSl(r:V->Ot Int->Ot Int->Hp->VK->Prop)(te:TE)(tl th:TO):TE:=fun σ H Q=>te σ H fun x H1=>tl σ H1 fun l H2=>th σ H2 fun u H3=>r x l u H3 Q
theorem pe_slice{r:V->Ot Int->Ot Int->Hp->VK->Prop}(hr:SlR X r)(he:PE X e te)(hl:PO X lo tl)(hu:PO X hi th):PE X (.Subscript e (.Slice lo hi none p2) pos) (tSl r te tl th):=by
  intro pQ s σ H Q I h;refine Subscript_ (thn (he pQ s σ H _ I h) fun v s1 ⟨x,H1,I1,r1,q1⟩=>?_)
  refine wpAny_Slice (thn (hl pQ s1 σ H1 _ I1 q1) fun vl s2 ⟨l,H2,I2,pl,q2⟩=>thn (hu pQ s2 σ H2 _ I2 q2) fun vu s3 ⟨u,H3,I3,pu,q3⟩=>?_)
  rw[evalPart_none];refine aE ?_;have I4:Inv X pQ σ H3 { s3 with heap:=s3.heap.push { cls:=.type "slice",data:=.fields #[vl,vu,.none] } }:=I3.kept (t':=s3.toks) fun b ob q=>aL _ q
  obtain⟨T,id,hT,ht,hg⟩:=hr pQ { s3 with heap:=s3.heap.push { cls:=.type "slice",data:=.fields #[vl,vu,.none] } } σ H3 x v vl vu l u s3.heap.objs.size Q I4 r1 (Heap.IsSliceOf.new ..) pl pu q3
  show wpAny (model X.prog X.w) X.A (subscriptTail e (.Slice lo hi none p2) v (.ref s3.heap.objs.size)) (EP X pQ σ Q) X.xe { s3 with heap:=s3.heap.push { cls:=.type "slice",data:=.fields #[vl,vu,.none] } }
  exact tail_any (ops:=[.ref s3.heap.objs.size,v]) ht hT hg (by with_unfolding_all rfl)

noncomputable def cutV(xs:Li V)(lo hi:Ot Int):Li V:=(xs.drop (HT.sIx xs.length 0 lo)).take (HT.sIx xs.length xs.length hi - HT.sIx xs.length 0 lo)
theorem cutV_length(xs:Li V)(lo hi:Ot Int):(cutV xs lo hi).length<=xs.length:=by
  unfold cutV;rw[bJ,cG];omega
def rSlT(K:Fg):V->Ot Int->Ot Int->Hp->VK->Prop:=fun x lo hi H Q=>∃ a xs,x=.ref a/\SqT K H a xs /\
  ¬(HT.sIx xs.length 0 lo=0/\HT.sIx xs.length xs.length hi=xs.length)/\∀ p,H p=none->Q (.ref p) (upd H p (.tup (cutV xs lo hi)))
theorem sl_tup:SlR X (rSlT X.K):=by
  intro pQ s σ H x v vl vu lo hi sl Q I rx hs pl pu h;obtain⟨a,xs,rfl,hx,hw,q⟩:=h;cases rx;obtain⟨its,r,ht,hz⟩:=I.tuple hx;have hlen:its.toArray.size=xs.length:=by rw[aI];exact r.length.symm
  refine⟨"tuple",_,PyProof.Rows.slot_tuple_getitem.lookup,ht.typeIs,?_⟩;refine HT.getItem_tuple_cut ht hs pl pu (by rw[hlen];exact hw) ?_ (by rw[hlen];exact hz)
  rw[hlen];refine⟨.ref s.heap.objs.size,_,I.laid (t':=s.toks) (o:=.tup (cutV xs lo hi)) (fun b ob q=>aL _ q) (aB _) ?_,rfl,q _ (I.hok.fresh (aB _))⟩
  exact⟨aF (cutV_length xs lo hi) hz,_,(r.drop (HT.sIx xs.length 0 lo)).take (HT.sIx xs.length xs.length hi - HT.sIx xs.length 0 lo),IsTup.new _ _⟩

noncomputable def rCatT(K:Fg):R2:=fun x y H Q=>∃ a b xs ys,x=.ref a/\y=.ref b/\SqT K H a xs/\SqT K H b ys/\xs≠[]/\xs.length+ys.length<=sizeLine /\
  (ys=[]->Q (.ref a) H)/\(ys≠[]->∀ p,H p=none->Q (.ref p) (upd H p (.tup (xs++ys))))
theorem Vals.nil_iff(r:Vals xs us):us=[]↔xs=[]:=by
  cases r with
  |nil=>simp
  |cons _ _=>simp
theorem op_catT:OpR X (binaryOp .Add) (rCatT X.K):=by
  intro pQ s σ H x y v u Q I rx ry h;obtain⟨a,b,xs,ys,rfl,rfl,ha,hb,hx,hz,q1,q2⟩:=h;cases rx;cases ry;obtain⟨its,r1,p1,_⟩:=I.tuple ha;obtain⟨its2,r2,p2,_⟩:=I.tuple hb;refine HT.cat_tup p1 p2 (fun z=>hx (r1.nil_iff.mp z)) (fun z=>⟨.ref a,H,I,rfl,q1 (r2.nil_iff.mp z)⟩) (fun z=>?_) (by rw[<-r1.length,<-r2.length];exact hz)
  refine⟨.ref s.heap.objs.size,_,I.laid (t':=s.toks) (o:=.tup (xs++ys)) (fun b ob q=>aL _ q) (aB _) ?_,rfl,q2 (fun w=>z (r2.nil_iff.mpr w)) _ (I.hok.fresh (aB _))⟩
  exact⟨by rw[aH];exact hz,_,r1.append r2,IsTup.new _ _⟩
end
noncomputable def ixN(n:Nat)(i:Int):Ot Nat:=if 0<=i then (if i < n then some i.toNat else none) else if -(n:Int)<=i then some (i+n).toNat else none
noncomputable def atI{α:Type}(xs:Li α)(i:Int):Ot α:=(ixN xs.length i).bind fun j=>xs[j]?
variable{n:Nat}
theorem ixN_seq{i:Int}{j:Nat}(h:ixN n i=some j):seqIndex? i n=some j/\j < n/\-(n:Int)<=i/\i < n:=by
  unfold ixN at h;by_cases h0:0<=i
  · rw[if_pos h0]at h
    by_cases h1:i < n
    · rw[if_pos h1]at h
      have e:i.toNat=j:=Option.some.inj h;exact⟨by rw[seqIndex_of h0 h1,e],by omega,by omega,h1⟩
    · rw[if_neg h1]at h;cases h
  · rw[if_neg h0]at h
    by_cases h1:-(n:Int)<=i
    · rw[if_pos h1]at h
      have e:(i+n).toNat=j:=Option.some.inj h;exact⟨by rw[seqIndex_neg (by omega) h1,e],by omega,h1,by omega⟩
    · rw[if_neg h1]at h;cases h
variable{α:Type}
theorem atI_get{xs:Li α}{i:Int}{v:α}(h:atI xs i=some v):∃ j,seqIndex? i xs.length=some j/\xs[j]?=some v/\j < xs.length/\-(xs.length:Int)<=i/\i < xs.length:=by
  unfold atI at h;cases e:ixN xs.length i with
  |none=>rw[e]at h;cases h
  |some j=>
    rw[e]at h;obtain⟨h1,h2,h3,h4⟩:=ixN_seq e;exact⟨j,h1,h,h2,h3,h4⟩

def PlainIx(b:Expr):Prop:=∀ o i,subscripted b false o i=operate [o,i] (getItem o i)
def IxR(X:Cx)(r:R2):Prop:=
  ∀ (value slice:Expr) (pQ:Li (Ad×Obj)) (s:Sd) (σ:St) (H:Hp) (x y:V) (v u:vL) (Q:VK),Inv X pQ σ H s->RelV x v->RelV y u->r x y H Q->
    subscripted slice false v u=operate [v,u] (getItem v u)->wpAny (model X.prog X.w) X.A (subscriptTail value slice v u) (EP X pQ σ Q) X.xe s
def MtR(X:Cx)(id:String)(r:V->Li V->Hp->VK->Prop):Prop:=
  ∀ (pQ:Li (Ad×Obj)) (s:Sd) (σ:St) (H:Hp) (x:V) (xs:Li V) (v:vL) (us:Li vL) (Q:VK),Inv X pQ σ H s->RelV x v->Vals xs us->r x xs H Q->
    wpAny (model X.prog X.w) X.A (call (.builtin id) (v :: us)) (EP X pQ σ Q) X.xe s
variable{x:V}
section
variable {X:Cx}{a b:Expr}{ta tb:TE}{pos:Pos}
theorem pe_ix{r:R2}(hr:IxR X r)(ha:PE X a ta)(hb:PE X b tb)(hs:PlainIx b):PE X (.Subscript a b pos) (tOp r ta tb):=by
  intro pQ s σ H Q I h;exact Subscript_ (binT ha hb I h fun v u s2 x y H2 I2 rx ry q=>hr a b pQ s2 σ H2 x y v u Q I2 rx ry q (hs _ _))

noncomputable def rIxL(K:Fg):R2:=fun x y H Q=>∃ p xs i v,x=.ref p/\y=.int i/\SqL K H p xs/\atI xs i=some v/\Q v H
noncomputable def rIxT(K:Fg):R2:=fun x y H Q=>∃ p xs i v,x=.ref p/\y=.int i/\SqT K H p xs/\atI xs i=some v/\Q v H
noncomputable def rIxS:R2:=fun x y H Q=>∃ z i c,x=.str z/\y=.int i/\z.length<=sizeLine/\atI z.cps.toList i=some c/\Q (.str ⟨#[c]⟩) H
theorem ix_list:IxR X (rIxL X.K):=by
  intro value slice pQ s σ H x y v u Q I rx ry h hs;obtain⟨p,xs,i,z,rfl,rfl,hq,he,q⟩:=h;cases rx;obtain⟨t,rfl⟩:=ry;obtain⟨its,r,pl,hz⟩:=I.list hq;obtain⟨j,h1,h2,h3,h4,h5⟩:=atI_get he;obtain⟨w,ew,rw'⟩:=r.get h2;have hl:=r.length;have hn:=line63;have fin:EP X pQ σ Q w s:=⟨z,H,I,rw',q⟩;by_cases h0:0<=i
  · have hj:i.toNat=j:=by
      rw[seqIndex_of h0 h5]at h1;exact Option.some.inj h1
    exact item_listR pl.isList h0 (by omega) (by rw[hj];simpa using ew) fin hs
  · have hj:(i+(its.toArray.size:Int)).toNat=j:=by
      rw[seqIndex_neg (by omega) h4]at h1
      rw[aI,<-hl];exact Option.some.inj h1
    exact subscriptTail_builtinR (x:=w) pl.isList.typeIs slot_list_getitem.lookup
      (wpAny_getItem_list_neg (Q:=fun r s'=>r=w/\EP X pQ σ Q r s') pl.isList (by omega) (by rw[aI]<;>omega) (by omega) (by rw[hj];simpa using ew) ⟨rfl,fin⟩) hs
theorem ix_tup:IxR X (rIxT X.K):=by
  intro value slice pQ s σ H x y v u Q I rx ry h hs;obtain⟨p,xs,i,z,rfl,rfl,hq,he,q⟩:=h;cases rx;obtain⟨t,rfl⟩:=ry;obtain⟨its,r,pl,hz⟩:=I.tuple hq;obtain⟨j,h1,h2,h3,h4,h5⟩:=atI_get he;obtain⟨w,ew,rw'⟩:=r.get h2;have hl:=r.length;have hn:=line63;have fin:EP X pQ σ Q w s:=⟨z,H,I,rw',q⟩;exact subscriptTail_builtinR (x:=w) pl.typeIs slot_tuple_getitem.lookup
    (getItem_tuple (j:=j) (Q:=fun r s'=>r=w/\EP X pQ σ Q r s') pl (by omega) (by omega) (by rw[aI,<-hl];exact h1) (by simpa using ew) ⟨rfl,fin⟩) hs
theorem ix_str:IxR X rIxS:=by
  intro value slice pQ s σ H x y v u Q I rx ry h hs;obtain⟨z,i,c,rfl,rfl,hz,he,q⟩:=h;obtain⟨t,rfl⟩:=rx;obtain⟨t',rfl⟩:=ry;obtain⟨j,h1,h2,h3,h4,h5⟩:=atI_get he;have hl:z.cps.toList.length=z.length:=by simp[Str.length]
  rw[hl]at h1 h4 h5;have hn:=line63;exact tail_any (typeIs_str s z t) slot_str_getitem.lookup (getItem_str (c:=c) (by
    have e1:decide (i < -(2 ^ 63:Int))=false:=aO (by omega)
    have e2:decide (i>=2 ^ 63)=false:=aO (by omega)
    rw[e1,e2,Bool.or_false]) (by rw[h1];simpa using h2) ⟨.str ⟨#[c]⟩,H,I.tok _,⟨_,rfl⟩,q⟩) hs


theorem slice_bounds(lo hi:Ot Int)(n:Nat):(sliceBounds lo hi none n).1=((HT.sIx n 0 lo:Nat):Int)/\(sliceBounds lo hi none n).2.1=((HT.sIx n n hi:Nat):Int)/\(sliceBounds lo hi none n).2.2=1:=by
  refine⟨?_,?_,rfl⟩
  · cases lo with
    |none=>simp[sliceBounds,HT.sIx]
    |some i=>
      simp only[sliceBounds,HT.sIx,Option.getD_none,show(1:Int) > 0 by decide,if_true]
      by_cases h:i < 0
      · simp only[h,if_true]<;>omega
      · simp only[h,if_false]<;>omega
  · cases hi with
    |none=>simp[sliceBounds,HT.sIx]
    |some i=>
      simp only[sliceBounds,HT.sIx,Option.getD_none,show(1:Int) > 0 by decide,if_true]
      by_cases h:i < 0
      · simp only[h,if_true]<;>omega
      · simp only[h,if_false]<;>omega
theorem slicePick_cut(its:Li vL)(lo hi:Ot Int):slicePick its.toArray lo hi none=((its.drop (HT.sIx its.length 0 lo)).take (HT.sIx its.length its.length hi - HT.sIx its.length 0 lo)).toArray:=by
  obtain⟨h1,h2,h3⟩:=slice_bounds lo hi its.toArray.size;unfold slicePick;rw[h1,h2,h3];simp only[sliceRange_one,pick_run,aI]<;>rfl
def rSlL(K:Fg):V->Ot Int->Ot Int->Hp->VK->Prop:=fun x lo hi H Q=>∃ a xs,x=.ref a/\SqL K H a xs/\∀ p,H p=none->Q (.ref p) (upd H p (.lst (cutV xs lo hi)))
theorem sl_list:SlR X (rSlL X.K):=by
  intro pQ s σ H x v vl vu lo hi sl Q I rx hs pl pu h;obtain⟨a,xs,rfl,hx,q⟩:=h;cases rx;obtain⟨its,r,ht,hz⟩:=I.list hx;have hlen:=r.length;refine⟨"list",_,slot_list_getitem.lookup,ht.isList.typeIs,?_⟩;refine wpAny_getItem_list_slice ht.isList hs pl pu .none (by simp) ?_ (by rw[aI]<;>omega)
  rw[slicePick_cut,<-hlen];refine⟨.ref s.heap.objs.size,_,I.laid (t':=s.toks) (o:=.lst (cutV xs lo hi)) (fun b ob q=>aL _ q) (aB _) ?_,rfl,q _ (I.hok.fresh (aB _))⟩
  exact⟨aF (cutV_length xs lo hi) hz,_,0,(r.drop (HT.sIx xs.length 0 lo)).take (HT.sIx xs.length xs.length hi - HT.sIx xs.length 0 lo),aV _ rfl⟩

noncomputable def flatV:V->Bool
  |.non=>true
  |.bl _=>true
  |.int _=>true
  |.str _=>true
  |_=>false
noncomputable def eqV:V->V->Bool
  |.non,.non=>true
  |.bl a,.bl b=>a==b
  |.bl a,.int b=>(if a then 1 else 0)==b
  |.int a,.bl b=>a==(if b then 1 else 0)
  |.int a,.int b=>a==b
  |.str a,.str b=>a==b
  |_,_=>false
theorem eqAt_V{A:Around}{s:Sd}{y:V}{u v:vL}(ry:RelV y u)(rx:RelV x v)(fy:flatV y=true)(fx:flatV x=true):SeqAt.EqAt A s u v (eqV y x):=by
  cases y with
  |non=>
    cases ry;cases x with
    |non=>cases rx;exact SeqAt.EqAt.same _
    |bl b=>cases rx;exact SeqAt.EqAt.none_bool b
    |int b=>obtain⟨t,rfl⟩:=rx;exact SeqAt.EqAt.none_int b t
    |str b=>obtain⟨t,rfl⟩:=rx;exact SeqAt.EqAt.none_str b t
    |_=>exact absurd (show false=true from fx) Bf
  |bl a=>
    cases ry;cases x with
    |non=>cases rx;exact SeqAt.EqAt.bool_none a
    |bl b=>cases rx;exact SeqAt.EqAt.bool_bool a b
    |int b=>obtain⟨t,rfl⟩:=rx;exact SeqAt.EqAt.bool_int a b t
    |str b=>obtain⟨t,rfl⟩:=rx;exact SeqAt.EqAt.bool_str a b t
    |_=>exact absurd (show false=true from fx) Bf
  |int a=>
    obtain⟨t',rfl⟩:=ry;cases x with
    |non=>cases rx;exact SeqAt.EqAt.int_none a t'
    |bl b=>cases rx;exact SeqAt.EqAt.int_bool a t' b
    |int b=>obtain⟨t,rfl⟩:=rx;exact SeqAt.EqAt.int_int a t' b t
    |str b=>obtain⟨t,rfl⟩:=rx;exact SeqAt.EqAt.int_str a t' b t
    |_=>exact absurd (show false=true from fx) Bf
  |str a=>
    obtain⟨t',rfl⟩:=ry;cases x with
    |non=>cases rx;exact SeqAt.EqAt.str_none a t'
    |bl b=>cases rx;exact SeqAt.EqAt.str_bool a t' b
    |int b=>obtain⟨t,rfl⟩:=rx;exact SeqAt.EqAt.str_int a t' b t
    |str b=>obtain⟨t,rfl⟩:=rx;exact SeqAt.EqAt.str_str a t' b t
    |_=>exact absurd (show false=true from fx) Bf
  |_=>exact absurd (show false=true from fy) Bf
noncomputable def eqU(x:V)(u:vL):Bool:=match u with
  |.none=>eqV .non x
  |.bool b=>eqV (.bl b) x
  |.int i _=>eqV (.int i) x
  |.str z _=>eqV (.str z) x
  |_=>false
theorem eqU_of{y:V}{u:vL}(r:RelV y u)(f:flatV y=true):eqU x u=eqV y x:=by
  cases y with
  |non=>cases r;rfl
  |bl b=>cases r;rfl
  |int i=>obtain⟨t,rfl⟩:=r;rfl
  |str z=>obtain⟨t,rfl⟩:=r;rfl
  |_=>exact absurd (show false=true from f) Bf
theorem any_eqU{x:V}:∀ {xs:Li V}{us:Li vL},Vals xs us->xs.all flatV=true->us.any (eqU x)=xs.any fun y=>eqV y x
  |_,_,.nil,_=>rfl
  |y :: xs,u :: us,.cons r t,f=>by
    rw[bA,Ba]at f;rw[cF,cF,eqU_of r f.1,any_eqU t f.2]
theorem mem_eqAt{A:Around}{s:Sd}{x:V}{v:vL}(rx:RelV x v)(fx:flatV x=true):∀ {xs:Li V}{us:Li vL},Vals xs us->xs.all flatV=true->∀ u∈us,SeqAt.EqAt A s u v (eqU x u)
  |_,_,.nil,_=>fun u hu=>by cases hu
  |y :: xs,u :: us,.cons r t,f=>fun u' hu=>by
    rw[bA,Ba]at f;rcases aJ.mp hu with rfl|hu
    · rw[eqU_of r f.1];exact eqAt_V r rx f.1 fx
    · exact mem_eqAt rx fx t f.2 u' hu
noncomputable def inV(x:V)(xs:Li V):Bool:=xs.any fun y=>eqV y x
noncomputable def rIn(K:Fg)(neg:Bool):R2:=fun x y H Q=>∃ p xs,y=.ref p/\(SqL K H p xs\/SqT K H p xs)/\flatV x=true/\xs.all flatV=true/\Q (.bl (if neg then !inV x xs else inV x xs)) H
theorem op_in_seq:OpR X (compareOp .In) (rIn X.K false):=by
  intro pQ s σ H x y v u Q I rx ry h;obtain⟨p,xs,rfl,hq,fx,fs,q⟩:=h;cases ry;rcases hq with hq|hq
  · obtain⟨its,r,pl,hz⟩:=I.list hq
    refine SeqAt.in_listAt (eqU x) pl.isList (fun w hw=>mem_eqAt rx fx r fs w (by simpa using hw)) ⟨.bl _,H,I,rfl,?_⟩
    rw[show its.toArray.any (eqU x)=its.any (eqU x) by simp,any_eqU r fs]
    exact q
  · obtain⟨its,r,pl,hz⟩:=I.tuple hq
    refine SeqAt.in_tupleAt (eqU x) pl (fun w hw=>mem_eqAt rx fx r fs w (by simpa using hw)) ⟨.bl _,H,I,rfl,?_⟩
    rw[show its.toArray.any (eqU x)=its.any (eqU x) by simp,any_eqU r fs]
    exact q
theorem op_notIn_seq:OpR X (compareOp .NotIn) (rIn X.K true):=by
  intro pQ s σ H x y v u Q I rx ry h;obtain⟨p,xs,rfl,hq,fx,fs,q⟩:=h;cases ry;rcases hq with hq|hq
  · obtain⟨its,r,pl,hz⟩:=I.list hq
    refine SeqAt.notIn_listAt (eqU x) pl.isList (fun w hw=>mem_eqAt rx fx r fs w (by simpa using hw)) ⟨.bl _,H,I,rfl,?_⟩
    rw[show its.toArray.any (eqU x)=its.any (eqU x) by simp,any_eqU r fs]
    exact q
  · obtain⟨its,r,pl,hz⟩:=I.tuple hq
    refine SeqAt.notIn_tupleAt (eqU x) pl (fun w hw=>mem_eqAt rx fx r fs w (by simpa using hw)) ⟨.bl _,H,I,rfl,?_⟩
    rw[show its.toArray.any (eqU x)=its.any (eqU x) by simp,any_eqU r fs]
    exact q
theorem op_notIn_str:OpR X (compareOp .NotIn) (fun x y H Q=>∃ i j,x=.str i/\y=.str j/\Q (.bl (!(!(Builtin.Str.occurrences j i 0 j.length 1).isEmpty))) H):=by
  intro pQ s σ H x y v u Q I rx ry h;obtain⟨i,j,rfl,rfl,q⟩:=h;obtain⟨t,rfl⟩:=rx;obtain⟨t',rfl⟩:=ry;exact notIn_str ⟨.bl _,H,I,rfl,q⟩

theorem call_len_seq:CallR X (.builtin "len") (fun xs H Q=>∃ p ys,xs=[.ref p]/\(SqL X.K H p ys\/SqT X.K H p ys)/\Q (.int ys.length) H):=by
  intro pQ s σ H xs us Q I r h;obtain⟨p,ys,rfl,hq,q⟩:=h;obtain⟨u,rfl,rx⟩:=vals1 r;cases rx;have hn:=line63;rcases hq with hq|hq
  · obtain⟨its,r',pl,hz⟩:=I.list hq
    have hlen:=r'.length;exact Calls.call_len_list pl.isList (by simp only[aI]<;>omega) ⟨.int ys.length,H,I.tok _,⟨s.toks+1,by rw[aI,hlen]⟩,q⟩
  · obtain⟨its,r',pl,hz⟩:=I.tuple hq
    have hlen:=r'.length;exact len_tuple pl (by simp only[aI]<;>omega) ⟨.int ys.length,H,I.tok _,⟨s.toks+1,by rw[aI,hlen]⟩,q⟩
theorem call_tuple_of:CallR X (.type "tuple") (fun xs H Q=>∃ p ys,xs=[.ref p]/\((SqL X.K H p ys/\∀ l,H l=none->Q (.ref l) (upd H l (.tup ys)))\/(SqT X.K H p ys/\Q (.ref p) H))):=by
  intro pQ s σ H xs us Q I r h;obtain⟨p,ys,rfl,h⟩:=h;obtain⟨u,rfl,rx⟩:=vals1 r;cases rx;rcases h with⟨hq,q⟩|⟨hq,q⟩
  · obtain⟨its,r',pl,hz⟩:=I.list hq
    have hlen:=r'.length;refine call_tuple_list pl.isList (fun h' kp=>?_) (by simp only[aI]<;>omega)
    have I1:Inv X pQ σ H { s with heap:=h' }:=I.kept (t':=s.toks) kp
    have I2:Inv X pQ σ (upd H h'.objs.size (.tup ys)) { s with heap:=h'.push { cls:=.type "tuple",data:=.seq its.toArray } }:=
      I1.laid (t':=s.toks) (fun b o e=>aL _ e) (aB _) (show ObjOk X.prog X.w _ _ _ (.tup ys) from⟨hz,its,r',IsTup.new _ _⟩)
    exact⟨.ref h'.objs.size,_,I2,rfl,q _ (I1.hok.fresh (aB _))⟩
  · obtain⟨its,r',pl,hz⟩:=I.tuple hq
    exact call_tuple_same pl ⟨.ref p,H,I,rfl,q⟩

def tyV(K:Fg)(T:String)(x:V)(H:Hp):Prop:=match x with
  |.str _=>T = "str"
  |.int _=>T = "int"
  |.ref p=>(T = "list"/\∃ xs,SqL K H p xs)\/(T = "tuple"/\∃ o,K.lookup p=some o/\o.cls=.type "tuple"/\o.dict=none) \/
      (T = "dict"/\((∃ kvs,H p=some (.dK kvs))\/∃ kvs,H p=some (.dT kvs)))\/(T = "set"/\∃ S n,H p=some (.set S n))
  |_=>False
theorem tyV_is{pQ:Li (Ad×Obj)}{σ:St}{H:Hp}{s:Sd}{T:String}{v:vL}(I:Inv X pQ σ H s)(r:RelV x v)(ty:tyV X.K T x H) :
    s.TypeIs v T/\∀ a,v=.ref a->∃ ob,s.heap.get? a=some ob/\ob.dict=none:=by
  cases x with
  |str z=>
    obtain⟨t,rfl⟩:=r;cases (show T = "str" from ty)
    exact⟨typeIs_str s z t,fun _ e=>nomatch e⟩
  |int i=>
    obtain⟨t,rfl⟩:=r;cases (show T = "int" from ty)
    exact⟨typeIs_int s i t,fun _ e=>nomatch e⟩
  |ref p=>
    cases r;rcases ty with⟨rfl,xs,hq⟩|⟨rfl,o,hk,hc,hd⟩|⟨rfl,hk⟩|⟨rfl,S,n,hk⟩
    · obtain⟨its,_,pl,_⟩:=I.list hq
      refine⟨pl.isList.typeIs,fun a e=>?_⟩
      cases e;obtain⟨o,n,e,c,hd,_⟩:=pl;exact⟨o,e,hd⟩
    · refine⟨⟨o,I.kIn p o hk,hc⟩,fun a e=>?_⟩
      cases e;exact⟨o,I.kIn _ o hk,hd⟩
    · have z:∃ o,s.heap.get? p=some o/\o.ExactDict:=by
        rcases hk with⟨kvs,hk⟩|⟨kvs,hk⟩
        · obtain⟨_,_,_,_,o,_,_,e,ex,_⟩:=I.hok p _ hk
          exact⟨o,e,ex⟩
        · obtain⟨_,_,_,_,o,_,_,e,ex,_⟩:=I.hok p _ hk
          exact⟨o,e,ex⟩
      obtain⟨o,e,ex⟩:=z;refine⟨⟨o,e,ex.1⟩,fun a e2=>?_⟩
      cases e2;exact⟨o,e,ex.2.1⟩
    · obtain⟨o,_,_,_,e,ex,_⟩:=I.hok p _ hk
      refine⟨⟨o,e,ex.1⟩,fun a e2=>?_⟩
      cases e2;exact⟨o,e,ex.2.1⟩
  |_=>exact False.elim ty
noncomputable def tBM(K:Fg)(T:String)(r:V->Li V->Hp->VK->Prop)(to:TE)(t:TA):TE:=fun σ H Q=>to σ H fun x H1=>tyV K T x H1/\t σ H1 fun xs H2=>r x xs H2 Q
variable {o e:Expr}{es:Li Expr}{to:TE}{t:TA}{name:Str}{apos cpos:Pos}{T id:String}{r:V->Li V->Hp->VK->Prop}
theorem pe_bm(pa:PlainAttrs T)(slot:Slot T name id)(hty:typeOf (.builtin id)=pure (.type "method_descriptor"))(hm:MtR X id r)(ho:PE X o to)(ha:PA X (e :: es) t)(hbase:attributeBase o name X.env (eval o X.env)=eval o X.env:=by rfl)(hfew:((backTo cpos (starEach (e :: es) X.env)).all (fun x=>!x.1)&&(backToKw cpos (keywordEach [] X.env)).all (fun x=>x.1.isSome)
     &&decide ((e :: es).length+([]:Li Keyword).length+(if ([]:Li Keyword).isEmpty then 0 else 1) < 30))=true:=by rfl)(hline:(apos.endLine==cpos.line)=true:=by rfl)(hs:starEach (e :: es) X.env=(false,eval e X.env) :: starEach es X.env:=by rfl)(hplain:(backTo cpos (starEach es X.env)).any (·.1)=false:=by rfl) :
    PE X (.Call (.Attribute o name apos) (e :: es) [] cpos) (tBM X.K T r to t):=by
  intro pQ s σ H Q I h;refine wpAny_Call_method_late hbase hfew hline rfl (thn (ho pQ s σ H _ I h) fun v s1 ⟨x,H1,I1,r1,ty,q1⟩=>?_)
  obtain⟨h1,h2⟩:=tyV_is I1 r1 ty;refine⟨T,id,pa,slot,hty,h1,h2,?_⟩;have hA:=ha cpos pQ s1 σ H1 _ I1 q1;rw[hs]at hA ⊢;refine Calls.callWith_builtin (by show(false||(backTo cpos (starEach es X.env)).any (·.1))=false;rw[hplain]<;>rfl) (Calls.evalArgs_plain ?_)
  exact thn hA fun us s2 ⟨vs,H2,I2,r2,q2⟩=>hm pQ s2 σ H2 x vs v us Q I2 r1 r2 q2
end
def MtM(X:Cx)(id:String)(r:V->Li V->Hp->VK->Prop):Prop:=
  ∀ (pQ:Li (Ad×Obj)) (s:Sd) (σ:St) (H:Hp) (x:V) (xs:Li V) (v:vL) (us:Li vL) (Q:VK),Inv X pQ σ H s->RelV x v->Vals xs us->r x xs H Q->
    wpAny (model X.prog X.w) X.A (call (.builtin id) (v :: us)) (EP X pQ σ Q) X.xe s

theorem Vals.one(h:Vals [x] us):∃ u,us=[u]/\RelV x u:=by
  cases h with
  |cons r h=>cases h;exact⟨_,rfl,r⟩
theorem Vals.rep(h:Vals xs us):∀ k:Nat,Vals (List.replicate k xs).flatten (List.replicate k us).flatten
  |0=>.nil
  |k+1=>by
    rw[cH,cH,cZ,cZ];exact Vals.append h (Vals.rep h k)
theorem foldl_rep(its:Li vL):∀ (k:Nat) (acc:Li vL),
    List.foldl (fun x1 x2=>x1++x2) acc.toArray (List.replicate k its.toArray)=(acc++(List.replicate k its).flatten).toArray
  |0,acc=>by simp
  |k+1,acc=>by
    have e:acc.toArray++its.toArray=(acc++its).toArray:=by simp
    have e2:(acc++its)++(List.replicate k its).flatten=acc++(List.replicate (k+1) its).flatten:=by
      rw[cH,cZ,bN]
    rw[<-e2,<-foldl_rep its k (acc++its),<-e,cH,List.foldl_cons]

variable{its:Li vL}
section
variable {X:Cx}{pQ:Li (Ad×Obj)}{σ:St}{H:Hp}{s:Sd}{l b:Ad}{xs ys zs:Li V}

theorem Inv.lset{its':Li vL}{f:Array vL->Array vL}{t':Nat}(I:Inv X pQ σ H s)(hH:H l=some (.lst xs))(e:s.heap.get? l=some { cls:=.type "list",data:=.seq its.toArray n })(hf:f its.toArray=its'.toArray)(hv:Vals ys its')(hz:ys.length<=sizeLine) :
    Inv X pQ σ (upd H l (.lst ys)) { s with heap:=s.heap.update l (Obj.mapSeq f),toks:=t' }:=by
  have q:=PySem.IsL.update e f;rw[hf]at q;refine I.write (x:=l) (e:=l) (by rw[hH];exact trivial) (.inl rfl) (fun b' u hb hu=>(Heap.get?_update_other s.heap (Obj.mapSeq f) (Ne.symm hb)).trans hu) ⟨_,q⟩ ?_
  exact⟨hz,its',_,hv,q⟩
theorem Inv.lnew{t':Nat}(I:Inv X pQ σ H s)(hv:Vals ys its)(hz:ys.length<=sizeLine) :
    Inv X pQ σ (upd H s.heap.objs.size (.lst ys)) { s with heap:=s.heap.push { cls:=.type "list",data:=.seq its.toArray },toks:=t' }:=
  I.laid (fun _ _ q=>aL _ q) (aB _) ⟨hz,its,0,hv,aV _ rfl⟩
theorem Inv.fresh(I:Inv X pQ σ H s):H s.heap.objs.size=none:=I.hok.fresh (aB _)
theorem Inv.lstM(I:Inv X pQ σ H s)(hH:H l=some (.lst xs)):xs.length<=sizeLine/\∃ (its:Li vL) (n:Nat),Vals xs its/\xs.length=its.length/\s.heap.get? l=some { cls:=.type "list",data:=.seq its.toArray n }:=by
  obtain⟨z,its,n,r,e⟩:=I.hok l _ hH;exact⟨z,its,n,r,r.length,e⟩

theorem notLongL(h:n<=sizeLine):Builtin.List.listTooLong n=false:=by
  unfold Builtin.List.listTooLong;exact aO (by omega)
end

section
variable {X:Cx}

def rAppend:V->Li V->Hp->VK->Prop:=fun x vs H Q=>∃ l xs y,x=.ref l/\vs=[y]/\H l=some (.lst xs)/\xs.length < sizeLine/\Q .non (upd H l (.lst (xs++[y])))
theorem mt_append:MtM X "list.append" rAppend:=by
  intro pQ s σ H x vs v us Q I rx rv h;obtain⟨l,xs,y,rfl,rfl,hH,hz,q⟩:=h;cases rx;obtain⟨u,rfl,ru⟩:=rv.one;obtain⟨z,its,n,r,hl,e⟩:=I.lstM hH;refine call_meets F.slot_list_append ⟨_,e,rfl⟩ F.entry_list_append (F.args_list_append_2 _ _) (PySem.list_append l its.toArray n u (by rw[aI];omega)) ⟨e,?_⟩
  refine⟨.non,_,I.lset (its':=its++[u]) hH e (by simp) (r.append (.cons ru .nil)) ?_,rfl,q⟩
  rw[aH,cI];omega






noncomputable def rRep:R2:=fun x y H Q=>∃ l k xs,x=.ref l/\y=.int k/\H l=some (.lst xs)/\-(2 ^ 63)<=k/\k < 2 ^ 63/\xs.length * k.toNat<=sizeLine /\
  ∀ p,H p=none->Q (.ref p) (upd H p (.lst (List.replicate k.toNat xs).flatten))
theorem len_rep(xs:Li α)(k:Nat):(List.replicate k xs).flatten.length=k * xs.length:=by
  induction k with
  |zero=>simp
  |succ k ih=>rw[cH,cZ,aH,ih,Nat.succ_mul,Nat.add_comm]
theorem op_rep:OpR X (binaryOp .Mult) rRep:=by
  intro pQ s σ H x y v u Q I rx ry h;obtain⟨l,k,xs,rfl,rfl,hH,h1,h2,hz,q⟩:=h;cases rx;obtain⟨t,rfl⟩:=ry;obtain⟨z,its,n,r,hl,e⟩:=I.lstM hH;have hlen:its.toArray.size * k.toNat<=sizeLine:=by rw[aI,<-hl];exact hz
  have hcap:¬its.toArray.size * k.toNat > (2 ^ 63 - 1) / 8:=by
    have:(sizeLine:Nat)<=(2 ^ 63 - 1) / 8:=by decide
    omega
  have hfit:¬(!Builtin.List.listFitsIndex k)=true:=by
    rw[fitsIndex_both h1 h2];exact Bf
  have hlong:¬Builtin.List.listTooLong (its.toArray.size * k.toNat)=true:=by
    rw[notLongL hlen];exact Bf
  have hnew:List.foldl (fun x1 x2=>x1++x2) #[] (List.replicate (if its.toArray.isEmpty=true then 0 else k.toNat) its.toArray)=(List.replicate k.toNat its).flatten.toArray:=by
    have f0:∀ m:Nat,List.foldl (fun x1 x2=>x1++x2) #[] (List.replicate m its.toArray)=(List.replicate m its).flatten.toArray:=fun m=>by
      have:=foldl_rep its m [];rw[List.nil_append]at this;exact this
    rw[f0];cases its with
    |nil=>simp
    |cons a r'=>rw[if_neg (by simp)]
  refine wpAny_binaryOp_repeat_ref (T := "list") (U := "int") (by decide) ⟨_,e,rfl⟩ (fun s'=>typeIs_int s' k t) noFill_list_mul F.fills_int_mul F.slot_int_rmul repeat_list F.slot_int_index.lookup
    (call_meets F.slot_int_rmul (typeIs_int s k t) F.entry_int_rmul (F.args_int_rmul_2 _ _) (int___rmul___int_list k t l its.toArray n)
      ⟨e,rfl,⟨_,e,rfl⟩,call_meets F.slot_list_mul ⟨_,e,rfl⟩ F.entry_list_mul (F.args_list_mul_2 _ _) (AutoListH.list___mul___list_int_3 l its.toArray n k t hfit hcap hlong) ⟨e,?_⟩⟩)
  rw[hnew];exact⟨.ref _,_,I.lnew (t':=s.toks) (r.rep k.toNat) (by rw[len_rep,Nat.mul_comm];exact hz),rfl,q _ I.fresh⟩

end

section
variable {prog:Program}{w:World}{A:Around}{E:vL->Sd->Prop}{s:Sd}
end

section
variable {X:Cx}
end
end L2

namespace Att
open PySem PySem.W PySem.Calls PyProof.Rows

variable{h:Heap}
theorem ints_of_wellAll{P:Params}:∀ (ns:Li Int) (vs:Li vL),WellAll P h vs (ns.map WData.int)->IntsAre vs ns:=by
  intro ns
  induction ns with
  |nil=>
    intro vs w;rw[List.map_nil]at w;cases w;exact .nil
  |cons n ns ih=>
    intro vs w;rw[aM]at w;cases w with
    |cons a b=>
      cases a;exact .cons _ _ (ih _ b)

variable{l:OpenLaw}
theorem script_of{n:Nat}(hn:l.most=some n){P:Params}{args:Li WData}{vals:Li vL}(hpre:l.row.toRowW.claim.pre args=true)(hwl:WellAll P h vals args) :
    ∃ a vs ns,vals=[Value.ref a]/\args=[WData.list (ns.map WData.int)]/\h.get? a=some { cls:=.type "list",data:=.seq vs.toArray }/\IntsAre vs ns/\ns.length<=n:=by
  have hsh:WShape.hasAll [] args [.list .int]=true:=(pre_splitW hpre).1;have hc:l.pre.holds [] { args:=args }=true:=(pre_splitW hpre).2;obtain⟨d,r,rfl,h1,h2⟩:=hasAllW_cons hsh;obtain rfl:=hasAllW_nil h2;obtain⟨xs,rfl,h3⟩:=hasW_list h1;obtain⟨ns,rfl⟩:=items_int h3;have hlen:ns.length<=n:=by
    unfold OpenLaw.pre at hc;have h4:(WTm.not (.lt (.lit (.int (n:Int))) (.len (.arg 0)))).holds [] { args:=[.list (ns.map .int)] }=true:=by
      have h4:=(holds_andW hc).1;rw[hn]at h4;exact h4
    have h5:=condW_of h4 (w_not (w_lt w_lit (w_len_list (w_arg rfl))));rw[aD]at h5;refine dA fun q=>?_
    have q':(n:Int) < ((ns.length:Nat):Int):=by omega
    first
      | (rw[aK q']at h5;exact absurd h5 (by decide))
      | (simp at h5;omega)
  cases hwl with
  |cons w1 w2=>
    cases w2;cases w1 with
    |list ho hall=>exact⟨_,_,ns,rfl,rfl,ho,ints_of_wellAll ns _ hall,hlen⟩

theorem post_true(l:OpenLaw)(args:Li WData):l.row.toRowW.claim.post args (.bool true) args=true:=
  postW_of (r:=l.row.toRowW) (X:=(true==true))
    (show WShape.has [] (.bool true) .bool=true by first|rfl|decide|simp[WShape.has,WShape.arms,WShape.armsAll])
    (show(WTm.eq .res (.lit (.bool true))).value [] { args:=args,res:=some (.bool true),after:=args }=some (.bool (true==true)) from w_eq_bool (w_res rfl) w_lit) rfl


theorem attach_call{n:Nat}{q:Program}{loose:Li Str}{XP:(Str->Ot vL)->Heap->Prop}{YP:World->Heap->Prop}{d:DefRec}(hn:l.most=some n)(hdf:d.params.defaults=[])(call:∀ (w:World) (s₀ s₁:Sd) (mg mb:Str->Ot vL) (fa:Ad) (o:Obj) (pm cd doc:vL) (a:Ad) (vs:Li vL) (ns:Li Int),
      Ground q loose [] XP w s₀ mg mb s₁.heap->YP w s₁.heap->
      s₁.heap.get? fa=some o->o.data=.func (docDef d.name d.params d.body d.scope pm cd doc)->s₁.heap.CodeRec cd d.name->mg d.name=some (.ref fa)->
      s₁.heap.get? a=some { cls:=.type "list",data:=.seq vs.toArray }->IntsAre vs ns->ns.length<=n->s₁.gens=#[]->
      codeAny (model l.prog w) callerA (.call (.ref fa) ⟨[.ref a],[]⟩) (fun r s'=>r=.ok (.ret (.bool true))/\OldK s₁.heap s'.heap/\s'.os=s₁.os/\AllBare s'.gens) s₁) :
    WalkO q loose XP YP l.row.toRowW d [] (fun f vs=>PySem.call f vs):=by
  intro w s₀ s₁ mg mb G Y fa o pm cd doc dV kV ho hd hcd hD hmg hg args vals as hpre hlay hrd hwl hlo;obtain rfl:dV=.none:=Dflts.none hD hdf;obtain rfl:kV=.none:=Dflts.noKw hD;obtain⟨a,vs,ns,rfl,rfl,hobj,hints,hlen⟩:=script_of hn hpre hwl;refine enter_call (codeAny_mono (call w s₀ s₁ mg mb fa o pm cd doc a vs ns G Y ho (fd_plain hd) hcd hmg hobj hints hlen hg) fun r s' hq=>?_)
  obtain⟨rfl,h2,h3,h4⟩:=hq;exact⟨.inl ⟨.bool true,.bool true,[],rfl,fun _=>rfl,.bool true,post_true l _,fun _=>⟨List.Pairwise.nil,fun _ hm=>(nomatch hm)⟩⟩,h2,h3,h4⟩


section
variable {prog:Program}{w:World}{A:Around}{E:vL->Sd->Prop}{s:Sd}{K:Frag}






end
end Att

namespace L2
open PySem PySem.Spec PyProof.Rows

theorem vals_ints:∀ {vs:Li vL}{ns:Li Int},IntsAre vs ns->Vals (ns.map V.int) vs
  |_,_,.nil=>.nil
  |_,_,.cons n t h=>.cons ⟨t,rfl⟩ (vals_ints h)

def Only(H:Hp):Prop:=∀ b,H b=none\/∃ o xs,H b=some (.frz o (.lst xs))

variable{w:World}
theorem law_call{P:Program}{K:Fg}{mg mb:Str->Ot vL}{CX:CXT}{k:Nat}{fa a:Ad}{fd:FuncData}{x:Str}{sp:Sp}{s₁:Sd}{vs:Li vL}{ns:Li Int}(KX:K.In s₁.heap)(hns:s₁.heap.Ns mainGlobals mg)(hb:s₁.heap.Ns builtinsNs mb)(hbb:∀ x:Str,x ≠ "__name__"->mb x=bootBuiltins x)(hlim:s₁.heap.NoLimit)(hg:s₁.gens=#[])(ha:s₁.heap.get? a=some { cls:=.type "list",data:=.seq vs.toArray })(hi:IntsAre vs ns)(hl:ns.length<=sizeLine)(hr:Room k callerA)(F:∀ base:Heap,K.In base->base.Ns mainGlobals mg->FnOk P w K mg base CX k fa fd [x] sp)(hbind:∀ (s:Sd) (u:vL),BindsTo s fd ⟨[u],[]⟩ [(x,u)])(hsp:∀ H:Hp,Only H->SqL K H a (ns.map V.int)->sp [.ref a] H (fun v _=>v=.bl true) fun _ _ _=>False)(hCX:∀ H e s',CX [] H s₁ (fun _ _ _=>False) e s'->False) :
    codeAny (model P w) callerA (.call (.ref fa) ⟨[.ref a],[]⟩) (fun r s'=>r=.ok (.ret (.bool true))/\OldK s₁.heap s'.heap/\s'.os=s₁.os/\AllBare s'.gens) s₁:=by
  have rv:=vals_ints hi;have lenV:=hi.length
  -- from an abstract heap in which nothing but the script may be tracked
  have core:∀ H:Hp,Only H->SqL K H a (ns.map V.int)->HOk P w H s₁.heap->(∀ b,H b≠none->b=a)->(H a≠none->K.lookup a=none)->
      codeAny (model P w) callerA (.call (.ref fa) ⟨[.ref a],[]⟩) (fun r s'=>r=.ok (.ret (.bool true))/\OldK s₁.heap s'.heap/\s'.os=s₁.os/\AllBare s'.gens) s₁:=by
    intro H hO hS hok hA hK;have base_of:∀ {b:Ad}{o:Obj},s₁.heap.get? b=some o->H b=none->(hidT s₁.heap H).get? b=some o:=fun e n=>hidT_get e n
    have noA:∀ {b:Ad}{o:Obj}{es:Array DictEntry}{ep:Nat},s₁.heap.get? b=some o->o.data=.dict es ep->H b=none:=fun {b o es ep} e d=>by
      cases q:H b with
      |none=>rfl
      |some u=>
        have e':b=a:=hA b (by rw[q];simp)
        subst e';rw[ha]at e;cases e
        have d':Data.seq vs.toArray _=Data.dict es ep:=d;cases d'
    have nsK:∀ {b:Ad}{m:Str->Ot vL},s₁.heap.Ns b m->(hidT s₁.heap H).Ns b m:=fun {b m} ⟨o,es,ep,e,d,r⟩=>⟨o,es,ep,base_of e (noA e d),d,r⟩
    have hKb:K.In (hidT s₁.heap H):=fun b o e=>base_of (KX b o e) (by
      cases q:H b with
      |none=>rfl
      |some u=>
        have e':b=a:=hA b (by rw[q];simp)
        subst e';rw[hK (by rw[q];simp)]at e;cases e)
    have hM:Mod K mg (hidT s₁.heap H):=⟨hKb,nsK hns,⟨mb,nsK hb,hbb⟩,let ⟨mc,h1,h2⟩:=hlim;⟨mc,nsK h1,h2⟩⟩
    have e0:Env0 P w K mg (hidT s₁.heap H) callerA [] s₁ H:=⟨rfl,hM,fun b o e=>of_hidT e,cP (hidT_size _ _),trivial,fun b hb=>absurd (show b∈([]:Li Ad) from hb) (by simp),hok,.of_eq hg⟩
    refine codeAny_mono ((F _ hKb (nsK hns)).run callerA [] s₁ H ⟨[.ref a],[]⟩ [.ref a] [.ref a] _ _ hr e0 (hbind s₁ (.ref a)) (.cons rfl .nil) (hsp H hO hS)) fun r s' h=>?_
    cases r with
    |error e=>exact(hCX H e s' h).elim
    |ok fl=>
      cases fl with
      |next=>exact False.elim h
      |brk=>exact False.elim h
      |cont=>exact False.elim h
      |ret u=>
        obtain⟨v,H',os,bare,un,hok',r',q⟩:=h;have q':v=.bl true:=q;subst q';obtain rfl:u=Value.bool true:=r';refine⟨rfl,OldK.of_keep fun b o e=>?_,os,bare⟩
        cases q:H b with
        |none=>exact un.keep b o e q (by intro z;exact absurd (show b∈([]:Li Ad) from z) (by simp)) (by simp)
        |some u=>
          rcases hO b with z|⟨ob,xs,z⟩
          · rw[q]at z;cases z
          · have z2:=un.frzs b ob _ z
            obtain⟨e1,_⟩:=hok b _ z;obtain⟨e2,_⟩:=hok' b _ z2;rw[e]at e1;cases e1
            exact e2
  cases hk:K.lookup a with
  |some o=>
    -- the script is one of the module's own objects
    have e:=KX a o hk;rw[ha]at e;cases e;refine core (fun _=>none) (fun _=>.inl rfl) (.inr ⟨_,vs.toArray,_,hk,rfl,rfl,rfl,by rw[aI,lenV];exact hl,by simpa using rv⟩) (fun b u z=>by have z':(none:Ot HO)=some u:=z;cases z') (fun b z=>absurd rfl z) fun z=>absurd rfl z
  |none=>
    refine core (fun b=>if b=a then some (.frz { cls:=.type "list",data:=.seq vs.toArray } (.lst (ns.map V.int))) else none) (fun b=>?_) (.inl (.inr ⟨{ cls:=.type "list",data:=.seq vs.toArray },if_pos rfl⟩)) (fun b u z=>?_) (fun b z=>?_) fun _=>hk
    · by_cases hb:b=a
      · exact .inr ⟨_,_,if_pos hb⟩
      · exact .inl (if_neg hb)
    · by_cases hb:b=a
      · have z':=(if_pos hb).symm.trans z
        cases z';subst hb;exact⟨ha,by rw[aD];exact hl,vs,_,rv,ha⟩
      · have z':=(if_neg hb).symm.trans z
        cases z'
    · by_cases hb:b=a
      · exact hb
      · exact absurd (if_neg hb) z
theorem walk_of{l:PySem.W.OpenLaw}{n k:Nat}{q:Program}{loose:Li Str}{XP:(Str->Ot vL)->Heap->Prop}{YP:World->Heap->Prop}{d:DefRec}{K:Params->Fg}{CX:World->CXT}{sp:World->Sp}{x:Str}(hn:l.most=some n)(hn2:n<=sizeLine)(hdf:d.params.defaults=[])(hr:Room k callerA)(hY:∀ (w:World) (h:Heap),YP w h->(K w.params).In h)(F:∀ (w:World) (mg:Str->Ot vL) (fa:Ad) (h:Heap),(K w.params).In h->h.Ns mainGlobals mg->mg d.name=some (.ref fa)->
      ∃ fd:FuncData,(∀ (s:Sd) (u:vL),BindsTo s fd ⟨[u],[]⟩ [(x,u)]) /\
        ∀ base:Heap,(K w.params).In base->base.Ns mainGlobals mg->FnOk l.prog w (K w.params) mg base (CX w) k fa fd [x] (sp w))(hsp:∀ (w:World) (H:Hp) (a:Ad) (ns:Li Int),ns.length<=n->Only H->SqL (K w.params) H a (ns.map V.int)->sp w [.ref a] H (fun v _=>v=.bl true) fun _ _ _=>False)(hCX:∀ (w:World) (H:Hp) (s:Sd) (e:vL) (s':Sd),CX w [] H s (fun _ _ _=>False) e s'->False) :
    PySem.W.WalkO q loose XP YP l.row.toRowW d [] (fun f vs=>PySem.call f vs):=by
  refine Att.attach_call hn hdf fun w s₀ s₁ mg mb fa o pm cd doc a vs ns G Y ho hd hcd hmg hobj hints hlen hg=>?_
  have KX:=hY w _ Y;obtain⟨fd,hb,hF⟩:=F w mg fa _ KX G.T.g hmg;exact law_call KX G.T.g G.T.b G.T.builtins G.T.nolimit hg hobj hints (aF hlen hn2) hr hF hb (fun H hO hS=>hsp w H a ns hlen hO hS) fun H e s'=>hCX w H s₁ e s'
noncomputable def defArgs(s:Stmt):Arguments:=match s with
  |.FunctionDef _ a _ _ _ _ _ _ _ _=>a
  |_=>{ posonlyargs:=[],args:=[],vararg:=none,kwonlyargs:=[],kw_defaults:=[],kwarg:=none,defaults:=[] }
noncomputable def defBody(s:Stmt):Li Stmt:=match s with
  |.FunctionDef _ _ b _ _ _ _ _ _ _=>b
  |_=>[]
noncomputable def defScope(s:Stmt):Scope:=match s with
  |.FunctionDef _ _ _ _ _ _ sc _ _ _=>sc
  |_=>{ kind:=.function,names:=[],isGenerator:=false,isCoroutine:=false }

noncomputable abbrev CX0:CXT:=fun _ _ _ _ _ _=>False
noncomputable abbrev E0:XK:=fun _ _ _=>False
theorem pass0{X:Cx}:Passes CX0 X E0:=fun _ _ _ _ _ _ _ h=>h.elim

structure Fun(K:Fg)(x qual:Str)(st:Stmt)(f:Addr)(fd:FuncData):Prop where
  ex:∃ (oc:Value) (od:Option Addr) (kV doc pm:Value) (an:Option Addr) (cdv ct:Value) (osl:Array (Option Value)),
    fd=PySem.W.fnOf x qual (defArgs st) (defBody st) (defScope st) .none kV doc pm an cdv ct/\K.lookup f=some ⟨oc,od,.func fd,osl⟩/\PySem.W.codeIn K cdv qual=true
  kp:PySem.W.keepIn K (.ref f)=true
section
variable {P:Program}{w:World}{K:Fg}{mg:Str->Ot vL}{base:Heap}
end

section
variable {X:Cx}
end



variable{u:vL}
section
variable {κ:Type} [DecidableEq κ]
noncomputable def valV(kvs:Li (κ×V))(k:κ):Ot V:=(kvs.find? fun kv=>decide (kv.1=k)).map (·.2)
noncomputable def putK(kvs:Li (κ×V))(k:κ)(v:V):Li (κ×V):=
 if (kvs.any fun kv=>decide (kv.1=k))=true then kvs.map (fun kv=>if kv.1=k then (kv.1,v) else kv) else kvs++[(k,v)]
theorem valV_pos{p:κ×V}{r:Li (κ×V)}{k:κ}(e:p.1=k):valV (p :: r) k=some p.2:=by simp[valV,dO,e]
theorem valV_neg{p:κ×V}{r:Li (κ×V)}{k:κ}(e:¬p.1=k):valV (p :: r) k=valV r k:=by simp[valV,dO,e]
theorem length_putK(kvs:Li (κ×V))(k:κ)(v:V):(putK kvs k v).length<=kvs.length+1:=by
 unfold putK;split
 ·rw[aD];omega
 ·rw[aH,aY,dB];omega
theorem RelO.isSome_eq{o:Ot V}{u:Ot vL}(r:RelO o u):o.isSome=u.isSome:=by
 cases o with
 |none=>cases u with
  |none=>rfl
  |some _=>exact(show False from r).elim
 |some _=>cases u with
  |none=>exact(show False from r).elim
  |some _=>rfl
theorem KV.val{kvs:Li (κ×V)}{vs:Li (κ×vL)}(r:KV kvs vs)(k:κ):RelO (valV kvs k) (valueAt vs k):=by
 unfold KV at r
 induction r with
 |nil=>exact True.intro
 |@cons p q ps qs h t ih=>
  obtain⟨h1,h2⟩:=h;by_cases e:p.1=k
  ·have e':q.1=k:=h1.symm.trans e
   have b:valueAt (q :: qs) k=some q.2:=by simp[valueAt,dO,e']
   rw[valV_pos e,b];exact h2
  ·have e':¬q.1=k:=fun z=>e (h1.trans z)
   have b:valueAt (q :: qs) k=valueAt qs k:=by simp[valueAt,dO,e']
   rw[valV_neg e,b];exact ih
theorem KV.any{kvs:Li (κ×V)}{vs:Li (κ×vL)}(r:KV kvs vs)(k:κ):(kvs.any fun kv=>decide (kv.1=k))=vs.any fun kv=>decide (kv.1=k):=by
 unfold KV at r
 induction r with
 |nil=>rfl
 |cons h t ih=>rw[cF,cF,ih,h.1]
theorem KV.repl{kvs:Li (κ×V)}{vs:Li (κ×vL)}(r:KV kvs vs)(k:κ){y:V}(ry:RelV y u) :
  KV (kvs.map fun kv=>if kv.1=k then (kv.1,y) else kv) (vs.map fun kv=>if kv.1=k then (kv.1,u) else kv):=by
 unfold KV at r ⊢
 induction r with
 |nil=>exact .nil
 |@cons p q ps qs h t ih=>
  rw[aM,aM];refine .cons ?_ ih;obtain⟨h1,h2⟩:=h;by_cases e:p.1=k
  ·rw[if_pos e,if_pos (h1.symm.trans e)];exact⟨h1,ry⟩
  ·rw[if_neg e,if_neg (fun z=>e (h1.trans z))];exact⟨h1,h2⟩
theorem KV.put{kvs:Li (κ×V)}{vs:Li (κ×vL)}(r:KV kvs vs)(k:κ){y:V}(ry:RelV y u):KV (putK kvs k y) (stored vs k u):=by
 unfold putK stored;rw[r.any k];by_cases e:(vs.any fun kv=>decide (kv.1=k))=true
 ·rw[if_pos e,if_pos e];exact r.repl k ry
 ·rw[if_neg e,if_neg e];exact Paired.snoc r ⟨rfl,ry⟩
end
theorem kV_is{P:Program}{k:Key}(r:RelV (kV k) u):(mixKind P w).is k u=true:=by
 cases k with
 |inl i=>obtain⟨t,e⟩:=(show ∃ t,u=Value.int i t from r);subst e;exact mixKind_int P w i t
 |inr x=>obtain⟨t,e⟩:=(show ∃ t,u=Value.str x t from r);subst e;exact mixKind_str P w x t
variable{kvs:Li (Key×V)}
section
variable {P:Program}{w:World}{H:Hp}{h:Heap}{a:Ad}
theorem rd_of{u:HO}(ok:HOk P w H h)(e:Rd H a u):ObjOk P w H h a u:=e.ok ok
theorem dk_rd(ok:HOk P w H h)(e:Rd H a (.dK kvs)):kvs.length<=sizeLine/\(a==sysModules)=false/\∃ vs,KV kvs vs/\h.DictOf (mixKind P w) a vs:=
 show ObjOk P w H h a (.dK kvs) from rd_of ok e
theorem dk_of(ok:HOk P w H h)(e:H a=some (.dK kvs)):kvs.length<=sizeLine/\(a==sysModules)=false/\∃ vs,KV kvs vs/\h.DictOf (mixKind P w) a vs:=dk_rd ok (.inl e)
end
variable{h':Heap}
section
variable {X:Cx}{pQ:Li (Ad×Obj)}{σ:St}{H:Hp}{s:Sd}{a:Ad}{y v:V}{u r:vL}{o:Ot V}{A:Around}{E:vL->Sd->Prop}
theorem Inv.big(I:Inv X pQ σ H s):sysModules < s.heap.objs.size:=by
 have h:mainGlobals < s.heap.objs.size:=(I.mod.glob.keeps I.bk).lt;exact Nat.lt_trans (by decide) h
theorem d_write{t':Nat}{ob:HO}(I:Inv X pQ σ H s)(mu:Mut (H a))(hs:Heap.SameBut a s.heap h')(he:∃ q,h'.get? a=some q)(new:ObjOk X.prog X.w (upd H a ob) h' a ob) :
  Inv X pQ σ (upd H a ob) { s with heap:=h',toks:=t' }:=
 I.write (x:=a) (e:=a) mu (.inl rfl) (fun b q hb z=>(hs.2 b hb).trans z) he new
theorem dk_new{P:Program}{H':Hp}{vs:Li (Key×vL)}(z:kvs.length<=sizeLine)(hd:(a==sysModules)=false)(rel:KV kvs vs)(dd:h'.DictOf (mixKind P w) a vs) :
  ObjOk P w H' h' a (.dK kvs):=⟨z,hd,vs,rel,dd⟩
end
variable{H:Hp}
theorem dk_empty{P:Program}(h:Heap)(hb:sysModules < h.objs.size):ObjOk P w H (h.push { cls:=.type "dict",data:=.dict #[] }) h.objs.size (.dK []):=
 ⟨bX _,bV.mpr (Ne.symm (aX hb)),[],.nil,Heap.DictOf.new h⟩
variable{pQ:Li (Ad×Obj)}
section
variable {X:Cx}
noncomputable def rIxD:R2:=fun x y H Q=>∃ p kvs k v,x=.ref p/\y=kV k/\H p=some (.dK kvs)/\valV kvs k=some v/\Q v H
theorem ix_dct:IxR X rIxD:=by
 intro value slice pQ s σ H x y v u Q I rx ry h hs;obtain⟨p,kvs,k,z,rfl,rfl,hq,he,q⟩:=h;cases rx;obtain⟨zz,hd,vs,rel,dd⟩:=dk_of I.hok hq;obtain⟨w',hw,rw'⟩:=RelO.some_of (v:=z) (o:=valueAt vs k) (by rw[<-he];exact rel.val k)
 exact tail_any dd.typeIs PySem.F.slot_dict_getitem.lookup (wpAny_getItem_of (kV_is ry) dd.mapOf hw ⟨z,H,I.tok _,rw',q⟩) hs
theorem ni_dct{σ:St}{s:Sd}{p:Ad}{k:Key}{Q:VK}(I:Inv X pQ σ H s)(hq:H p=some (.dK kvs))(rx:RelV (kV k) u) :
  (Q (.bl (valV kvs k).isSome) H->wpAny (model X.prog X.w) X.A (compareOp .In u (.ref p)) (EP X pQ σ Q) X.xe s)/\(Q (.bl (!(valV kvs k).isSome)) H->wpAny (model X.prog X.w) X.A (compareOp .NotIn u (.ref p)) (EP X pQ σ Q) X.xe s):=by
 obtain⟨zz,hd,vs,rel,dd⟩:=dk_of I.hok hq;have e:=(rel.val k).isSome_eq;rw[e];exact⟨fun q=>wpAny_in_of (kV_is rx) hd dd.mapOf ⟨.bl _,H,I.tok _,rfl,q⟩,fun q=>wpAny_notIn_of (kV_is rx) hd dd.mapOf ⟨.bl _,H,I.tok _,rfl,q⟩⟩
noncomputable def tDNewK(K:Fg):TE:=fun _ H Q=>∀ p,H p=none->(∀ o,K.lookup p≠some o)->Q (.ref p) (upd H p (.dK []))
theorem pe_dnewK{pos:Pos}:PE X (.Dict [] [] pos) (tDNewK X.K):=fun pQ s σ H Q I h=>
 wpAny_Dict_empty ⟨.ref s.heap.objs.size,_,I.laid (a:=s.heap.objs.size) (o:=.dK []) (t':=s.toks) (fun _ _ q=>aL _ q) (aB _) (dk_empty s.heap I.big),rfl,h _ (I.hok.fresh (aB _)) fun o z=>absurd (aG (I.kIn _ o z)) (bW _)⟩
def rSetK:V->V->V->Hp->(Hp->Prop)->Prop:=fun o i v H Q=>∃ p kvs k,o=.ref p/\i=kV k/\H p=some (.dK kvs)/\kvs.length < sizeLine/\Q (upd H p (.dK (putK kvs k v)))
theorem set_dK:PSet X rSetK:=by
 intro pQ s σ H o i v ov iv u Q I ro ri rv h;obtain⟨a,kvs,k,rfl,rfl,e,l,q⟩:=h;cases ro;obtain⟨z,hd,vs,rel,dd⟩:=dk_of I.hok e;have hz:vs.length<=sizeLine:=by rw[<-rel.length];exact z
 have hl:(putK kvs k v).length<=sizeLine:=by have:=length_putK kvs k v;omega
 refine wpAny_setItem_pairs (hsz:=hz) (kV_is ri) dd fun h' dd' hs=>⟨_,?_,q⟩
 have he:∃ q,h'.get? a=some q:=let ⟨q,_,_,hq,_⟩:=dd';⟨q,hq⟩
 exact d_write I (by rw[e];exact True.intro) hs he (dk_new hl hd (rel.put k rv) dd')
theorem len_dK{σ:St}{s:Sd}{a:Ad}{Q:VK}(I:Inv X pQ σ H s)(e:H a=some (.dK kvs))(q:Q (.int kvs.length) H):wpAny (model X.prog X.w) X.A (call (.builtin "len") [.ref a]) (EP X pQ σ Q) X.xe s:=by
 obtain⟨z,hd,vs,rel,dd⟩:=dk_of I.hok e;refine call_len_dict hd dd (by rw[<-rel.length];rw[sizeLine_eq]at z;omega) ?_
 rw[<-rel.length];exact⟨.int kvs.length,H,I.tok _,⟨_,rfl⟩,q⟩
end
end L2


namespace Dp
open PySem
variable{α:Type}
theorem Zb{x:α}{C:Prop}(h:(none:Ot α)=some x):C:=nomatch h
noncomputable abbrev S(x:String):Str:=Str.ofString x

inductive D where
 |non|bl (b:Bool)|int (i:Int)|str (x:Str)|tup (xs:List D)|lst (id:Nat)|dct (ks:List Str) (vs:List D)|obj (i:Nat)|kt (ks:List Str)|dic (id:Nat)

noncomputable abbrev Env:=Li (Ot D)
noncomputable abbrev YU:=Bool×Li D
noncomputable abbrev Za:=Li YU
noncomputable abbrev Res:=Ot (D×Za)
noncomputable abbrev Fn:=Li D->Za->Res

noncomputable def o2{α β γ:Type}(f:α->β->γ):Ot α->Ot β->Ot γ
 |some x,some y=>some (f x y)
 |_,_=>none
noncomputable def og{α:Type}(p:Prop)[Decidable p](o:Ot α):Ot α:=if p then o else none
mutual
noncomputable def ZX:D->D->Bool
 |.non,.non=>true
 |.bl a,.bl b=>a==b
 |.int a,.int b=>decide (a=b)
 |.str a,.str b=>decide (a=b)
 |.tup a,.tup b=>Z5 a b
 |_,_=>false
noncomputable def Z5:Li D->Li D->Bool
 |[],[]=>true
 |x :: xs,y :: ys=>ZX x y&&Z5 xs ys
 |_,_=>false
end
mutual
noncomputable def okD:Nat->D->Bool
 |_,.non=>true
 |_,.int _=>true
 |_,.str _=>true
 |n+1,.tup xs=>Xu n xs
 |_,_=>false
noncomputable def Xu:Nat->Li D->Bool
 |_,[]=>true
 |n,x :: xs=>okD n x&&Xu n xs
end
inductive Sc where
 |non|bl (b:Bool)|int (i:Int)|str (x:Str)
noncomputable def scD:D->Ot Sc
 |.non=>some .non
 |.bl b=>some (.bl b)
 |.int i=>some (.int i)
 |.str x=>some (.str x)
 |_=>none
noncomputable def ZdY:Sc->Sc->Ot Bool
 |.non,.non=>some true
 |.non,.bl _=>some false
 |.non,.int _=>some false
 |.non,.str _=>some false
 |.bl _,.non=>some false
 |.bl a,.bl b=>some (a==b)
 |.bl _,.int _=>none
 |.bl _,.str _=>some false
 |.int _,.non=>some false
 |.int _,.bl _=>none
 |.int a,.int b=>some (decide (a=b))
 |.int _,.str _=>some false
 |.str _,.non=>some false
 |.str _,.bl _=>some false
 |.str _,.int _=>some false
 |.str a,.str b=>some (decide (a=b))
noncomputable def eqT(xs:Li D):D->Ot Bool
 |.tup ys=>if okD 8 (.tup xs)&&okD 8 (.tup ys) then some (Z5 xs ys) else none
 |_=>none
noncomputable def eqD(x y:D):Ot Bool:=match x with
 |.tup xs=>eqT xs y
 |x=>(o2 ZdY (scD x) (scD y)).join

inductive Ty where
 |int|bool|str|tuple
 deriving DecidableEq

set_option genInjectivity false in
inductive CE where
 |var (i:Nat)|cst (d:D)
 |bin (op:Operator) (a b:CE)|neg (a:CE)
 |cmp (op:CmpOp) (a b:CE)
 |not (a:CE)|and (a b:CE)|or (a b:CE)|ife (c a b:CE)
 |tupE (a:CE)|lstE (a:CE)|aN|aC (a r:CE)
 |ix (a b:CE)|slice (a lo hi:CE)|nop|part (a:CE)
 |call (f:Nat) (args:CE) (ds:List D)
 |len (a:CE)|tOf (a:CE)|listOf (a:CE)|intOf (a:CE)|min (a b:CE)|max (a b:CE)|isi (T:Ty) (a:CE)
 |comp (rng:Bool) (fr:List Nat) (it elt YG:CE)|comp2 (fr:List Nat) (it elt YG:CE)|compT (fr:List Nat) (it elt YG:CE)|lstR (a b:CE)|new (i:Nat)|meth (tab:List (Nat×Nat)) (o a:CE)|isc (l:List Nat) (a:CE)|tix (o a:CE)
 |rs (k:Bool) (a:CE)
 |inv (a:CE)|tupR (a:CE)|look (ks:List Str) (ds:List D) (a:CE)|dget (a k d:CE)|all (a:CE)|any (a:CE)|inR (ng:Bool) (a b:CE)
 |dict (ks:List Str) (a:CE)|dnew|strOf (a:CE)|joinE (a b:CE)|starts (a b:CE)|rng2 (a b:CE)|srt (a:CE)

set_option genInjectivity false in
inductive CS where
 |skip|seq (a b:CS)|ret (e:CE)|set (i:Nat) (e:CE)|app (i:Nat) (e:CE)|ext (i:Nat) (e:CE)|put (i:Nat) (k e:CE)
 |ite (c:CE) (a b:CS)|for1 (i:Nat) (rng:Bool) (it:CE) (b:CS)|for3 (i:Nat) (it:CE) (b:CS)|forP (i j:Nat) (it:CE) (b:CS)|forE (i j:Nat) (it:CE) (b:CS)|set2 (i j:Nat) (e:CE)|for4 (i j l:Nat) (it:CE) (b:CS)|for2 (i j:Nat) (it:CE) (b:CS)|whl (c:CE) (b:CS)|brk|cont|stop|set3 (i j l:Nat) (e:CE)|act (e:CE)|dput (i:Nat) (a b e:CE)|app2 (o e:CE)

noncomputable def ZI(i:Int):Bool:=decide (-(2 ^ 64) < i)&&decide (i < 2 ^ 64)
noncomputable def Zc:Nat:=1000000

noncomputable def Zak(op:Operator)(i j:Int):Ot Int:=
 match op with
 |.Add=>some (i+j)
 |.Sub=>some (i - j)
 |.Mult=>if ZI i||ZI j then some (i * j) else none
 |.FloorDiv=>if 0 < j/\j < 1073741824 then some (i / j) else if j < 0/\-1073741824 < j then some (i.fdiv j) else none
 |.Mod=>if 0 < j then some (i % j) else if j < 0 then some (i.fmod j) else none
 |_=>none
noncomputable def Xh:Operator->Bool
 |.Add=>true
 |_=>false
noncomputable def Uf:Operator->Bool
 |.Mult=>true
 |_=>false
noncomputable def Zgf(a b:Nat)(st:Za):Res:=match st[a]?,st[b]? with
 |some (_,xs),some (_,ys)=>if xs.length+ys.length<=Zc then some (.lst st.length,st++[(true,xs++ys)]) else none
 |_,_=>none
noncomputable def Zhw(a:Nat)(j:Int)(st:Za):Res:=match st[a]? with
 |some (true,[x])=>if j<=1000/\-1000<=j then some (.lst st.length,st++[(true,List.replicate j.toNat x)]) else none
 |_=>none
noncomputable def Ja(op:Operator)(x y:D)(st:Za):Res:=
 match x,y with
 |.int i,.int j=>match Zak op i j with
  |some k=>some (.int k,st)
  |none=>none
 |.tup xs,.tup ys=>if Xh op=true/\xs.length+ys.length<=Zc then some (.tup (xs++ys),st) else none
 |.lst a,.lst b=>if Xh op=true then Zgf a b st else none
 |.lst a,.int j=>if Uf op=true then Zhw a j st else none
 |.str x,.str y=>if Xh op=true/\x.length+y.length<=Zc then some (.str (x++y),st) else none
 |_,_=>none

noncomputable def QT(x k:Str):Bool:=!(PySem.Builtin.Str.occurrences x k 0 x.length 1).isEmpty
noncomputable def chS(x:Str):Li Str:=x.cps.toList.map fun c=>⟨#[c]⟩
noncomputable def UF(c:Nat):Bool:=decide (48<=c)&&decide (c<=57)
noncomputable def dgV(l:Li Nat):Nat:=l.foldl (fun a c=>a * 10+(c - 48)) 0
noncomputable def Ue(l:Li Nat):Bool:=!l.isEmpty&&l.all UF&&decide (l.length<=600)
noncomputable def WJ(x:Str):Ot Int:=match x.cps.toList with
 |45 :: r=>if Ue r=true then some (-(dgV r:Int)) else none
 |l=>if Ue l=true then some (dgV l:Int) else none
noncomputable def stW(x y:Str):Bool:=x.cps.toList.take y.cps.toList.length==y.cps.toList
noncomputable def Vx:Li Str->Li Nat
 |[]=>[]
 |x :: r=>x.cps.toList++Vx r
noncomputable def Ye(s:Str):Li Str->Li Nat
 |[]=>[]
 |x :: r=>(s.cps.toList++x.cps.toList)++Ye s r
noncomputable def Y3(s:Str):Li Str->Li Nat
 |[]=>[]
 |x :: r=>x.cps.toList++Ye s r
noncomputable def Vt:Li D->Ot (Li Str)
 |[]=>some []
 |.str x :: r=>(Vt r).map (x :: ·)
 |_=>none
noncomputable def ZbG(_:Za)(_ _:Li D):Ot Bool:=none
noncomputable def Qv(xs ys:Li D):Ot Bool:=if (xs.isEmpty||ys.isEmpty)=true then some (xs.isEmpty&&ys.isEmpty) else if Xu 7 xs&&Xu 7 ys then some (Z5 xs ys) else none
noncomputable def Zk4(st:Za)(xs:Li D):D->Ot Bool
 |.tup ys=>(match eqT xs (.tup ys) with
  |some k=>some k
  |none=>ZbG st xs ys)
 |_=>none
noncomputable def Zap(f:D->D->Bool):Li D->Li D->Bool
 |[],[]=>true
 |x :: xs,y :: ys=>f x y&&Zap f xs ys
 |_,_=>false
noncomputable def dEq(st:Za):Nat->D->D->Bool
 |_,.str x,.str y=>decide (x=y)
 |n+1,.lst a,.lst b=>(match st[a]? with
  |some c=>(match st[b]? with
   |some d=>Zap (dEq st n) c.2 d.2
   |none=>false)
  |none=>false)
 |_,_,_=>false
noncomputable def Zct(st:Za)(a:Nat):D->Ot Bool
 |.lst b=>(match (o2 (fun(c d:YU)=>Qv c.2 d.2) st[a]? st[b]?).join with
  |some k=>some k
  |none=>if dEq st 8 (.lst a) (.lst b)=true then some true else none)
 |_=>none
noncomputable def eqS(st:Za)(x y:D):Ot Bool:=match x with
 |.lst a=>Zct st a y
 |.tup xs=>Zk4 st xs y
 |x=>eqD x y

noncomputable def Y9:Str->Li D->Ot Bool
 |_,[]=>some false
 |k,.str i :: r=>(Y9 k r).map fun b=>decide (i=k)||b
 |_,_=>none

noncomputable def isK(k:Str):D->Bool
 |.tup [.str x,_]=>decide (x=k)
 |_=>false
noncomputable def Znl:D->Ot D
 |.tup [_,v]=>some v
 |_=>none
noncomputable def Yl(xs:Li D)(k:Str):Ot D:=(xs.find? (isK k)).bind Znl
noncomputable def Wx:Li D->Bool
 |.int _ :: _=>true
 |_=>false
noncomputable def dAt(k:Str)(a:Nat)(st:Za):Ot (Ot D):=match st[a]? with
 |some (_,xs)=>if Wx xs=true then none else some (Yl xs k)
 |none=>none
noncomputable def ZW:Li Str->Li D->Str->Ot D
 |k :: ks,v :: vs,x=>if k=x then some v else ZW ks vs x
 |_,_,_=>none
noncomputable def ZaH(f:Int->Int->Bool):D->D->Ot Bool
 |.int i,.int j=>some (f i j)
 |_,_=>none
noncomputable def ltD(x y:D):Ot Bool:=ZaH (fun i j=>decide (i < j)) x y
noncomputable def ltS(_:Za)(x y:D):Ot Bool:=ltD x y
noncomputable def inS(st:Za)(x y:D):Ot Bool:=match x,y with
 |.str k,.tup xs=>Y9 k xs
 |.str k,.dic a=>(dAt k a st).map Option.isSome
 |.str k,.kt ks=>some (ks.contains k)
 |.str k,.str x=>some (QT x k)
 |_,_=>none
noncomputable def niS(st:Za)(x y:D):Ot Bool:=match y with
 |.dct _ _=>none
 |y=>(inS st x y).map not
noncomputable def isN:D->Ot Bool
 |.non=>some true
 |.int _=>some false
 |.str _=>some false
 |.bl _=>some false
 |.tup _=>some false
 |.lst _=>some false
 |.dct _ _=>none
 |.obj _=>none
 |.kt _=>none
 |.dic _=>none
noncomputable def isB(b:Bool):D->Ot Bool
 |.bl a=>some (a==b)
 |_=>none
noncomputable def isD(x:D):D->Ot Bool
 |.non=>isN x
 |.bl b=>isB b x
 |_=>none
noncomputable def Wj(op:CmpOp)(x y:D)(st:Za):Ot Bool:=
 match op with
 |.Lt=>ltS st x y
 |.LtE=>ZaH (fun i j=>decide (i<=j)) x y
 |.Gt=>ZaH (fun i j=>decide (j < i)) x y
 |.GtE=>ZaH (fun i j=>decide (j<=i)) x y
 |.Eq=>eqS st x y
 |.NotEq=>(eqS st x y).map not
 |.In=>inS st x y
 |.NotIn=>niS st x y
 |.Is=>isD x y
 |.IsNot=>(isD x y).map not

noncomputable def ixN(n:Nat)(i:Int):Ot Nat:=if 0<=i then (if i < n then some i.toNat else none) else if -(n:Int)<=i then some (i+n).toNat else none
noncomputable def atD(xs:Li D)(i:Int):Ot D:=(ixN xs.length i).bind fun j=>xs[j]?
noncomputable def ixD(x y:D)(st:Za):Ot D:=
 match x,y with
 |.tup xs,.int i=>atD xs i
 |.lst a,.int i=>match st[a]? with
  |some (_,xs)=>atD xs i
  |none=>none
 |.dct ks vs,.str k=>ZW ks vs k
 |.kt ks,.int i=>atD (ks.map .str) i
 |.dic a,.str k=>(dAt k a st).join
 |.str x,.int i=>if x.length<=Zc then atD ((chS x).map .str) i else none
 |_,_=>none

noncomputable def sIx(n d:Nat):Ot Int->Nat
 |none=>d
 |some i=>if i < 0 then (i+n).toNat else Nat.min i.toNat n
noncomputable def W0(x:Str)(lo hi:Ot Int):Str:=⟨((x.cps.toList.drop (sIx x.length 0 lo)).take (sIx x.length x.length hi - sIx x.length 0 lo)).toArray⟩
noncomputable def Zcl(xs:Li D)(lo hi:Ot Int):Li D:=(xs.drop (sIx xs.length 0 lo)).take (sIx xs.length xs.length hi - sIx xs.length 0 lo)
noncomputable def Yx(x:D)(lo hi:Ot Int)(st:Za):Res:=
 match x with
 |.tup xs=>if sIx xs.length 0 lo=0/\sIx xs.length xs.length hi=xs.length then some (.tup xs,st) else some (.tup (Zcl xs lo hi),st)
 |.lst a=>match st[a]? with
  |some (_,xs)=>some (.lst st.length,st++[(true,Zcl xs lo hi)])
  |none=>none
 |.str x=>if x.length<=Zc then some (.str (W0 x lo hi),st) else none
 |_=>none

noncomputable def ZcF(x:D)(st:Za):Ot Int:=
 match x with
 |.tup xs=>some xs.length
 |.lst a=>match st[a]? with
  |some (_,xs)=>some xs.length
  |none=>none
 |.kt ks=>some ks.length
 |.str x=>if x.length<=Zc then some x.length else none
 |.dic a=>match st[a]? with
  |some (_,xs)=>if Wx xs=true then none else some xs.length
  |none=>none
 |_=>none

noncomputable def ZgZ(T:Ty):D->Ot Bool
 |.int _=>some (decide (T=.int))
 |.bl _=>some (decide (T=.int)||decide (T=.bool))
 |.str _=>some (decide (T=.str))
 |.tup _=>some (decide (T=.tuple))
 |.non=>some false
 |_=>none

noncomputable def XV(rng:Bool)(x:D):Ot (Li D):=
 match rng,x with
 |true,.int n=>if n < 2 ^ 62/\-(2 ^ 62)<=n then some ((List.range n.toNat).map fun(k:Nat)=>D.int (k:Int)) else none
 |false,.tup xs=>some xs
 |_,_=>none

noncomputable def Zj2(a b c:Int):Nat:=if 0 < c then (if a < b then ((b - a - 1) / c+1).toNat else 0) else (if b < a then ((a - b - 1) / (-c)+1).toNat else 0)
noncomputable def Zfm(a b c:Int):Li Int:=(List.range (Zj2 a b c)).map fun(k:Nat)=>a+k * c
noncomputable def YE(ok:Za->Prop)(f:D->Za->Res)(c:D->Za->Res):Li D->Za->Ot (Li D×Za)
 |[],st=>open Classical in if ok st then some ([],st) else none
 |x :: xs,st=>open Classical in if ok st then (match c x st with
  |some (.bl true,st1)=>match f x st1 with
   |some (y,st2)=>match YE ok f c xs st2 with
    |some (ys,st3)=>some (y :: ys,st3)
    |none=>none
   |none=>none
  |some (.bl false,st1)=>YE ok f c xs st1
  |_=>none) else none
noncomputable def J7(rng:Bool)(x:D)(st:Za):Ot (Li D×(Za->Prop)):=match XV rng x with
 |some xs=>some (xs,fun _=>True)
 |none=>match rng,x with
  |false,.lst a=>match st[a]? with
   |some c=>some (c.2,fun s=>s[a]?=some c)
   |none=>none
  |false,.str x=>if x.cps.all (fun c=>decide (c < 128))=true then some ((chS x).map .str,fun _=>True) else none
  |false,.dct [] [.int a,.int b]=>some ((Zfm a b 1).map .int,fun _=>True)
  |_,_=>none


noncomputable def J8(xs ys:Li D):Li D:=(xs.zip ys).map fun p=>.tup [p.1,p.2]
noncomputable def Uz(x:D)(st:Za):Ot (Li D×(Za->Prop)):=match x with
 |.tup [.lst a,.tup ys]=>match st[a]? with
  |some c=>some (J8 c.2 ys,fun s=>s[a]?=some c)
  |none=>none
 |_=>none


noncomputable abbrev Ev:=Env->Za->Res
noncomputable def ZJ(fa:Ev)(g:D->Za->Res):Ev:=fun ρ st=>match fa ρ st with
 |some (x,st1)=>g x st1
 |none=>none
noncomputable def ZV(fa fb:Ev)(g:D->D->Za->Res):Ev:=fun ρ st=>match fa ρ st with
 |some (x,st1)=>match fb ρ st1 with
  |some (y,st2)=>g x y st2
  |none=>none
 |none=>none
noncomputable def Zfv(fa fb fc:Ev)(g:D->D->D->Za->Res):Ev:=fun ρ st=>match fa ρ st with
 |some (x,st1)=>match fb ρ st1 with
  |some (y,st2)=>match fc ρ st2 with
   |some (z,st3)=>g x y z st3
   |none=>none
  |none=>none
 |none=>none
noncomputable def YG(fc ft ff:Ev):Ev:=fun ρ st=>match fc ρ st with
 |some (.bl true,st1)=>ft ρ st1
 |some (.bl false,st1)=>ff ρ st1
 |_=>none
noncomputable def Xe(i:Nat):Ev:=fun ρ st=>match ρ[i]? with
 |some (some d)=>some (d,st)
 |_=>none
noncomputable def evC(d:D):Ev:=fun _ st=>some (d,st)
noncomputable def Zha:D->Za->Res
 |.int i,st=>some (.int (-i),st)
 |_,_=>none
noncomputable def ZaD:D->Za->Res
 |.bl k,st=>some (.bl (!k),st)
 |_,_=>none
noncomputable def XL(op:CmpOp)(x y:D)(st:Za):Res:=match Wj op x y st with
 |some k=>some (.bl k,st)
 |none=>none
noncomputable def ZeK:D->Za->Res
 |.tup xs,st=>some (.lst st.length,st++[(true,xs)])
 |_,_=>none
noncomputable def WG:D->D->Za->Res
 |x,.tup xs,st=>if xs.length < 1000 then some (.tup (x :: xs),st) else none
 |_,_,_=>none
noncomputable def ixR(x y:D)(st:Za):Res:=match ixD x y st with
 |some d=>some (d,st)
 |none=>none
noncomputable def Ve:D->D->D->Za->Res
 |x,.non,.non,st=>Yx x none none st
 |x,.int i,.non,st=>Yx x (some i) none st
 |x,.non,.int j,st=>Yx x none (some j) st
 |x,.int i,.int j,st=>Yx x (some i) (some j) st
 |_,_,_,_=>none
noncomputable def ZbH:D->Za->Res
 |.int i,st=>some (.int i,st)
 |_,_=>none
noncomputable def Jg(g:Fn)(ds:Li D):D->Za->Res
 |.tup xs,st=>g (xs++ds) st
 |_,_=>none
noncomputable def JG(F:Nat->Fn)(tab:Li (Nat×Nat))(fo fa:Ev):Ev:=fun ρ st=>match fo ρ st with
 |some (.dic a,st1)=>(match st1[a]? with
  |some (_,.int c :: _)=>(match tab.lookup c.toNat with
   |some j=>(match fa ρ st1 with
    |some (.tup xs,st2)=>F j (.dic a :: xs) st2
    |_=>none)
   |none=>none)
  |_=>none)
 |_=>none
noncomputable def Wm(c:Nat):Li Nat->Li (Li Nat)
 |[]=>[[]]
 |x :: r=>if x=c then [] :: Wm c r else match Wm c r with
  |p :: q=>(x :: p) :: q
  |[]=>[[x]]
noncomputable def Vg(x y:Str):Li Str:=(Wm (y.cps.toList.headD 0) x.cps.toList).map fun l=>⟨l.toArray⟩
noncomputable def Zc8:D->D->Za->Res
 |.str x,.tup [.str y],st=>if y.length=1/\x.length<=Zc then some (.lst st.length,st++[(true,(Vg x y).map .str)]) else none
 |_,_,_=>none
noncomputable def Zmx(F:Nat->Fn):Li Nat->Ev
 |[i,j]=>fun _ st=>match F j [.dic st.length] (st++[(true,[.int i])]) with
  |some (.non,st')=>some (.dic st.length,st')
  |_=>none
 |_=>fun _ _=>none
noncomputable def Zd5(ks:Li Str)(d:D)(st:Za):Res:=match ks,d with
 |[f],.dic a=>(match st[a]? with
  |some (_,.int _ :: es)=>(match Yl es f with
   |some v=>some (v,st)
   |none=>none)
  |_=>none)
 |_,_=>none
noncomputable def Wl(x:D)(st:Za):Res:=match ZcF x st with
 |some n=>some (.int n,st)
 |none=>none
noncomputable def X6:D->Za->Res
 |.tup xs,st=>some (.tup xs,st)
 |.lst l,st=>match st[l]? with
  |some (_,xs)=>some (.tup xs,st)
  |none=>none
 |_,_=>none
noncomputable def Zeu:D->Za->Res
 |.int i,st=>some (.int i,st)
 |.bl true,st=>some (.int 1,st)
 |.bl false,st=>some (.int 0,st)
 |.str x,st=>(match WJ x with
  |some i=>some (.int i,st)
  |none=>none)
 |_,_=>none
noncomputable def J3:D->Za->Res
 |.int i,st=>if ZI i=true then some (.str (Str.ofString (toString i)),st) else none
 |_,_=>none
noncomputable def Zbu(ds:Li D)(st:Za):Res:=match Vt ds with
 |some xs=>if (Vx xs).length<=Zc then some (.str ⟨(Vx xs).toArray⟩,st) else none
 |none=>none
noncomputable def Zbt(s:Str)(ds:Li D)(st:Za):Res:=match Vt ds with
 |some xs=>if (Ye s xs).length<=Zc then some (.str ⟨(Y3 s xs).toArray⟩,st) else none
 |none=>none
noncomputable def U3:D->D->Za->Res
 |.str s,.lst a,st=>match st[a]? with
  |some (_,ds)=>if s.length=0 then Zbu ds st else Zbt s ds st
  |none=>none
 |_,_,_=>none
noncomputable def VG:D->D->Za->Res
 |.str x,.tup [.str y],st=>some (.bl (stW x y),st)
 |_,_,_=>none
noncomputable def Zg6:D->D->Za->Res
 |.int i,.int j,st=>some (.int (if j < i then j else i),st)
 |_,_,_=>none
noncomputable def Zg4:D->D->Za->Res
 |.int i,.int j,st=>some (.int (if j > i then j else i),st)
 |_,_,_=>none
noncomputable def Zax(T:Ty)(x:D)(st:Za):Res:=match ZgZ T x with
 |some k=>some (.bl k,st)
 |none=>none
noncomputable def Zkr:Li D->Ot (Li D)
 |[.int i,.int j]=>some (if j < i then [.int j,.int i] else [.int i,.int j])
 |_=>none
noncomputable def rsL(k:Bool)(xs:Li D):Ot (Li D):=if k then Zkr xs else some xs.reverse
noncomputable def rsD(k:Bool):D->Za->Res
 |.lst a,st=>match st[a]? with
  |some (_,xs)=>(match rsL k xs with
   |some ys=>some (.lst st.length,st++[(true,ys)])
   |none=>none)
  |none=>none
 |_,_=>none
noncomputable def U4(ks:Li Str)(ds:Li D):D->Za->Res
 |.str k,st=>match ZW ks ds k with
  |some d=>some (d,st)
  |none=>none
 |_,_=>none
noncomputable def getD:D->D->D->Za->Res
 |.dct ks vs,.str k,d,st=>some ((ZW ks vs k).getD d,st)
 |_,_,_,_=>none
noncomputable def XI:Li D->Ot (Li Bool)
 |[]=>some []
 |.bl b :: r=>(XI r).map (b :: ·)
 |_=>none
noncomputable def Vc(f:Li Bool->Bool)(x:D)(st:Za):Res:=match x with
 |.lst a=>match st[a]? with
  |some (_,xs)=>match XI xs with
   |some bs=>some (.bl (f bs),st)
   |none=>none
  |none=>none
 |_=>none

noncomputable def one(d:D):Li (Ot D):=[some d]
noncomputable def two:D->Li (Ot D)
 |.tup [a,b]=>[some a,some b]
 |_=>[]
noncomputable def Y8(b:D->Li (Ot D))(ρ:Env)(fr:Li Nat)(d:D):Env:=b d++fr.map fun i=>(ρ[i]?).join
noncomputable def VZ(b:D->Li (Ot D))(w:D->Za->Ot (Li D×(Za->Prop)))(fr:Li Nat)(fi fe fc:Ev):Ev:=fun ρ st=>match fi ρ st with
 |some (x,st1)=>match w x st1 with
  |some (xs,ok)=>if xs.length<=1000 then
    match YE ok (fun d s=>fe (Y8 b ρ fr d) s) (fun d s=>fc (Y8 b ρ fr d) s) xs st1 with
    |some (ys,st2)=>some (.lst st2.length,st2++[(true,ys)])
    |none=>none
   else none
  |none=>none
 |none=>none

noncomputable def Zik:Ev:=fun _ st=>some (.dic st.length,st++[(true,[])])
noncomputable def ev(F:Nat->Fn):CE->Ev
 |.var i=>Xe i
 |.cst d=>evC d
 |.bin op a b=>ZV (ev F a) (ev F b) (Ja op)
 |.neg a=>ZJ (ev F a) Zha
 |.cmp op a b=>ZV (ev F a) (ev F b) (XL op)
 |.not a=>ZJ (ev F a) ZaD
 |.and a b=>YG (ev F a) (ev F b) (evC (.bl false))
 |.or a b=>YG (ev F a) (evC (.bl true)) (ev F b)
 |.ife c a b=>YG (ev F c) (ev F a) (ev F b)
 |.tupE a=>ev F a
 |.lstE a=>ZJ (ev F a) ZeK
 |.aN=>evC (.tup [])
 |.aC a r=>ZV (ev F a) (ev F r) WG
 |.ix a b=>ZV (ev F a) (ev F b) ixR
 |.slice a lo hi=>Zfv (ev F a) (ev F lo) (ev F hi) Ve
 |.nop=>evC .non
 |.part a=>ZJ (ev F a) ZbH
 |.call f a ds=>ZJ (ev F a) (Jg (F f) ds)
 |.len a=>ZJ (ev F a) Wl
 |.tOf a=>ZJ (ev F a) X6
 |.listOf _=>fun _ _=>none
 |.intOf a=>ZJ (ev F a) Zeu
 |.min a b=>ZV (ev F a) (ev F b) Zg6
 |.max a b=>ZV (ev F a) (ev F b) Zg4
 |.isi T a=>ZJ (ev F a) (Zax T)
 |.rs k a=>ZJ (ev F a) (rsD k)
 |.inv _=>fun _ _=>none
 |.tupR _=>fun _ _=>none
 |.look ks ds a=>ZJ (ev F a) (U4 ks ds)
 |.dget _ _ _=>fun _ _=>none
 |.inR _ _ _=>fun _ _=>none
 |.all a=>ZJ (ev F a) (Vc fun l=>l.all id)
 |.any _=>fun _ _=>none
 |.comp rng fr it elt cnd=>VZ one (J7 rng) fr (ev F it) (ev F elt) (ev F cnd)
 |.comp2 fr it elt cnd=>VZ two Uz fr (ev F it) (ev F elt) (ev F cnd)
 |.compT _ _ _ _=>fun _ _=>none
 |.lstR _ _=>fun _ _=>none
 |.new _=>fun _ _=>none
 |.meth tab o a=>JG F tab (ev F o) (ev F a)
 |.isc l _=>Zmx F l
 |.tix o a=>ZV (ev F o) (ev F a) Zc8
 |.dict ks a=>ZJ (ev F a) (Zd5 ks)
 |.dnew=>Zik
 |.strOf a=>ZJ (ev F a) J3
 |.joinE a b=>ZV (ev F a) (ev F b) U3
 |.starts a b=>ZV (ev F a) (ev F b) VG
 |.rng2 _ _=>fun _ _=>none
 |.srt _=>fun _ _=>none

inductive Fl where
 |nx (ρ:Env)|rt (d:D)|bk (ρ:Env)|ct (ρ:Env)

noncomputable def Zy(ρ:Env)(i:Nat)(d:D):Env:=ρ.set i (some d)

noncomputable def Yr(body:D->Env->Za->Ot (Fl×Za)):Li D->Env->Za->Ot (Fl×Za)
 |[],ρ,st=>some (.nx ρ,st)
 |d :: ds,ρ,st=>match body d ρ st with
  |some (.nx ρ',st')=>Yr body ds ρ' st'
  |some (.ct ρ',st')=>Yr body ds ρ' st'
  |some (.bk ρ',st')=>some (.nx ρ',st')
  |some (.rt v,st')=>some (.rt v,st')
  |none=>none
noncomputable def Yu(body:D->Env->Za->Ot (Fl×Za))(a:Nat):Nat->Nat->Env->Za->Ot (Fl×Za)
 |0,i,ρ,st=>match st[a]? with
  |some (_,xs)=>if xs.length<=i then some (.nx ρ,st) else none
  |none=>none
 |n+1,i,ρ,st=>match st[a]? with
  |some (_,xs)=>match xs[i]? with
   |none=>some (.nx ρ,st)
   |some d=>match body d ρ st with
    |some (.nx ρ',st')=>Yu body a n (i+1) ρ' st'
    |some (.ct ρ',st')=>Yu body a n (i+1) ρ' st'
    |some (.bk ρ',st')=>some (.nx ρ',st')
    |some (.rt v,st')=>some (.rt v,st')
    |none=>none
  |none=>none

noncomputable abbrev Ex:=Env->Za->Ot (Fl×Za)
noncomputable def UL(f g:Ex):Ex:=fun ρ st=>match f ρ st with
 |some (.nx ρ',st')=>g ρ' st'
 |r=>r
noncomputable def ZaO(f:Ev):Ex:=fun ρ st=>match f ρ st with
 |some (d,st')=>some (.rt d,st')
 |none=>none
noncomputable def JW(i:Nat)(f:Ev):Ex:=fun ρ st=>match f ρ st with
 |some (d,st')=>some (.nx (Zy ρ i d),st')
 |none=>none
noncomputable def JV(i j:Nat)(f:Ev):Ex:=fun ρ st=>match f ρ st with
 |some (.tup [x,y],st')=>some (.nx (Zy (Zy ρ i x) j y),st')
 |_=>none
noncomputable def Zdk(f:Ev):Ex:=fun ρ st=>match f ρ st with
 |some (_,st')=>some (.nx ρ,st')
 |none=>none
noncomputable def Zb0(a:Nat)(d:D)(st:Za):Ot Za:=match st[a]? with
 |some (true,xs)=>if xs.length < Zc then some (st.set a (true,xs++[d])) else none
 |_=>none
noncomputable def Zdn(i:Nat)(f:Ev):Ex:=fun ρ st=>match ρ[i]? with
 |some (some (.lst a))=>match f ρ st with
  |some (d,st')=>match Zb0 a d st' with
   |some st2=>some (.nx ρ,st2)
   |none=>none
  |none=>none
 |_=>none
noncomputable def Q6(o f:Ev):Ex:=fun ρ st=>match o ρ st with
 |some (.lst a,st1)=>match f ρ st1 with
  |some (d,st2)=>match Zb0 a d st2 with
   |some st3=>some (.nx ρ,st3)
   |none=>none
  |none=>none
 |_=>none
noncomputable def Zfh(i:Nat)(k:CE)(f:Ev):Ex:=fun ρ st=>match k with
 |.cst (.str x)=>(match f ρ st with
  |some (d,st1)=>(match ρ[i]? with
   |some (some (.dic a))=>(match st1[a]? with
    |some (true,.int c :: es)=>if es.length < 900/\es.any (isK x)=false then some (.nx ρ,st1.set a (true,.int c :: (es++[.tup [.str x,d]]))) else none
    |_=>none)
   |_=>none)
  |none=>none)
 |_=>none
noncomputable def Jn(o k f:Ev):Ex:=fun ρ st=>match f ρ st with
 |some (d,st1)=>(match o ρ st1 with
  |some (.dic a,st2)=>(match k ρ st2 with
   |some (.str x,st3)=>(match st3[a]? with
    |some (true,es)=>if Wx es=false/\es.length < Zc/\es.any (isK x)=false then some (.nx ρ,st3.set a (true,es++[.tup [.str x,d]])) else none
    |_=>none)
   |_=>none)
  |_=>none)
 |none=>none
noncomputable def UG(c:Ev)(f g:Ex):Ex:=fun ρ st=>match c ρ st with
 |some (.bl true,st1)=>f ρ st1
 |some (.bl false,st1)=>g ρ st1
 |_=>none
noncomputable def Qz(i:Nat)(rng:Bool)(it:Ev)(b:Ex):Ex:=fun ρ st=>match it ρ st with
 |some (x,st1)=>match XV rng x with
  |some xs=>Yr (fun d ρ s=>b (Zy ρ i d) s) xs ρ st1
  |none=>match rng,x with
   |false,.lst a=>match st1[a]? with
    |some (_,xs)=>Yu (fun d ρ s=>b (Zy ρ i d) s) a xs.length 0 ρ st1
    |none=>none
   |_,_=>none
 |none=>none
noncomputable def Z0(ok:Za->Prop)(body:D->D->Env->Za->Ot (Fl×Za)):Li (D×D)->Env->Za->Ot (Fl×Za)
 |[],ρ,st=>open Classical in if ok st then some (.nx ρ,st) else none
 |p :: ps,ρ,st=>open Classical in if ok st then (match body p.1 p.2 ρ st with
  |some (.nx ρ',st')=>Z0 ok body ps ρ' st'
  |some (.ct ρ',st')=>Z0 ok body ps ρ' st'
  |some (.bk ρ',st')=>some (.nx ρ',st')
  |some (.rt v,st')=>some (.rt v,st')
  |none=>none) else none
noncomputable def Jt(i j:Nat)(it:Ev)(b:Ex):Ex:=fun ρ st=>match it ρ st with
 |some (.tup [.lst la,.tup ys],st1)=>match st1[la]? with
  |some ca=>Z0 (fun s=>s[la]?=some ca) (fun x y ρ s=>b (Zy (Zy ρ i x) j y) s) (ca.2.zip ys) ρ st1
  |none=>none
 |_=>none
noncomputable def Wo:Nat->Li D->Li (D×D)
 |_,[]=>[]
 |k,x :: xs=>(.int (k:Int),x) :: Wo (k+1) xs
noncomputable def Zl0(x:D)(st:Za):Ot (Li D×(Za->Prop)):=match x with
 |.lst a=>match st[a]? with
  |some c=>some (c.2,fun s=>s[a]?=some c)
  |none=>none
 |_=>none
noncomputable def Js(i j:Nat)(it:Ev)(b:Ex):Ex:=fun ρ st=>match it ρ st with
 |some (x,st1)=>match Zl0 x st1 with
  |some (xs,ok)=>Z0 ok (fun x y ρ s=>b (Zy (Zy ρ i x) j y) s) (Wo 1 xs) ρ st1
  |none=>none
 |none=>none
noncomputable def Qa(i j:Nat)(b:Ex)(d:D)(ρ:Env)(s:Za):Ot (Fl×Za):=match d with
 |.tup [x,y]=>b (Zy (Zy ρ i x) j y) s
 |_=>none
noncomputable def Jr(i j:Nat)(it:Ev)(b:Ex):Ex:=fun ρ st=>match it ρ st with
 |some (.lst a,st1)=>match st1[a]? with
  |some (_,xs)=>Yu (Qa i j b) a xs.length 0 ρ st1
  |none=>none
 |some (.tup xs,st1)=>Yr (Qa i j b) xs ρ st1
 |_=>none


noncomputable def ex(F:Nat->Fn):CS->Ex
 |.skip=>fun ρ st=>some (.nx ρ,st)
 |.seq a b=>UL (ex F a) (ex F b)
 |.ret e=>ZaO (ev F e)
 |.set i e=>JW i (ev F e)
 |.app i e=>Zdn i (ev F e)
 |.ext _ _=>fun _ _=>none
 |.put i k e=>Zfh i k (ev F e)
 |.ite c a b=>UG (ev F c) (ex F a) (ex F b)
 |.for1 i rng it b=>Qz i rng (ev F it) (ex F b)
 |.forP i j it b=>Jt i j (ev F it) (ex F b)
 |.forE i j it b=>Js i j (ev F it) (ex F b)
 |.for3 _ _ _=>fun _ _=>none
 |.set2 i j e=>JV i j (ev F e)
 |.for4 _ _ _ _ _=>fun _ _=>none
 |.for2 i j it b=>Jr i j (ev F it) (ex F b)
 |.whl _ _=>fun _ _=>none
 |.brk=>fun ρ st=>some (.bk ρ,st)
 |.cont=>fun ρ st=>some (.ct ρ,st)
 |.stop=>fun _ _=>none
 |.set3 _ _ _ _=>fun _ _=>none
 |.act e=>Zdk (ev F e)
 |.dput _ a b e=>Jn (ev F a) (ev F b) (ev F e)
 |.app2 o e=>Q6 (ev F o) (ev F e)

structure FD where
 ps:Nat
 ns:Nat
 body:CS
noncomputable def fnD(F:Nat->Fn)(f:FD):Fn:=fun ds st=>
 if ds.length=f.ps then
  match ex F f.body (ds.map some++List.replicate (f.ns - ds.length) none) st with
  |some (.rt d,st')=>some (d,st')
  |some (.nx _,st')=>some (.non,st')
  |_=>none
 else none
noncomputable def run(T:Nat->Ot FD):Nat->Nat->Fn
 |0,_=>fun _ _=>none
 |n+1,i=>match T i with
  |some f=>fnD (run T n) f
  |none=>fun _ _=>none

inductive GV where
 |fn (i:Nat) (ps:Nat) (ds:List D)|cst (d:D)|blt|dct (ks:List Str) (ds:List D)|cls (i:Nat) (ms:List (Str×Nat×Nat)) (subs:List Nat)
noncomputable abbrev Gs:=Li (Str×GV)

noncomputable def CE.ofConst:Const->Ot CE
 |.none=>some (.cst .non)
 |.bool b=>some (.cst (.bl b))
 |.int i=>some (.cst (.int i))
 |.str x=>some (.cst (.str x))
 |_=>none
noncomputable def Wq(sc:Scope)(x:Str):Bool:=!(x==("__debug__":Str))&&!(x==("__classdict__":Str))&&match sc.names.lookup x with
 |some .local=>true
 |some .cell=>true
 |some .free=>true
 |_=>false
noncomputable def ZN(sc:Scope)(x:Str):Bool:=!(x==("__debug__":Str))&&match sc.names.lookup x with
 |some .globalImplicit=>true
 |_=>false
noncomputable def ZlW(x:Str):Ot Ty:=
 if x = "int" then some .int else if x = "bool" then some .bool else if x = "str" then some .str else if x = "tuple" then some .tuple else none
noncomputable def ZZ(sc:Scope):Li Str:=(sc.names.filter fun p=>decide (p.2=.free)).map (·.1)

noncomputable def ZiX(f:Str)(x:CE):Ot CE:=
 if f = "len" then some (.len x) else if f = "tuple" then some (.tOf x) else if f = "int" then some (.intOf x) else if f = "all" then some (.all x) else if f = "str" then some (.strOf x) else none
noncomputable def ZiY(f:Str)(x y:CE):Ot CE:=if f = "min" then some (.min x y) else if f = "max" then some (.max x y) else none
noncomputable def U0(G:Gs)(x:Str):Bool:=match G.lookup x with
 |some .blt=>true
 |_=>false
noncomputable def ZkA(G:Gs)(sc:Scope)(t:Str):Ot Ty:=if ZN sc t&&U0 G t then ZlW t else none
noncomputable def ZbT(G:Gs)(sc:Scope):Expr->Ot Ty
 |.Name t _=>ZkA G sc t
 |_=>none


noncomputable def Ziv(m:Str)(k:Nat)(G:Gs)(x:Str):Ot (Nat×Nat):=match G.lookup x with
 |some (.cls i ms _)=>(match ms.lookup m with
  |some (j,ps)=>if ps=k+1 then some (i,j) else none
  |none=>none)
 |_=>none
noncomputable def Wa(m:Str)(k:Nat)(G:Gs):Li (Nat×Nat):=(G.map Prod.fst).filterMap (Ziv m k G)
noncomputable def Zih:Expr->Ot (Str×Li Expr)
 |.Call (.Name f _) as [] _=>some (f,as)
 |_=>none
noncomputable def fnA(G:Gs)(sc:Scope)(nm:Str)(e:Expr):Ot (Li Expr):=(Zih e).bind fun p=>og (p.1=nm/\ZN sc p.1=true/\U0 G p.1=true) (some p.2)
noncomputable def ZlC:Li Expr->Ot Expr
 |[a]=>some a
 |_=>none
noncomputable def Y1(G:Gs)(sc:Scope)(e:Expr):Ot Expr:=(fnA G sc "range" e).bind ZlC
noncomputable def ZaY(_:Gs)(_:Scope)(_:Str)(_:Expr):Ot Expr:=none
noncomputable def Zkz:Li Expr->Ot (Expr×Expr)
 |[a,b]=>some (a,b)
 |_=>none
noncomputable def ZaA(_:Gs)(_:Scope)(_:Str)(_:Expr):Ot (Expr×Expr):=none
noncomputable def o3{α β γ δ:Type}(f:α->β->γ->δ):Ot α->Ot β->Ot γ->Ot δ
 |some x,b,c=>o2 (f x) b c
 |none,_,_=>none
variable{γ:Type}
theorem QS{P:γ->Prop}{f:α->γ}{a:Ot α}{c:γ}(h:a.map f=some c)(k:∀ x,a=some x->P (f x)):P c:=by
 cases a with
 |none=>exact Zb h
 |some x=>cases h;exact k x rfl
variable{β:Type}
theorem Yf{P:γ->Prop}{f:α->β->γ}{a:Ot α}{b:Ot β}{c:γ}(h:o2 f a b=some c)(k:∀ x y,a=some x->b=some y->P (f x y)):P c:=by
 cases a with
 |none=>exact Zb h
 |some x=>cases b with
  |none=>exact Zb h
  |some y=>cases h;exact k x y rfl rfl
theorem UI{δ:Type}{P:δ->Prop}{f:α->β->γ->δ}{a:Ot α}{b:Ot β}{d:Ot γ}{c:δ}(h:o3 f a b d=some c)(k:∀ x y z,a=some x->b=some y->d=some z->P (f x y z)):P c:=by
 cases a with
 |none=>exact Zb h
 |some x=>exact Yf (P:=P) h fun y z e e'=>k x y z rfl e e'
theorem Xj{P:Prop}{p:Prop}[Decidable p]{o:Ot α}{c:α}(h:og p o=some c)(k:p->o=some c->P):P:=by
 unfold og at h;by_cases hp:p
 ·rw[if_pos hp]at h;exact k hp h
 ·rw[if_neg hp]at h;cases h
theorem j_e{P:Prop}{o:Ot (Ot α)}{c:α}(h:o.join=some c)(k:o=some (some c)->P):P:=by
 cases o with
 |none=>exact Zb h
 |some x=>cases h;exact k rfl

noncomputable def Zdr(G:Gs)(sc:Scope)(f:Str)(a:Expr)(r:Expr->Ot CE):Ot CE:=match ZaY G sc f a with
 |some e=>(r e).map .tupR
 |none=>match ZaA G sc f a with
  |some (u,v)=>o2 .lstR (r u) (r v)
  |none=>((r a).map (ZiX f)).join
noncomputable def Zds(G:Gs)(sc:Scope)(f:Str)(a b:Expr)(r:Expr->Ot CE):Ot CE:=if f = "isinstance" then o2 (fun x T=>.isi T x) (r a) (ZbT G sc b) else (o2 (ZiY f) (r a) (r b)).join
noncomputable def ZdB(G:Gs)(sc:Scope)(f:Str)(as:Li Expr)(cs:Ot CE)(r:Expr->Ot CE):Ot CE:=
 if ZN sc f then (match G.lookup f with
   |some (.fn i ps ds)=>og (as.length<=ps/\ps<=as.length+ds.length) (cs.map fun c=>.call i c (ds.drop (as.length+ds.length - ps)))
   |some .blt=>match as with
    |[a]=>Zdr G sc f a r
    |[a,b]=>Zds G sc f a b r
    |_=>none
   |some (.cls i ms _)=>match as with
    |[]=>(ms.lookup ("__init__":Str)).bind fun p=>og (p.2=1) (some (.isc [i,p.1] .aN))
    |_=>none
   |_=>none) else none
noncomputable def Zid(G:Gs)(ob:Expr)(m:Str)(ap:Pos)(as:Li Expr)(cp:Pos)(cs:Ot CE)(r:Expr->Ot CE):Ot CE:=match ob with
 |.Constant _ _ _=>(match as with
  |[a]=>og (m = "join"/\(ap.endLine==cp.line)=true) (o2 .joinE (r ob) (r a))
  |_=>none)
 |.Name _ _=>og ((ap.endLine==cp.line)=true/\as.length < 20) (if m = "split" then og (as.length=1) (o2 .tix (r ob) cs) else if m = "startswith" then og (as.length=1) (o2 .starts (r ob) cs) else o2 (.meth (Wa m as.length G)) (r ob) cs)
 |_=>none
noncomputable def ZkU(G:Gs)(sc:Scope)(f:Expr)(as:Li Expr)(cp:Pos)(cs:Ot CE)(r:Expr->Ot CE):Ot CE:=match f with
 |.Name f _=>ZdB G sc f as cs r
 |.Attribute ob m ap=>Zid G ob m ap as cp cs r
 |_=>none
noncomputable def Zle:Expr->Bool
 |.Slice ..=>true
 |_=>false
noncomputable def fldNames:Li Str:=["takes", "names", "rows", "aims"]
noncomputable def Zlb(o:Expr)(f:Str)(c:Ot CE):Ot CE:=match o with
 |.Name _ _=>og (fldNames.contains f=true) (c.map (.dict [f]))
 |_=>none
noncomputable def Zmp(keys:Li (Ot Expr))(vals:Li Expr):Ot CE:=match keys with
 |[]=>og (vals.length=0) (some .dnew)
 |_=>none
noncomputable def Vd(_:Gs)(_:Scope)(_:Expr):Ot (Li Expr):=none
noncomputable def WT(G:Gs)(sc:Scope)(e:Expr):Ot (Li Expr):=(fnA G sc "zip" e).bind fun as=>og (as.length=2) (some as)
noncomputable def X9(G:Gs)(sc:Scope):Expr->Ot Expr
 |.Call (.Name f _) [x] [⟨some k,.Constant (.int 1) _ _,_⟩] _=>og (f = "enumerate"/\k = "start"/\ZN sc f=true/\U0 G f=true) (some x)
 |_=>none
noncomputable def nmE:Expr->Ot Str
 |.Name x _=>some x
 |_=>none
noncomputable def nmL:Li Expr->Ot (Li Str)
 |[a,b]=>o2 (fun x y=>[x,y]) (nmE a) (nmE b)
 |_=>none
noncomputable def tgN:Expr->Ot (Li Str)
 |.Name x _=>some [x]
 |.Tuple es _ _=>nmL es
 |_=>none
noncomputable def mkC(r:Ot (Ot Bool))(fr:Li Nat)(ci ce cc:CE):CE:=match r with
 |some (some b)=>.comp b fr ci ce cc
 |some none=>.comp2 fr ci ce cc
 |none=>.compT fr ci ce cc
noncomputable def XX(N:Li Str):Li Str->Ot (Li Nat)
 |[]=>some []
 |x :: r=>match N.idxOf? x,XX N r with
  |some i,some is=>some (i :: is)
  |_,_=>none

noncomputable def ZeN(G:Gs)(sc:Scope)(N:Li Str)(x:Str):Ot CE:=
 if Wq sc x then (N.idxOf? x).map .var else if ZN sc x then (match G.lookup x with
  |some (.cst d)=>some (.cst d)
  |_=>none) else none
noncomputable def Vp(G:Gs)(sc:Scope):Expr->Ot (Li Str×Li D)
 |.Name x _=>if ZN sc x then (match G.lookup x with
  |some (.dct ks ds)=>some (ks,ds)
  |_=>none) else none
 |_=>none
noncomputable def VF:Expr->Ot (Ot Expr×Ot Expr)
 |.Slice lo hi none _=>some (lo,hi)
 |_=>none
noncomputable def ZbM:Expr->Ot Expr
 |.Slice none none (some s) _=>some s
 |_=>none
noncomputable def Zav:CE->Bool
 |.ix (.var _) (.cst (.int _))=>true
 |.var _=>true
 |.len (.var _)=>true
 |_=>false
noncomputable def Zjs:CE->Bool
 |.neg (.cst (.int 1))=>true
 |_=>false
noncomputable def Ud(sc:Scope)(x:Str):Bool:=match sc.names.lookup x with
 |some .cell=>true
 |some .free=>true
 |_=>false
noncomputable def XM(sc sc2:Scope)(xs:Li Str):Bool:=
 decide (sc2.kind=.function)&&(sc2.names.all fun p=>decide (p.2≠.cell))&&(xs.all fun x=>decide (sc2.names.lookup x=some .local))&&(sc2.names.all fun p=>!decide (p.2=.local)||decide (sc2.names.lookup p.1=some .local)) &&
 decide (xs++ZZ sc2).Nodup&&(ZZ sc2).all (fun y=>Ud sc y&&decide (sc2.names.lookup y=some .free))
noncomputable def Zjo:CmpOp->Ot Bool
 |.In=>some false
 |.NotIn=>some true
 |_=>none
noncomputable def unC(op:UnaryOp)(a:Ot CE):Ot CE:=match op with
 |.Not=>a.map .not
 |.USub=>a.map .neg
 |_=>none
noncomputable def ZkX(G:Gs)(sc:Scope)(f:Expr->Ot CE)(a:Ot CE):Li CmpOp->Li Expr->Ot CE
 |[op],[b]=>(match Vp G sc b with
  |some (ks,_)=>o2 (fun _ x=>.cmp op x (.cst (.kt ks))) (Zjo op) a
  |none=>o2 (.cmp op) a (f b))
 |[op,op2],[b,b2]=>(o3 (fun x y z=>og (Zav y=true) (some (.and (.cmp op x y) (.cmp op2 y z)))) a (f b) (f b2)).join
 |_,_=>none
noncomputable def Zif(f:Expr->Ot CE)(op:BoolOp)(pos:Pos):Li Expr->Ot CE
 |[]=>none
 |[a]=>f a
 |a :: b :: r=>match op with
  |.And=>o2 .and (f a) (f (.BoolOp .And (b :: r) pos))
  |.Or=>o2 .or (f a) (f (.BoolOp .Or (b :: r) pos))
noncomputable def Zku(G:Gs)(sc:Scope)(f:Expr->Ot CE)(fo:Ot Expr->Ot CE)(a b:Expr):Ot CE:=match VF b with
 |some (lo,hi)=>o3 .slice (f a) (fo lo) (fo hi)
 |none=>match ZbM b with
  |some s=>(o2 (fun x y=>og (Zjs y=true) (some (.rs false x))) (f a) (f s)).join
  |none=>match Vp G sc a with
   |some (ks,ds)=>(f b).map (.look ks ds)
   |none=>o2 .ix (f a) (f b)
noncomputable def itC(G:Gs)(sc:Scope)(it:Expr)(f:Expr->Ot CE):Li Str->Ot (Ot (Ot Bool)×CE)
 |[_]=>(match Y1 G sc it with
  |some a=>(f a).map fun c=>(some (some true),c)
  |none=>(f it).map fun c=>(some (some false),c))
 |_=>(match (fnA G sc "zip" it).bind Zkz with
  |some p=>o2 (fun x y=>(some none,.aC x (.aC y .aN))) (f p.1) (f p.2)
  |none=>(f it).map fun c=>(none,c))
noncomputable def ifC(f:Expr->Ot CE):Li Expr->Ot CE
 |[]=>some (CE.cst (.bl true))
 |[c]=>f c
 |_=>none
noncomputable def Zii(G:Gs)(sc sc2:Scope)(N:Li Str)(f:Expr->Ot CE)(g:Li Str->Expr->Ot CE)(elt:Expr):Li Comprehension->Ot CE
 |[⟨tg,it,ifs,0⟩]=>(match tgN tg with
  |none=>none
  |some xs=>og (XM sc sc2 xs=true) (o3 (fun fr p (q:CE×CE)=>mkC p.1 fr p.2 q.1 q.2) (XX N (ZZ sc2)) (itC G sc it f xs) (o2 Prod.mk (g (xs++ZZ sc2) elt) (ifC (g (xs++ZZ sc2)) ifs))))
 |_=>none
mutual
noncomputable def cE(G:Gs):Nat->Scope->Li Str->Expr->Ot CE
 |0,_,_,_=>none
 |n+1,sc,N,e=>match e with
  |.Constant c _ _=>CE.ofConst c
  |.Name x _=>ZeN G sc N x
  |.BinOp a op b _=>o2 (.bin op) (cE G n sc N a) (cE G n sc N b)
  |.UnaryOp op a _=>unC op (cE G n sc N a)
  |.Compare a ops bs _=>ZkX G sc (cE G n sc N) (cE G n sc N a) ops bs
  |.BoolOp op vs pos=>Zif (cE G n sc N) op pos vs
  |.IfExp c a b _=>o3 .ife (cE G n sc N c) (cE G n sc N a) (cE G n sc N b)
  |.Tuple es _ _=>(cEs G n sc N es).map .tupE
  |.List es _=>(cEs G n sc N es).map .lstE
  |.Dict keys vals _=>Zmp keys vals
  |.Attribute o f _=>Zlb o f (cE G n sc N o)
  |.Subscript a b _=>Zku G sc (cE G n sc N) (cO G n sc N) a b
  |.Call f as [] cp=>ZkU G sc f as cp (cEs G n sc N as) (cE G n sc N)
  |.ListComp elt gens sc2 _=>Zii G sc sc2 N (cE G n sc N) (cE G n sc2) elt gens
  |_=>none
noncomputable def cEs(G:Gs):Nat->Scope->Li Str->Li Expr->Ot CE
 |0,_,_,_=>none
 |_+1,_,_,[]=>some .aN
 |n+1,sc,N,e :: es=>o2 .aC (cE G n sc N e) (cEs G n sc N es)
noncomputable def cO(G:Gs):Nat->Scope->Li Str->Ot Expr->Ot CE
 |0,_,_,_=>none
 |_+1,_,_,none=>some .nop
 |n+1,sc,N,some e=>(cE G n sc N e).map .part
end

noncomputable def Xs:Expr->Bool
 |.ListComp ..=>true
 |.SetComp ..=>true
 |.DictComp ..=>true
 |_=>false
noncomputable def ZeA:Expr->Bool
 |.Tuple ..=>true
 |_=>false
noncomputable def ZkQ(N:Li Str)(tg e:Expr)(c:Ot CE):Ot CS:=match tg with
 |.Name x _=>o2 .set (N.idxOf? x) c
 |.Tuple [.Name x _,.Name y _] _ _=>og ((Xs e||ZeA e)=false) (o3 (fun i j c=>og (i≠j) (some (.set2 i j c))) (N.idxOf? x) (N.idxOf? y) c).join
 |_=>none



noncomputable def Zjk(G:Gs)(sc:Scope)(N:Li Str)(f:Expr->Ot CE)(fs:Li Expr->Ot CE)(tg it:Expr)(b:Ot CS):Ot CS:=match tg with
 |.Name x _=>(match Vd G sc it with
  |some as=>o3 .for3 (N.idxOf? x) (fs as) b
  |none=>match Y1 G sc it with
   |some a=>o3 (fun i c b=>.for1 i true c b) (N.idxOf? x) (f a) b
   |none=>o3 (fun i c b=>.for1 i false c b) (N.idxOf? x) (f it) b)
 |.Tuple [.Name x _,.Name y _] _ _=>(o2 (fun i j=>og (i≠j) (some (i,j))) (N.idxOf? x) (N.idxOf? y)).join.bind fun p=>(match WT G sc it with
  |some as=>o2 (.forP p.1 p.2) (fs as) b
  |none=>match X9 G sc it with
   |some e=>o2 (.forE p.1 p.2) (f e) b
   |none=>o2 (.for2 p.1 p.2) (f it) b)
 |.Tuple [.Name x _,.Name y _,.Name z _] _ _=>o3 (fun(p:Nat×Nat) (q:Nat×CE) b=>.for4 p.1 p.2 q.1 q.2 b) (o2 Prod.mk (N.idxOf? x) (N.idxOf? y)) (o2 Prod.mk (N.idxOf? z) (f it)) b
 |_=>none
noncomputable def ZiU(sc:Scope)(N:Li Str)(x m:Str)(ap cp:Pos)(c:Ot CE):Ot CS:=og (Wq sc x=true/\(ap.endLine==cp.line)=true) (if m = "append" then o2 .app (N.idxOf? x) c else none)
noncomputable def ZkO(sc:Scope)(N:Li Str)(f:Expr->Ot CE):Expr->Ot CS
 |.Call (.Name g fp) as kw cp=>(f (.Call (.Name g fp) as kw cp)).map .act
 |.Call (.Attribute (.Name x p) m ap) as kw cp=>if m = "append"\/m = "extend" then (match as,kw with
  |[e],[]=>ZiU sc N x m ap cp (f e)
  |_,_=>none) else (f (.Call (.Attribute (.Name x p) m ap) as kw cp)).map .act
 |.Call (.Attribute (.Attribute o k p) m ap) [e] [] cp=>og (m = "append"/\(ap.endLine==cp.line)=true) (o2 .app2 (f (.Attribute o k p)) (f e))
 |_=>none
mutual
noncomputable def cS(G:Gs):Nat->Scope->Li Str->Stmt->Ot CS
 |0,_,_,_=>none
 |n+1,sc,N,s=>match s with
  |.Assign [.Subscript o k _] e _=>og (Xs e=false/\Zle k=false) (o3 (.dput 0) (cE G n sc N o) (cE G n sc N k) (cE G n sc N e))
  |.Assign [.Attribute (.Name x _) k _] e _=>og (Xs e=false/\Wq sc x=true/\fldNames.contains k=true) (o2 (fun i c=>.put i (.cst (.str k)) c) (N.idxOf? x) (cE G n sc N e))
  |.Try b (_ :: _) [] [] _=>cSs G n sc N b
  |.Assign [tg] e _=>ZkQ N tg e (cE G n sc N e)
  |.Expr e _=>ZkO sc N (cE G n sc N) e
  |.Return (some e) _=>(cE G n sc N e).map .ret
  |.If c a b _=>o3 .ite (cE G n sc N c) (cSs G n sc N a) (cSs G n sc N b)
  |.For tg it b [] _=>Zjk G sc N (cE G n sc N) (cEs G n sc N) tg it (cSs G n sc N b)
  |.Pass _=>some .skip
  |.Break _=>some .brk
  |.Continue _=>some .cont
  |.Raise _ _ _=>some .stop
  |_=>none
noncomputable def cSs(G:Gs):Nat->Scope->Li Str->Li Stmt->Ot CS
 |0,_,_,_=>none
 |_+1,_,_,[]=>some .skip
 |n+1,sc,N,s :: r=>o2 .seq (cS G n sc N s) (cSs G n sc N r)
end
theorem Qh{c:Nat}:∀ {p:Li Nat},c∉p->Wm c p=[p]
 |[],_=>rfl
 |x :: p,h=>by
  have hx:¬x=c:=fun z=>h (by rw[z];exact Ls)
  have ih:=Qh (fun z=>h (Lm _ z):c∉p)
  unfold Wm;rw[if_neg hx,ih]
theorem J2{c:Nat}{q:Li Nat}:∀ {p:Li Nat},c∉p->Wm c (p++c :: q)=p :: Wm c q
 |[],_=>by
  show Wm c (c :: q)=_
  conv=>lhs;unfold Wm
  rw[if_pos rfl]
 |x :: p,h=>by
  have hx:¬x=c:=fun z=>h (by rw[z];exact Ls)
  have ih:=J2 (q:=q) (fun z=>h (Lm _ z):c∉p)
  show Wm c (x :: (p++c :: q))=_
  conv=>lhs;unfold Wm
  rw[if_neg hx,ih]
theorem Uu{c:Nat}:∀ {xs:Li Str},xs≠[]->(∀ p∈xs,c∉p.cps.toList)->Wm c (Y3 ⟨#[c]⟩ xs)=xs.map fun p=>p.cps.toList
 |[],h,_=>absurd rfl h
 |[x],_,h=>by
  show Wm c (x.cps.toList++[])=_;rw[bE,Qh (h x Ls)];rfl
 |x :: y :: r,_,h=>by
  have ih:=Uu (c:=c) (xs:=y :: r) (dC _ _) (fun p hp=>h p (Lm _ hp))
  show Wm c (x.cps.toList++c :: Y3 ⟨#[c]⟩ (y :: r))=_;rw[J2 (h x Ls),ih];rfl
end Dp


namespace Dp
open PySem PySem.Spec PyProof.Rows L2
class ClsTab where
 ca:Nat->Addr
variable [ClsTab]

variable{X:Cx}{e:Expr}
theorem Zu{t t':TE}(h:PE X e t)(i:∀ σ H Q,t' σ H Q->t σ H Q):PE X e t':=fun pQ s σ H Q I q=>h pQ s σ H Q I (i σ H Q q)
theorem Wz{t t':TT}(h:PT X e t)(i:∀ σ H Q,t' σ H Q->t σ H Q):PT X e t':=fun pQ s σ H Q I q=>h pQ s σ H Q I (i σ H Q q)
theorem Up{e:Li Expr}{t t':TA}(h:PA X e t)(i:∀ σ H Q,t' σ H Q->t σ H Q):PA X e t':=fun pos pQ s σ H Q I q=>h pos pQ s σ H Q I (i σ H Q q)
theorem Zfc{e:Ot Expr}{t t':TO}(h:PO X e t)(i:∀ σ H Q,t' σ H Q->t σ H Q):PO X e t':=fun pQ s σ H Q I q=>h pQ s σ H Q I (i σ H Q q)
theorem ZU{e:Stmt}{t t':TS}(h:PS X e t)(i:∀ D σ H,t' D σ H->t D σ H):PS X e t':=fun pQ s σ H D I q=>h pQ s σ H D I (i D σ H q)
theorem ZbK{e:Li Stmt}{t t':TS}(h:PSs X e t)(i:∀ D σ H,t' D σ H->t D σ H):PSs X e t':=fun pQ s σ H D I q=>h pQ s σ H D I (i D σ H q)

def KT(K:Fg)(a:Ad)(xs:Li V):Prop:=
 ∃ (o:Obj) (its:Array vL) (n:Nat),K.lookup a=some o/\o.cls=.type "tuple"/\o.data=.seq its n/\its.size<=sizeLine/\Vals xs its.toList
def TupAt(K:Fg)(H:Hp)(a:Ad)(xs:Li V):Prop:=H a=some (.tup xs)\/KT K a xs
variable{K:Fg}{H:Hp}{xs:Li V}
theorem TupAt.sq{a:Ad}(h:TupAt K H a xs):SqT K H a xs:=by
 rcases h with h|h
 ·exact .inl (.inl h)
 ·exact .inr h
noncomputable def isM:HO->Bool
 |.dK _=>true
 |.ins _ _ _=>true
 |_=>false
def YA(H:Hp)(a:Ad):Prop:=∃ o,H a=some o/\isM o=true
def LA(ad:Li Ad)(H:Hp)(i:Nat)(a:Ad):Prop:=ad[i]?=some a/\¬YA H a
variable{o:HO}
theorem QP{a:Ad}(h:H a=some o)(n:isM o=false):¬YA H a:=fun⟨o',z,m⟩=>by rw[h]at z;cases z;rw[n]at m;cases m
mutual
inductive Den(K:Fg)(ad:List Addr)(H:Hp):V->D->Prop where
 |non:Den K ad H .non .non
 |bl (b:Bool):Den K ad H (.bl b) (.bl b)
 |int (i:Int):Den K ad H (.int i) (.int i)
 |str (x:Str):Den K ad H (.str x) (.str x)
 |tup {a:Addr}{xs:List V}{ds:List D} (h:TupAt K H a xs) (r:Dens K ad H xs ds):Den K ad H (.ref a) (.tup ds)
 |lst {a:Addr}{i:Nat} (h:LA ad H i a):Den K ad H (.ref a) (.lst i)
 |dic {a:Addr}{i:Nat} (h:ad[i]?=some a) (n:YA H a):Den K ad H (.ref a) (.dic i)
 |obj {a dx:Addr}{i:Nat} (h:H a=some (.ins (ClsTab.ca i) dx [])) (n:a∉ad):Den K ad H (.ref a) (.obj i)
 |kt {a:Addr}{ks:List Str}{o:Obj}{its:Array Value}{n:Nat} (l:K.lookup a=some o) (c:o.cls=.type "tuple") (g:o.dict=none) (e:o.data=.seq its n) (z:its.size<=sizeLine) (r:Vals (ks.map V.str) its.toList):Den K ad H (.ref a) (.kt ks)
inductive Dens(K:Fg)(ad:List Addr)(H:Hp):List V->List D->Prop where
 |nil:Dens K ad H [] []
 |cons {v:V}{d:D}{vs:List V}{ds:List D} (h:Den K ad H v d) (r:Dens K ad H vs ds):Dens K ad H (v :: vs) (d :: ds)
end

structure Ext(ad:List Addr)(H:Hp)(ad':List Addr)(H':Hp):Prop where
 pre:∀ (i:Nat) (a:Addr),ad[i]?=some a->ad'[i]?=some a
 tup:∀ b xs,H b=some (.tup xs)->H' b=some (.tup xs)
 keep:∀ b o,H b=some o->b∉ad->H' b=some o
 new:∀ b,b∈ad'->b∈ad\/H b=none
 kd:∀ (i:Nat) (a:Addr),ad[i]?=some a->(YA H a↔YA H' a)
theorem Ext.refl(ad:Li Ad)(H:Hp):Ext ad H ad H:=⟨fun _ _ h=>h,fun _ _ h=>h,fun _ _ h _=>h,fun _ h=>.inl h,fun _ _ _=>Iff.rfl⟩
theorem Ext.trans{a1 a2 a3:Li Ad}{H1 H2 H3:Hp}(x:Ext a1 H1 a2 H2)(y:Ext a2 H2 a3 H3):Ext a1 H1 a3 H3:=by
 refine⟨fun i a h=>y.pre i a (x.pre i a h),fun b xs h=>y.tup b xs (x.tup b xs h),fun b o h n=>?_,fun b h=>?_,fun i a h=>(x.kd i a h).trans (y.kd i a (x.pre i a h))⟩
 ·refine y.keep b o (x.keep b o h n) fun z=>?_
  rcases x.new b z with z|z
  ·exact n z
  ·rw[h]at z;cases z
 ·rcases y.new b h with z|z
  ·exact x.new b z
  ·cases e:H1 b with
   |none=>exact .inr rfl
   |some o=>
    by_cases q:b∈a1
    ·exact .inl q
    ·rw[x.keep b o e q]at z;cases z

variable{ad ad':Li Ad}{H':Hp}
theorem TupAt.mono{a:Ad}(x:Ext ad H ad' H')(h:TupAt K H a xs):TupAt K H' a xs:=h.imp (x.tup _ _) id
theorem TupAt.upd{K:Fg}{H:Hp}{a p:Ad}{xs:Li V}{o o':HO}(hp:H p=some o)(ho:∀ xs,o≠.tup xs)(h:TupAt K H a xs):TupAt K (upd H p o') a xs:=by
 rcases h with h|h
 ·refine .inl ?_
  have n:a≠p:=fun z=>by subst z;rw[h]at hp;cases hp;exact ho _ rfl
  rw[upd_ne n];exact h
 ·exact .inr h
variable{v:V}{d:D}{vs ys:Li V}{ds es:Li D}{x:Str}{ks:Li Str}{i j:Nat}{kvs kvs':Li (Str×V)}{st:Za}{p:Ad}{α:Type}{o':HO}{σ:L2.St}{ρ:Env}
section
variable {K:Fg}{ad ad':Li Ad}{H H':Hp}
structure Keeps(K:Fg)(ad ad':List Addr)(H H':Hp):Prop where
 t:∀ {a xs},TupAt K H a xs->TupAt K H' a xs
 l:∀ {i:Nat}{a:Addr},ad[i]?=some a->ad'[i]?=some a/\(YA H a↔YA H' a)
 o:∀ {a C dx},H a=some (.ins C dx [])->a∉ad->H' a=some (.ins C dx [])/\a∉ad'
theorem Den.map(x:Keeps K ad ad' H H')(h:Den K ad H v d):Den K ad' H' v d:=
 Den.rec (motive_1:=fun v d _=>Den K ad' H' v d) (motive_2:=fun vs ds _=>Dens K ad' H' vs ds) .non .bl .int .str (fun h _ r=>.tup (x.t h) r) (fun h=>.lst ⟨(x.l h.1).1,fun z=>h.2 ((x.l h.1).2.mpr z)⟩) (fun h n=>.dic (x.l h).1 ((x.l h).2.mp n)) (fun h n=>.obj (x.o h n).1 (x.o h n).2) .kt .nil (fun _ _ a b=>.cons a b) h
theorem Dens.map(x:Keeps K ad ad' H H')(h:Dens K ad H vs ds):Dens K ad' H' vs ds:=
 Dens.rec (motive_1:=fun _ _ _=>True) (motive_2:=fun vs ds _=>Dens K ad' H' vs ds) trivial (fun _=>trivial) (fun _=>trivial) (fun _=>trivial) (fun _ _ _=>trivial) (fun _=>trivial) (fun _ _=>trivial) (fun _ _=>trivial) (fun _ _ _ _ _ _=>trivial) .nil (fun a _ _ b=>.cons (a.map x) b) h
theorem Ext.keeps(x:Ext ad H ad' H'):Keeps K ad ad' H H':=⟨fun h=>h.mono x,fun h=>⟨x.pre _ _ h,x.kd _ _ h⟩,fun h n=>⟨x.keep _ _ h n,fun z=>(x.new _ z).elim n fun q=>by rw[h]at q;cases q⟩⟩
theorem Den.mono(x:Ext ad H ad' H')(h:Den K ad H v d):Den K ad' H' v d:=h.map x.keeps
theorem Dens.mono(x:Ext ad H ad' H')(h:Dens K ad H vs ds):Dens K ad' H' vs ds:=h.map x.keeps
theorem Zjv(x:∀ (i:Nat) (a:Ad),ad[i]?=some a->ad'[i]?=some a)(y:∀ b,b∈ad'->b∈ad\/∃ xs,H b=some (.lst xs)):Keeps K ad ad' H H:=⟨id,fun h=>⟨x _ _ h,Iff.rfl⟩,fun h n=>⟨h,fun z=>(y _ z).elim n fun⟨xs,q⟩=>by rw[h]at q;cases q⟩⟩
theorem Dens.length:∀ {vs:Li V}{ds:Li D},Dens K ad H vs ds->vs.length=ds.length
 |_,_,.nil=>rfl
 |_,_,.cons _ r=>congrArg (·+1) (Dens.length r)
theorem Dens.get:∀ {vs:Li V}{ds:Li D}{i:Nat}{d:D},Dens K ad H vs ds->ds[i]?=some d->∃ v,vs[i]?=some v/\Den K ad H v d
 |_,_,_,_,.nil,e=>by simp at e
 |_,_,0,_,.cons h _,e=>by simp at e;subst e;exact⟨_,rfl,h⟩
 |_,_,i+1,d,.cons _ r,e=>by
  obtain⟨v,h1,h2⟩:=Dens.get (i:=i) (d:=d) r (by simpa using e)
  exact⟨v,by simpa using h1,h2⟩
theorem Dens.append:∀ {vs ws:Li V}{ds es:Li D},Dens K ad H vs ds->Dens K ad H ws es->Dens K ad H (vs++ws) (ds++es)
 |_,_,_,_,.nil,s=>s
 |_,_,_,_,.cons h r,s=>.cons h (Dens.append r s)
theorem Dens.take:∀ {vs:Li V}{ds:Li D} (n:Nat),Dens K ad H vs ds->Dens K ad H (vs.take n) (ds.take n)
 |_,_,0,_=>.nil
 |_,_,_+1,.nil=>.nil
 |_,_,n+1,.cons h r=>.cons h (Dens.take n r)
theorem Dens.drop:∀ {vs:Li V}{ds:Li D} (n:Nat),Dens K ad H vs ds->Dens K ad H (vs.drop n) (ds.drop n)
 |_,_,0,r=>r
 |_,_,_+1,.nil=>.nil
 |_,_,n+1,.cons _ r=>Dens.drop n r
theorem Dens.rep(h:Den K ad H v d):∀ n:Nat,Dens K ad H (List.replicate n v) (List.replicate n d)
 |0=>.nil
 |n+1=>.cons h (Dens.rep h n)
theorem Den.ofInt{i:Int}(h:Den K ad H v (.int i)):v=.int i:=by cases h;rfl
theorem Den.ofStr(h:Den K ad H v (.str x)):v=.str x:=by cases h;rfl
theorem Den.ofBl{b:Bool}(h:Den K ad H v (.bl b)):v=.bl b:=by cases h;rfl
theorem Den.ofNon(h:Den K ad H v .non):v=.non:=by cases h;rfl
theorem Den.ofDct(h:Den K ad H v (.dct ks ds)):∃ a vs,v=.ref a/\H a=some (.dK ((ks.zip vs).map fun p=>(Sum.inr p.1,p.2)))/\ks.length=vs.length/\Dens K ad H vs ds:=by
 cases h
theorem Den.ofTup(h:Den K ad H v (.tup ds)):∃ a xs,v=.ref a/\TupAt K H a xs/\Dens K ad H xs ds:=by
 cases h with
 |tup h r=>exact⟨_,_,rfl,h,r⟩
theorem Den.ofLst(h:Den K ad H v (.lst i)):∃ a,v=.ref a/\LA ad H i a:=by
 cases h with
 |lst h=>exact⟨_,rfl,h⟩
theorem Den.ofDic(h:Den K ad H v (.dic i)):∃ a,v=.ref a/\ad[i]?=some a/\YA H a:=by
 cases h with
 |dic h n=>exact⟨_,rfl,h,n⟩
theorem Den.newL{a:Ad}(h:ad[i]?=some a):Den K ad (upd H a (.lst xs)) (.ref a) (.lst i):=.lst ⟨h,QP upd_same rfl⟩
theorem LA.mono{a:Ad}(x:Ext ad H ad' H')(h:LA ad H i a):LA ad' H' i a:=⟨x.pre _ _ h.1,fun z=>h.2 ((x.kd _ _ h.1).mpr z)⟩

theorem Den.ofKt(h:Den K ad H v (.kt ks)):∃ a o its n,v=.ref a/\K.lookup a=some o/\(o.cls=.type "tuple"/\o.dict=none)/\o.data=.seq its n/\its.size<=sizeLine/\Vals (ks.map V.str) its.toList:=by
 cases h with
 |kt l c g e z r=>exact⟨_,_,_,_,rfl,l,⟨c,g⟩,e,z,r⟩
theorem Vh:∀ ks:Li Str,Dens K ad H (ks.map V.str) (ks.map D.str)
 |[]=>.nil
 |k :: ks=>.cons (.str k) (Vh ks)

def KL(K:Fg)(a:Ad)(xs:Li V):Prop:=
 ∃ (o:Obj) (its:Array vL) (n:Nat),(K.lookup a=some o/\o.cls=.type "list")/\(o.dict=none/\o.data=.seq its n)/\its.size<=sizeLine/\Vals xs its.toList
inductive Ents(K:Fg)(ad:List Addr)(H:Hp):List (Str×V)->List D->Prop where
 |nil:Ents K ad H [] []
 |cons {k:Str}{v:V}{d:D}{kvs:List (Str×V)}{ds:List D} (h:Den K ad H v d) (r:Ents K ad H kvs ds):Ents K ad H ((k,v) :: kvs) (.tup [.str k,d] :: ds)
theorem Ents.map(x:Keeps K ad ad' H H')(h:Ents K ad H kvs ds):Ents K ad' H' kvs ds:=by
 induction h with
 |nil=>exact .nil
 |cons h _ ih=>exact .cons (h.map x) ih
theorem Ents.mono(x:Ext ad H ad' H')(h:Ents K ad H kvs ds):Ents K ad' H' kvs ds:=h.map x.keeps
theorem Ents.dict(h:Ents K ad H kvs ds):Wx ds=false:=by cases h<;>rfl
noncomputable abbrev Y4(kvs:Li (Str×V)):Li (Key×V):=kvs.map fun p=>(Sum.inr p.1,p.2)
structure ObC(K:Fg)(C:Addr):Prop where
 cl:Cls K C
 na:∀ f,fldNames.contains f=true->NoAttr K C f
inductive CellOk(K:Fg)(ad:List Addr)(H:Hp)(a:Addr)(c:YU):Prop where
 |l {xs:List V} (n:¬YA H a) (r:Dens K ad H xs c.2) (h:(c.1=true/\H a=some (.lst xs))\/(c.1=false/\((∃ o,H a=some (.frz o (.lst xs)))\/KL K a xs)))
 |d {kvs:List (Str×V)} (r:Ents K ad H kvs c.2) (e:c.1=true) (h:H a=some (.dK (Y4 kvs)))
 |o {i:Nat}{dx:Addr}{kvs:List (Str×V)}{es:List D} (q:c.2=.int (i:Int) :: es) (r:Ents K ad H kvs es) (e:c.1=true) (h:H a=some (.ins (ClsTab.ca i) dx kvs)) (oc:ObC K (ClsTab.ca i)/\∀ k,fldNames.contains k=false->kvs.lookup k=none)
structure StOk(K:Fg)(ad:List Addr)(H:Hp)(st:Za):Prop where
 len:ad.length=st.length
 nd:∀ (i j:Nat) (a:Addr) (c d:List D),ad[i]?=some a->ad[j]?=some a->st[i]?=some (true,c)->st[j]?=some (true,d)->i=j
 cell:∀ (i:Nat) (c:YU),st[i]?=some c->∃ a,ad[i]?=some a/\CellOk K ad H a c

theorem CellOk.sq{a:Ad}{c:YU}(h:CellOk K ad H a c)(n:¬YA H a):∃ xs,Dens K ad H xs c.2/\SqL K H a xs:=by
 cases h with
 |l _ r h=>
  obtain⟨_,e⟩|⟨_,⟨o,e⟩|⟨o,its,n,⟨h1,h2⟩,⟨h3,h4⟩,h5,h6⟩⟩:=h
  ·exact⟨_,r,.inl (.inl e)⟩
  ·exact⟨_,r,.inl (.inr ⟨o,e⟩)⟩
  ·exact⟨_,r,.inr ⟨o,its,n,h1,h2,h3,h4,h5,h6⟩⟩
 |d r e h=>exact absurd ⟨_,h,rfl⟩ n
 |o _ r e h _=>exact absurd ⟨_,h,rfl⟩ n
theorem StOk.list{a:Ad}{b:Bool}(S:StOk K ad H st)(h:LA ad H i a)(e:st[i]?=some (b,ds)):∃ xs,Dens K ad H xs ds/\SqL K H a xs:=by
 obtain⟨a',e',c⟩:=S.cell i _ e;rw[h.1]at e';cases e'
 exact c.sq h.2
theorem StOk.listM{a:Ad}(S:StOk K ad H st)(h:LA ad H i a)(e:st[i]?=some (true,ds)):∃ xs,Dens K ad H xs ds/\H a=some (.lst xs):=by
 obtain⟨a',e',c⟩:=S.cell i _ e;rw[h.1]at e';cases e'
 cases c with
 |l _ r q=>
  obtain⟨_,q⟩|⟨q,_⟩:=q
  ·exact⟨_,r,q⟩
  ·cases q
 |d r _ q=>exact absurd ⟨_,q,rfl⟩ h.2
 |o _ r _ q _=>exact absurd ⟨_,q,rfl⟩ h.2
theorem StOk.dict{a:Ad}{b:Bool}(S:StOk K ad H st)(h:ad[i]?=some a)(n:YA H a)(e:st[i]?=some (b,ds))(ob:Wx ds=false):∃ kvs,Ents K ad H kvs ds/\H a=some (.dK (Y4 kvs))/\b=true:=by
 obtain⟨a',e',c⟩:=S.cell i _ e;rw[h]at e';cases e'
 cases c with
 |l z=>exact absurd n z
 |d r e q=>exact⟨_,r,q,e⟩
 |o q _ _ _ _=>rw[show ds=_ from q]at ob;cases ob
theorem StOk.obj{a:Ad}{b:Bool}{c:Int}(S:StOk K ad H st)(h:ad[i]?=some a)(n:YA H a)(e:st[i]?=some (b,.int c :: es)):∃ (j:Nat) (dx:Ad) (kvs:Li (Str×V)),c=(j:Int)/\Ents K ad H kvs es/\H a=some (.ins (ClsTab.ca j) dx kvs)/\b=true/\ObC K (ClsTab.ca j)/\∀ k,fldNames.contains k=false->kvs.lookup k=none:=by
 obtain⟨a',e',c⟩:=S.cell i _ e;rw[h]at e';cases e'
 cases c with
 |l z=>exact absurd n z
 |d r e q=>have:=r.dict;cases this
 |o q r e h oc=>cases q;exact⟨_,_,_,rfl,r,h,e,oc⟩
theorem ZaZ{a:Ad}(hp:¬YA H p)(ho:isM o=false):YA H a↔YA (upd H p o) a:=by
 by_cases z:a=p
 ·subst z
  exact⟨fun q=>absurd q hp,fun q=>absurd q (QP upd_same ho)⟩
 ·unfold YA
  rw[upd_ne z]
theorem ZbD(hp:H p=none):¬YA H p:=fun⟨_,z,_⟩=>by rw[hp]at z;cases z
theorem Ext.laid(hp:H p=none)(ho:isM o=false:=by rfl):Ext ad H ad (upd H p o):=
 ⟨fun _ _ h=>h,fun b xs h=>by rw[upd_ne (ne_of_none h hp)];exact h,fun b o h _=>by rw[upd_ne (ne_of_none h hp)];exact h,fun _ h=>.inl h,fun _ _ _=>ZaZ (ZbD hp) ho⟩
theorem CellOk.laid{a:Ad}{c:YU}(ha:ad[i]?=some a)(hp:H p=none)(x:Ext ad H ad' (upd H p o))(h:CellOk K ad H a c):CellOk K ad' (upd H p o) a c:=by
 cases h with
 |l n r h=>
  refine .l (fun z=>n ((x.kd i a ha).mpr z)) (r.mono x) ?_
  rcases h with⟨b,e⟩|⟨b,⟨o,e⟩|e⟩
  ·exact .inl ⟨b,by rw[upd_ne (ne_of_none e hp)];exact e⟩
  ·exact .inr ⟨b,.inl ⟨o,by rw[upd_ne (ne_of_none e hp)];exact e⟩⟩
  ·exact .inr ⟨b,.inr e⟩
 |d r e h=>exact .d (r.mono x) e (by rw[upd_ne (ne_of_none h hp)];exact h)
 |o q r e h oc=>exact .o q (r.mono x) e (by rw[upd_ne (ne_of_none h hp)];exact h) oc
theorem StOk.laid(S:StOk K ad H st)(hp:H p=none)(ho:isM o=false:=by rfl):StOk K ad (upd H p o) st:=
 ⟨S.len,S.nd,fun i c e=>let ⟨a,h,q⟩:=S.cell i c e;⟨a,h,q.laid h hp (Ext.laid hp ho)⟩⟩
theorem WI{l:Li α}{x y:α}(h:(l++[x])[i]?=some y):l[i]?=some y\/(i=l.length/\y=x):=by
 by_cases hi:i < l.length
 ·rw[aZ hi]at h
  exact .inl h
 ·rw[bF (by omega)]at h
  have:i - l.length=0:=by
   cases e:i - l.length with
   |zero=>rfl
   |succ k=>rw[e]at h;simp at h
  rw[this]at h;simp at h;exact .inr ⟨by omega,h.symm⟩
theorem X3{l:Li α}{x y:α}(h:l[i]?=some y):(l++[x])[i]?=some y:=by
 rw[aZ (bI.mp h).1];exact h
theorem ZO{l:Li α}{x:α}:(l++[x])[l.length]?=some x:=by simp
theorem Ext.pushG(hp:H p=none)(hk:∀ (i:Nat) (a:Ad),ad[i]?=some a->(YA H a↔YA (upd H p o) a)):Ext ad H (ad++[p]) (upd H p o):=
 ⟨fun _ _ h=>X3 h,fun b xs h=>by rw[upd_ne (ne_of_none h hp)];exact h,fun b o h _=>by rw[upd_ne (ne_of_none h hp)];exact h,fun b h=>(aR.mp h).elim .inl fun z=>.inr (by rw[bH.mp z];exact hp),hk⟩
theorem Ext.push(hp:H p=none):Ext ad H (ad++[p]) (upd H p (.lst xs)):=Ext.pushG hp fun _ _ _=>ZaZ (ZbD hp) rfl
theorem StOk.more(S:StOk K ad H st)(hn:∀ (i:Nat) (c:Li D),ad[i]?=some p->st[i]?=some (true,c)->False)(hc:∀ (i:Nat) (c:YU) (a:Ad),ad[i]?=some a->CellOk K ad H a c->CellOk K (ad++[p]) H' a c)(hp:CellOk K (ad++[p]) H' p (true,ds)):StOk K (ad++[p]) H' (st++[(true,ds)]):=by
 have old:∀ (i:Nat) (c:Li D) (a:Ad),(ad++[p])[i]?=some a->st[i]?=some (true,c)->ad[i]?=some a:=fun i c a h e=>by
  obtain⟨a1,q1,_⟩:=S.cell i _ e;have z1:=X3 (x:=p) q1;rw[h]at z1;cases z1;exact q1
 refine⟨by rw[aH,aH,S.len];rfl,fun i j a c d h1 h2 h3 h4=>?_,fun i c e=>?_⟩
 ·rcases WI h3 with h3|⟨e3,_⟩
  ·rcases WI h4 with h4|⟨e4,_⟩
   ·exact S.nd i j a c d (old i c a h1 h3) (old j d a h2 h4) h3 h4
   ·have q1:=old i c a h1 h3
    rw[e4,<-S.len,ZO]at h2;cases h2;exact(hn i c q1 h3).elim
  ·rcases WI h4 with h4|⟨e4,_⟩
   ·have q2:=old j d a h2 h4
    rw[e3,<-S.len,ZO]at h1;cases h1;exact(hn j d q2 h4).elim
   ·omega
 ·rcases WI e with e|⟨e1,e2⟩
  ·obtain⟨a,h,q⟩:=S.cell i c e
   exact⟨a,X3 h,hc i c a h q⟩
  ·subst e2
   exact⟨p,by rw[e1,<-S.len];exact ZO,hp⟩
theorem StOk.noNew(S:StOk K ad H st)(hp:H p=none)(i:Nat)(c:Li D)(h:ad[i]?=some p)(e:st[i]?=some (true,c)):False:=by
 obtain⟨a',e',q⟩:=S.cell i _ e;rw[h]at e';cases e'
 cases q with
 |l _ _ q=>
  obtain⟨_,q⟩|⟨q,_⟩:=q
  ·rw[hp]at q;cases q
  ·cases q
 |d _ _ q=>rw[hp]at q;cases q
 |o _ _ _ q _=>rw[hp]at q;cases q
theorem StOk.push(S:StOk K ad H st)(hp:H p=none)(r:Dens K ad H xs ds):StOk K (ad++[p]) (upd H p (.lst xs)) (st++[(true,ds)]):=
 S.more (S.noNew hp) (fun _ _ _ h q=>q.laid h hp (Ext.push hp)) (.l (QP upd_same rfl) (r.mono (Ext.push hp)) (.inl ⟨rfl,upd_same⟩))
theorem StOk.wrG(S:StOk K ad H st)(kp:Keeps K ad ad H (upd H p o))(hn:p∉ad):StOk K ad (upd H p o) st:=
 ⟨S.len,S.nd,fun i c e=>by
  obtain⟨a,h,q⟩:=S.cell i c e;have ne:a≠p:=fun z=>hn (by rw[<-z];exact bG h)
  refine⟨a,h,?_⟩;cases q with
  |l n r q=>
   refine .l (fun z=>n ((kp.l h).2.mpr z)) (r.map kp) ?_
   rcases q with⟨b,q⟩|⟨b,⟨o,q⟩|q⟩
   ·exact .inl ⟨b,by rw[upd_ne ne];exact q⟩
   ·exact .inr ⟨b,.inl ⟨o,by rw[upd_ne ne];exact q⟩⟩
   ·exact .inr ⟨b,.inr q⟩
  |d r t q=>exact .d (r.map kp) t (by rw[upd_ne ne];exact q)
  |o z r t q oc=>exact .o z (r.map kp) t (by rw[upd_ne ne];exact q) oc⟩
theorem StOk.has{a:Ad}(S:StOk K ad H st)(hi:ad[i]?=some a):(∃ o,H a=some o)\/∃ o,K.lookup a=some o:=by
 obtain⟨a',e',q⟩:=S.cell i _ (Lg (show i < st.length by rw[<-S.len];exact(bI.mp hi).1))
 rw[hi]at e';cases e'
 cases q with
 |l _ _ q=>
  obtain⟨_,q⟩|⟨_,⟨o,q⟩|⟨o,its,m,⟨h1,h2⟩,_⟩⟩:=q
  ·exact .inl ⟨_,q⟩
  ·exact .inl ⟨_,q⟩
  ·exact .inr ⟨_,h1⟩
 |d _ _ q=>exact .inl ⟨_,q⟩
 |o _ _ _ q _=>exact .inl ⟨_,q⟩
theorem StOk.extD{o:HO}(S:StOk K ad H st)(hp:H p=none)(hk:∀ o,K.lookup p≠some o):Ext ad H (ad++[p]) (upd H p o):=
 Ext.pushG hp fun i a h=>by
  have n:a≠p:=fun z=>(S.has h).elim (fun⟨o,q⟩=>by rw[z,hp]at q;cases q) fun⟨o,q⟩=>hk o (z ▸ q)
  unfold YA;rw[upd_ne n]
theorem StOk.pushD(S:StOk K ad H st)(hp:H p=none)(hk:∀ o,K.lookup p≠some o):StOk K (ad++[p]) (upd H p (.dK [])) (st++[(true,[])]):=
 S.more (S.noNew hp) (fun _ _ _ h q=>q.laid h hp (S.extD hp hk)) (.d .nil rfl upd_same)
theorem StOk.pushO{dx:Ad}(S:StOk K ad H st)(hp:H p=none)(hk:∀ o,K.lookup p≠some o)(oc:ObC K (ClsTab.ca i)):StOk K (ad++[p]) (upd H p (.ins (ClsTab.ca i) dx [])) (st++[(true,[.int (i:Int)])]):=
 S.more (S.noNew hp) (fun _ _ _ h q=>q.laid h hp (S.extD hp hk)) (.o rfl .nil rfl upd_same ⟨oc,fun _ _=>rfl⟩)
theorem StOk.adopt(S:StOk K ad H st)(hp:H p=some (.lst xs))(hn:p∉ad)(r:Dens K ad H xs ds):StOk K (ad++[p]) H (st++[(true,ds)]):=by
 have kp:Keeps K ad (ad++[p]) H H:=Zjv (fun _ _ h=>X3 h) (fun b hb=>(aR.mp hb).imp id fun z=>⟨xs,by rw[bH.mp z];exact hp⟩)
 exact S.more (fun i _ h _=>hn (bG h)) (fun _ _ _ _ q=>by
  cases q with
  |l n r h=>exact .l n (r.map kp) h
  |d r e h=>exact .d (r.map kp) e h
  |o q r e h oc=>exact .o q (r.map kp) e h oc) (.l (QP hp rfl) (r.map kp) (.inl ⟨rfl,hp⟩))
theorem Ext.writeG{a:Ad}(h:H a=some o)(ha:a∈ad)(h1:∀ xs,o≠.tup xs)(hk:YA H a↔YA (upd H a o') a):Ext ad H ad (upd H a o'):=
 ⟨fun _ _ h=>h,fun b zs e=>by rw[upd_ne (ne_of e h (fun z=>h1 _ z.symm))];exact e,fun b o e n=>by rw[upd_ne (show b≠a from fun z=>n (by rw[z];exact ha))];exact e,fun _ h=>.inl h,fun _ b _=>by
  by_cases z:b=a
  ·rw[z];exact hk
  ·unfold YA;rw[upd_ne z]⟩
theorem Ext.write{a:Ad}(h:H a=some (.lst xs))(ha:a∈ad):Ext ad H ad (upd H a (.lst ys)):=
 Ext.writeG h ha (fun _ z=>nomatch z) ⟨fun z=>absurd z (QP h rfl),fun z=>absurd z (QP upd_same rfl)⟩
theorem StOk.writeG{a:Ad}(S:StOk K ad H st)(h:ad[i]?=some a)(e:st[i]?=some (true,ds))(hx:H a=some o)(hf:∀ q u,o≠.frz q u)(x:Ext ad H ad (upd H a o'))(r:CellOk K ad (upd H a o') a (true,es)) :
  StOk K ad (upd H a o') (st.set i (true,es)):=by
 have hi:i < st.length:=(bI.mp e).1;refine⟨by rw[bQ];exact S.len,fun j k b c d h1 h2 h3 h4=>?_,fun j c q=>?_⟩
 ·have up:∀ (j:Nat) (c:Li D),(st.set i (true,es))[j]?=some (true,c)->∃ c',st[j]?=some (true,c'):=fun j c q=>by
   by_cases z:i=j
   ·subst z;exact⟨_,e⟩
   ·rw[cN z]at q;exact⟨_,q⟩
  obtain⟨c',h3⟩:=up j c h3;obtain⟨d',h4⟩:=up k d h4;exact S.nd j k b c' d' h1 h2 h3 h4
 ·by_cases z:i=j
  ·subst z
   rw[cX hi]at q;cases q;exact⟨a,h,r⟩
  ·rw[cN z]at q
   obtain⟨b,hb,hz⟩:=S.cell j c q;refine⟨b,hb,?_⟩;have ne:c.1=true->b≠a:=fun t w=>by
    obtain⟨cb,cl⟩:=c;cases (show cb=true from t)
    exact z (S.nd i j a ds cl h (w ▸ hb) e q)
   cases hz with
   |l n rz hz=>
    refine .l (fun z=>n ((x.kd j b hb).mpr z)) (rz.mono x) ?_
    rcases hz with⟨t,hz⟩|⟨t,⟨o,hz⟩|hz⟩
    ·exact .inl ⟨t,by rw[upd_ne (ne t)];exact hz⟩
    ·exact .inr ⟨t,.inl ⟨o,by rw[upd_ne (ne_of hz hx (fun z=>hf _ _ z.symm))];exact hz⟩⟩
    ·exact .inr ⟨t,.inr hz⟩
   |d rz t hz=>exact .d (rz.mono x) t (by rw[upd_ne (ne t)];exact hz)
   |o z rz t hz oc=>exact .o z (rz.mono x) t (by rw[upd_ne (ne t)];exact hz) oc
theorem StOk.write{a:Ad}(S:StOk K ad H st)(h:LA ad H i a)(e:st[i]?=some (true,ds))(hx:H a=some (.lst xs))(r:Dens K ad H ys es) :
  StOk K ad (upd H a (.lst ys)) (st.set i (true,es)):=
 S.writeG h.1 e hx (fun _ _ z=>nomatch z) (Ext.write hx (bG h.1)) (.l (QP upd_same rfl) (r.mono (Ext.write hx (bG h.1))) (.inl ⟨rfl,upd_same⟩))
theorem Ext.writeM{a:Ad}(h:H a=some o)(m:isM o=true)(m':isM o'=true)(ha:a∈ad):Ext ad H ad (upd H a o'):=
 Ext.writeG h ha (fun _ z=>by rw[z]at m;cases m) ⟨fun _=>⟨_,upd_same,m'⟩,fun _=>⟨_,h,m⟩⟩
theorem StOk.writeD{a:Ad}(S:StOk K ad H st)(h:ad[i]?=some a)(e:st[i]?=some (true,ds))(hx:H a=some (.dK (Y4 kvs)))(r:Ents K ad H kvs' es) :
  StOk K ad (upd H a (.dK (Y4 kvs'))) (st.set i (true,es)):=
 S.writeG h e hx (fun _ _ z=>nomatch z) (Ext.writeM hx rfl rfl (bG h)) (.d (r.mono (Ext.writeM hx rfl rfl (bG h))) rfl upd_same)
theorem StOk.writeO{a dx:Ad}(S:StOk K ad H st)(h:ad[i]?=some a)(e:st[i]?=some (true,ds))(hx:H a=some (.ins (ClsTab.ca j) dx kvs))(oc:ObC K (ClsTab.ca j))(r:Ents K ad H kvs' es)(nf:∀ k,fldNames.contains k=false->kvs'.lookup k=none) :
  StOk K ad (upd H a (.ins (ClsTab.ca j) dx kvs')) (st.set i (true,.int (j:Int) :: es)):=
 S.writeG h e hx (fun _ _ z=>nomatch z) (Ext.writeM hx rfl rfl (bG h)) (.o rfl (r.mono (Ext.writeM hx rfl rfl (bG h))) rfl upd_same ⟨oc,nf⟩)

structure EnvOk(K:Fg)(ad:List Addr)(H:Hp)(σ:L2.St)(ρ:Env):Prop where
 len:σ.length=ρ.length
 at_:∀ (i:Nat) (d:D),ρ[i]?=some (some d)->∃ v,σ[i]?=some (some v)/\Den K ad H v d
theorem EnvOk.mono(x:Ext ad H ad' H')(h:EnvOk K ad H σ ρ):EnvOk K ad' H' σ ρ:=⟨h.len,fun i d e=>let ⟨v,e1,e2⟩:=h.at_ i d e;⟨v,e1,e2.mono x⟩⟩
theorem EnvOk.set(h:EnvOk K ad H σ ρ)(i:Nat)(r:Den K ad H v d):EnvOk K ad H (σ.set i (some v)) (Zy ρ i d):=by
 refine⟨by unfold Zy;rw[bQ,bQ];exact h.len,fun j e q=>?_⟩
 unfold Zy at q;by_cases z:i=j
 ·subst z
  by_cases hi:i < ρ.length
  ·rw[cX hi]at q
   cases q;exact⟨v,by rw[cX (by rw[h.len];exact hi)],r⟩
  ·rw[dX (by rw[bQ];omega)]at q
   cases q
 ·rw[cN z]at q
  obtain⟨w,e1,e2⟩:=h.at_ j e q;exact⟨w,by rw[cN z];exact e1,e2⟩
end

def Post(K:Fg)(ad:Li Ad)(H:Hp)(d:D)(st':Za)(Q:VK):Prop:=∀ v ad' H',Ext ad H ad' H'->StOk K ad' H' st'->Den K ad' H' v d->Q v H'
noncomputable def tE(K:Fg)(f:Env->Za->Res):TE:=fun σ H Q=>∃ ad ρ st d st',EnvOk K ad H σ ρ/\StOk K ad H st/\f ρ st=some (d,st')/\Post K ad H d st' Q
noncomputable def tT(K:Fg)(f:Env->Za->Res):TT:=fun σ H Q=>∃ ad ρ st k st',EnvOk K ad H σ ρ/\StOk K ad H st/\f ρ st=some (.bl k,st')/\∀ ad' H',Ext ad H ad' H'->StOk K ad' H' st'->Q k H'
noncomputable def tA(K:Fg)(f:Env->Za->Res):TA:=fun σ H Q=>∃ ad ρ st ds st',EnvOk K ad H σ ρ/\StOk K ad H st/\f ρ st=some (.tup ds,st')/\∀ vs ad' H',Ext ad H ad' H'->StOk K ad' H' st'->Dens K ad' H' vs ds->Q vs H'
noncomputable def rD(K:Fg)(f:D->D->Za->Res):R2:=fun x y H Q=>∃ ad st dx dy d st',StOk K ad H st/\Den K ad H x dx/\Den K ad H y dy/\f dx dy st=some (d,st')/\Post K ad H d st' Q
noncomputable def spD(K:Fg)(g:Fn):Sp:=fun vs H Q _=>∃ ad ds st d st',StOk K ad H st/\Dens K ad H vs ds/\g ds st=some (d,st')/\Post K ad H d st' Q
noncomputable def tS(K:Fg)(f:Env->Za->Ot (Fl×Za)):TS:=fun D σ H=>∃ ad ρ st r st',EnvOk K ad H σ ρ/\StOk K ad H st/\f ρ st=some (r,st') /\
 match r with
 |.nx ρ'=>∀ σ' ad' H',Ext ad H ad' H'->StOk K ad' H' st'->EnvOk K ad' H' σ' ρ'->D.nx σ' H'
 |.bk ρ'=>∀ σ' ad' H',Ext ad H ad' H'->StOk K ad' H' st'->EnvOk K ad' H' σ' ρ'->D.bk σ' H'
 |.ct ρ'=>∀ σ' ad' H',Ext ad H ad' H'->StOk K ad' H' st'->EnvOk K ad' H' σ' ρ'->D.ct σ' H'
 |.rt d=>Post K ad H d st' D.rt
theorem Post.at{Q:VK}(p:Post K ad H d st Q)(S:StOk K ad H st)(h:Den K ad H v d):Q v H:=p v ad H (Ext.refl _ _) S h
theorem Post.later{Q:VK}(p:Post K ad H d st Q)(x:Ext ad H ad' H'):Post K ad' H' d st Q:=fun v a2 H2 y S h=>p v a2 H2 (x.trans y) S h
variable [ClsTab]
variable{st':Za}
section
variable {X:Cx}{a b c:Expr}{fa fb fc:Ev}{pos:Pos}

theorem ZgT(σ:L2.St)(H:Hp)(Q:VK)(h:tE K (Xe i) σ H Q):tVar i σ H Q:=by
 obtain⟨ad,ρ,st,d,st',E,S,e,p⟩:=h;unfold Xe at e;split at e
 ·rename_i q
  obtain⟨v,e1,e2⟩:=E.at_ i _ q;cases e;exact⟨v,e1,p.at S e2⟩
 ·exact Zb e
theorem Jw(hd:∀ ad H,Den K ad H v d)(σ:L2.St)(H:Hp)(Q:VK)(h:tE K (evC d) σ H Q):tC v σ H Q:=by
 obtain⟨ad,ρ,st,d',st',E,S,e,p⟩:=h;cases e;exact p.at S (hd _ _)
theorem QB{g:D->D->Za->Res}(σ:L2.St)(H:Hp)(Q:VK)(h:tE K (ZV fa fb g) σ H Q):tOp (rD K g) (tE K fa) (tE K fb) σ H Q:=by
 obtain⟨ad,ρ,st,d,st',E,S,e,p⟩:=h;unfold ZV at e;split at e
 ·rename_i x st1 q1
  split at e
  ·rename_i y st2 q2
   refine⟨ad,ρ,st,x,st1,E,S,q1,fun v1 ad1 H1 x1 S1 d1=>⟨ad1,ρ,st1,y,st2,E.mono x1,S1,q2,fun v2 ad2 H2 x2 S2 d2=>?_⟩⟩
   exact⟨ad2,st2,x,y,d,st',S2,d1.mono x2,d2,e,p.later (x1.trans x2)⟩
  ·exact Zb e
 ·exact Zb e
def rU1(K:Fg)(g:D->Za->Res):V->Hp->VK->Prop:=fun x H Q=>∃ ad st dx d st',StOk K ad H st/\Den K ad H x dx/\g dx st=some (d,st')/\Post K ad H d st' Q
theorem Zjn{g:D->Za->Res}(σ:L2.St)(H:Hp)(Q:VK)(h:tE K (ZJ fa g) σ H Q):tUn (rU1 K g) (tE K fa) σ H Q:=by
 obtain⟨ad,ρ,st,d,st',E,S,e,p⟩:=h;unfold ZJ at e;split at e
 ·rename_i x st1 q1
  exact⟨ad,ρ,st,x,st1,E,S,q1,fun v1 ad1 H1 x1 S1 d1=>⟨ad1,st1,x,d,st',S1,d1,e,p.later x1⟩⟩
 ·exact Zb e
theorem QD(σ:L2.St)(H:Hp)(Q:Bool->Hp->Prop)(h:tT K fa σ H Q):tE K fa σ H fun x H1=>∃ c,x=.bl c/\Q c H1:=by
 obtain⟨ad,ρ,st,k,st',E,S,e,p⟩:=h;exact⟨ad,ρ,st,.bl k,st',E,S,e,fun v ad' H' x S' d'=>⟨k,d'.ofBl,p ad' H' x S'⟩⟩
theorem Yi{ft ff:Ev}{r:D×Za}(h:YG fc ft ff ρ st=some r):∃ k st1,fc ρ st=some (.bl k,st1)/\(if k=true then ft ρ st1 else ff ρ st1)=some r:=by
 unfold YG at h;split at h
 ·rename_i st1 q
  exact⟨true,st1,q,by rw[if_pos rfl];exact h⟩
 ·rename_i st1 q
  exact⟨false,st1,q,by rw[if_neg Bf];exact h⟩
 ·exact Zb h
theorem Zjm(σ:L2.St)(H:Hp)(Q:VK)(h:tE K (YG fc fa fb) σ H Q):tIf (tT K fc) (tE K fa) (tE K fb) σ H Q:=by
 obtain⟨ad,ρ,st,d,st',E,S,e,p⟩:=h;obtain⟨k,st1,q,e⟩:=Yi e;refine⟨ad,ρ,st,k,st1,E,S,q,fun ad1 H1 x1 S1=>?_⟩
 cases k with
 |true=>
  rw[if_pos rfl]at e ⊢;exact⟨ad1,ρ,st1,d,st',E.mono x1,S1,e,p.later x1⟩
 |false=>
  rw[if_neg Bf]at e ⊢;exact⟨ad1,ρ,st1,d,st',E.mono x1,S1,e,p.later x1⟩
theorem Zeb(σ:L2.St)(H:Hp)(Q:VK)(h:tE K (YG fa fb (evC (.bl false))) σ H Q):tAndV (tE K fa) (tE K fb) σ H Q:=by
 obtain⟨ad,ρ,st,d,st',E,S,e,p⟩:=h;obtain⟨k,st1,q,e⟩:=Yi e;refine⟨ad,ρ,st,.bl k,st1,E,S,q,fun v1 ad1 H1 x1 S1 d1=>⟨k,d1.ofBl,?_⟩⟩
 cases k with
 |true=>
  rw[if_pos rfl]at e ⊢;exact⟨ad1,ρ,st1,d,st',E.mono x1,S1,e,p.later x1⟩
 |false=>
  rw[if_neg Bf]at e ⊢;cases e;exact(p.later x1).at S1 (.bl false)
theorem ZgN(σ:L2.St)(H:Hp)(Q:VK)(h:tE K (YG fa (evC (.bl true)) fb) σ H Q):tOrV (tE K fa) (tE K fb) σ H Q:=by
 obtain⟨ad,ρ,st,d,st',E,S,e,p⟩:=h;obtain⟨k,st1,q,e⟩:=Yi e;refine⟨ad,ρ,st,.bl k,st1,E,S,q,fun v1 ad1 H1 x1 S1 d1=>⟨k,d1.ofBl,?_⟩⟩
 cases k with
 |true=>
  rw[if_pos rfl]at e ⊢;cases e;exact(p.later x1).at S1 (.bl true)
 |false=>
  rw[if_neg Bf]at e ⊢;exact⟨ad1,ρ,st1,d,st',E.mono x1,S1,e,p.later x1⟩
theorem Zea(σ:L2.St)(H:Hp)(Q:Bool->Hp->Prop)(h:tT K (YG fa fb (evC (.bl false))) σ H Q):tAnd (tT K fa) (tT K fb) σ H Q:=by
 obtain⟨ad,ρ,st,d,st',E,S,e,p⟩:=h;obtain⟨k,st1,q,e⟩:=Yi e;refine⟨ad,ρ,st,k,st1,E,S,q,fun ad1 H1 x1 S1=>?_⟩
 cases k with
 |true=>
  rw[if_pos rfl]at e ⊢;exact⟨ad1,ρ,st1,d,st',E.mono x1,S1,e,fun ad2 H2 x2 S2=>p ad2 H2 (x1.trans x2) S2⟩
 |false=>
  rw[if_neg Bf]at e ⊢;cases e;exact p ad1 H1 x1 S1
theorem ZgM(σ:L2.St)(H:Hp)(Q:Bool->Hp->Prop)(h:tT K (YG fa (evC (.bl true)) fb) σ H Q):tOr (tT K fa) (tT K fb) σ H Q:=by
 obtain⟨ad,ρ,st,d,st',E,S,e,p⟩:=h;obtain⟨k,st1,q,e⟩:=Yi e;refine⟨ad,ρ,st,k,st1,E,S,q,fun ad1 H1 x1 S1=>?_⟩
 cases k with
 |true=>
  rw[if_pos rfl]at e ⊢;cases e;exact p ad1 H1 x1 S1
 |false=>
  rw[if_neg Bf]at e ⊢;exact⟨ad1,ρ,st1,d,st',E.mono x1,S1,e,fun ad2 H2 x2 S2=>p ad2 H2 (x1.trans x2) S2⟩
theorem Zeo(σ:L2.St)(H:Hp)(Q:Bool->Hp->Prop)(h:tT K (ZJ fa ZaD) σ H Q):tNot (tT K fa) σ H Q:=by
 obtain⟨ad,ρ,st,d,st',E,S,e,p⟩:=h;unfold ZJ at e;split at e
 ·rename_i x st1 q1
  cases x with
  |bl k=>
   cases (show some (D.bl (!k),st1)=_ from e)
   exact⟨ad,ρ,st,k,_,E,S,q1,fun ad1 H1 x1 S1=>p ad1 H1 x1 S1⟩
  |_=>simp[ZaD]at e
 ·exact Zb e
theorem Zep(σ:L2.St)(H:Hp)(Q:VK)(h:tE K (ZJ fa ZaD) σ H Q):tNotV (tE K fa) σ H Q:=by
 obtain⟨ad,ρ,st,d,st',E,S,e,p⟩:=h;unfold ZJ at e;split at e
 ·rename_i x st1 q1
  cases x with
  |bl k=>
   cases (show some (D.bl (!k),st1)=_ from e)
   exact⟨ad,ρ,st,.bl k,_,E,S,q1,fun v1 ad1 H1 x1 S1 d1=>⟨k,d1.ofBl,(p.later x1).at S1 (.bl _)⟩⟩
  |_=>simp[ZaD]at e
 ·exact Zb e
theorem Uc(σ:L2.St)(H:Hp)(Q:Li V->Hp->Prop)(h:tA K (evC (.tup [])) σ H Q):tNil σ H Q:=by
 obtain⟨ad,ρ,st,d,st',E,S,e,p⟩:=h;cases e;exact p [] ad H (Ext.refl _ _) S .nil
theorem W5(σ:L2.St)(H:Hp)(Q:Li V->Hp->Prop)(h:tA K (ZV fa fb WG) σ H Q):tCons (tE K fa) (tA K fb) σ H Q:=by
 obtain⟨ad,ρ,st,d,st',E,S,e,p⟩:=h;unfold ZV at e;split at e
 ·rename_i x st1 q1
  split at e
  ·rename_i y st2 q2
   cases y with
   |tup zs=>
    have e:(if zs.length < 1000 then some (D.tup (x :: zs),st2) else none)=some (D.tup d,st'):=e
    split at e
    ·cases e
     refine⟨ad,ρ,st,_,st1,E,S,q1,fun v1 ad1 H1 x1 S1 d1=>⟨ad1,ρ,st1,zs,_,E.mono x1,S1,q2,fun v2 ad2 H2 x2 S2 d2=>?_⟩⟩
     exact p _ ad2 H2 (x1.trans x2) S2 (.cons (d1.mono x2) d2)
    ·cases e
   |_=>simp[WG]at e
  ·cases e
 ·cases e
theorem ZgS(hb:∀ ρ st ds st',fa ρ st=some (.tup ds,st')->ds.length<=1000)(ht:∀ ρ st d st',fa ρ st=some (d,st')->∃ ds,d=.tup ds)(σ:L2.St)(H:Hp)(Q:VK)(h:tE K fa σ H Q):tTup (tA K fa) σ H Q:=by
 obtain⟨ad,ρ,st,d,st',E,S,e,p⟩:=h;obtain⟨ds,rfl⟩:=ht _ _ _ _ e;refine⟨ad,ρ,st,ds,st',E,S,e,fun vs ad1 H1 x1 S1 d1=>⟨?_,fun q hq=>?_⟩⟩
 ·rw[d1.length]
  exact aF (hb _ _ _ _ e) (by decide)
 ·exact p _ ad1 _ (x1.trans (Ext.laid hq)) (S1.laid hq) (.tup (.inl upd_same) (d1.mono (Ext.laid hq)))
theorem ZgK(hb:∀ ρ st ds st',fa ρ st=some (.tup ds,st')->ds.length<=1000)(σ:L2.St)(H:Hp)(Q:VK)(h:tE K (ZJ fa ZeK) σ H Q):tLst (tA K fa) σ H Q:=by
 obtain⟨ad,ρ,st,d,st',E,S,e,p⟩:=h;unfold ZJ at e;split at e
 ·rename_i x st1 q1
  cases x with
  |tup ds=>
   cases (show some (D.lst st1.length,st1++[(true,ds)])=_ from e)
   refine⟨ad,ρ,st,ds,_,E,S,q1,fun vs ad1 H1 x1 S1 d1=>⟨?_,fun q hq=>?_⟩⟩
   ·rw[d1.length]
    exact aF (hb _ _ _ _ q1) (by decide)
   ·refine p _ (ad1++[q]) _ (x1.trans (Ext.push hq)) (S1.push hq d1) (.newL ?_)
    rw[<-S1.len];exact ZO
  |_=>simp[ZeK]at e
 ·exact Zb e
theorem Jx{g:Fn}{dvs:Li V}{E:XK}(hd:∀ ad H,Dens K ad H dvs ds)(σ:L2.St)(H:Hp)(Q:VK)(h:tE K (ZJ fa (Jg g ds)) σ H Q):tCall (spD K g) dvs E (tA K fa) σ H Q:=by
 obtain⟨ad,ρ,st,d,st',E,S,e,p⟩:=h;unfold ZJ at e;split at e
 ·rename_i x st1 q1
  cases x with
  |tup xs=>exact⟨ad,ρ,st,xs,_,E,S,q1,fun vs ad1 H1 x1 S1 d1=>⟨ad1,xs++ds,_,d,st',S1,d1.append (hd _ _),e,p.later x1⟩⟩
  |_=>simp[Jg]at e
 ·exact Zb e
def rC(K:Fg)(g:Li D->Za->Res):Li V->Hp->VK->Prop:=fun vs H Q=>∃ ad st ds d st',StOk K ad H st/\Dens K ad H vs ds/\g ds st=some (d,st')/\Post K ad H d st' Q
noncomputable def on1(g:D->Za->Res):Li D->Za->Res
 |[x],st=>g x st
 |_,_=>none
noncomputable def on2(g:D->D->Za->Res):Li D->Za->Res
 |[x,y],st=>g x y st
 |_,_=>none
theorem XU{g:D->Za->Res}(σ:L2.St)(H:Hp)(Q:VK)(h:tE K (ZJ fa g) σ H Q):tCB (rC K (on1 g)) (tCons (tE K fa) tNil) σ H Q:=by
 obtain⟨ad,ρ,st,d,st',E,S,e,p⟩:=h;unfold ZJ at e;split at e
 ·rename_i x st1 q1
  exact⟨ad,ρ,st,x,st1,E,S,q1,fun v1 ad1 H1 x1 S1 d1=>⟨ad1,st1,[x],d,st',S1,.cons d1 .nil,e,p.later x1⟩⟩
 ·exact Zb e
theorem Jv{g:D->D->Za->Res}(σ:L2.St)(H:Hp)(Q:VK)(h:tE K (ZV fa fb g) σ H Q):tCB (rC K (on2 g)) (tCons (tE K fa) (tCons (tE K fb) tNil)) σ H Q:=by
 obtain⟨ad,ρ,st,d,st',E,S,e,p⟩:=h;unfold ZV at e;split at e
 ·rename_i x st1 q1
  split at e
  ·rename_i y st2 q2
   refine⟨ad,ρ,st,x,st1,E,S,q1,fun v1 ad1 H1 x1 S1 d1=>⟨ad1,ρ,st1,y,st2,E.mono x1,S1,q2,fun v2 ad2 H2 x2 S2 d2=>?_⟩⟩
   exact⟨ad2,st2,[x,y],d,st',S2,.cons (d1.mono x2) (.cons d2 .nil),e,p.later (x1.trans x2)⟩
  ·exact Zb e
 ·exact Zb e
noncomputable def tO(K:Fg)(f:Ev):TO:=fun σ H Q=>∃ ad ρ st d st',EnvOk K ad H σ ρ/\StOk K ad H st/\f ρ st=some (d,st') /\
 ((d=.non/\∀ ad' H',Ext ad H ad' H'->StOk K ad' H' st'->Q none H')\/∃ i,d=.int i/\∀ ad' H',Ext ad H ad' H'->StOk K ad' H' st'->Q (some i) H')
def rSl(K:Fg):V->Ot Int->Ot Int->Hp->VK->Prop:=fun x lo hi H Q=>∃ ad st dx d st',StOk K ad H st/\Den K ad H x dx/\Yx dx lo hi st=some (d,st')/\Post K ad H d st' Q
noncomputable def part:D->Ot (Ot Int)
 |.non=>some none
 |.int i=>some (some i)
 |_=>none
theorem Q2{x l h:D}{r:D×Za}(e:Ve x l h st=some r):∃ lo hi,part l=some lo/\part h=some hi/\Yx x lo hi st=some r:=by
 unfold Ve at e;split at e
 ·exact⟨_,_,rfl,rfl,e⟩
 ·exact⟨_,_,rfl,rfl,e⟩
 ·exact⟨_,_,rfl,rfl,e⟩
 ·exact⟨_,_,rfl,rfl,e⟩
 ·exact Zb e
theorem ZiD{f:Ev}{Q:Ot Int->Hp->Prop}{o:Ot Int}(E:EnvOk K ad H σ ρ)(S:StOk K ad H st)(e:f ρ st=some (d,st'))(po:part d=some o)(q:∀ ad' H',Ext ad H ad' H'->StOk K ad' H' st'->Q o H'):tO K f σ H Q:=by
 refine⟨ad,ρ,st,d,st',E,S,e,?_⟩;cases d with
 |non=>cases po;exact .inl ⟨rfl,q⟩
 |int i=>cases po;exact .inr ⟨i,rfl,q⟩
 |_=>exact Zb po
theorem ZcA(σ:L2.St)(H:Hp)(Q:VK)(h:tE K (Zfv fa fb fc Ve) σ H Q):tSl (rSl K) (tE K fa) (tO K fb) (tO K fc) σ H Q:=by
 obtain⟨ad,ρ,st,d,st',E,S,e,p⟩:=h;unfold Zfv at e;split at e
 ·rename_i x st1 q1
  split at e
  ·rename_i y st2 q2
   split at e
   ·rename_i z st3 q3
    obtain⟨lo,hi,pl,ph,e⟩:=Q2 e;refine⟨ad,ρ,st,x,st1,E,S,q1,fun v1 ad1 H1 x1 S1 d1=>ZiD (E.mono x1) S1 q2 pl fun ad2 H2 x2 S2=>ZiD (E.mono (x1.trans x2)) S2 q3 ph fun ad3 H3 x3 S3=>?_⟩
    exact⟨ad3,st3,x,d,st',S3,d1.mono (x2.trans x3),e,p.later (x1.trans (x2.trans x3))⟩
   ·exact Zb e
  ·exact Zb e
 ·exact Zb e
theorem ZgL(σ:L2.St)(H:Hp)(Q:Ot Int->Hp->Prop)(h:tO K (evC .non) σ H Q):tNoPart σ H Q:=by
 obtain⟨ad,ρ,st,d,st',E,S,e,p⟩:=h;cases e;rcases p with⟨_,p⟩|⟨i,z,_⟩
 ·exact p ad H (Ext.refl _ _) S
 ·cases z
end
variable [ClsTab]
def PostS(K:Fg)(ad:Li Ad)(H:Hp)(r:Fl)(st':Za)(D:Ends):Prop:=match r with
 |.nx ρ'=>∀ σ' ad' H',Ext ad H ad' H'->StOk K ad' H' st'->EnvOk K ad' H' σ' ρ'->D.nx σ' H'
 |.bk ρ'=>∀ σ' ad' H',Ext ad H ad' H'->StOk K ad' H' st'->EnvOk K ad' H' σ' ρ'->D.bk σ' H'
 |.ct ρ'=>∀ σ' ad' H',Ext ad H ad' H'->StOk K ad' H' st'->EnvOk K ad' H' σ' ρ'->D.ct σ' H'
 |.rt d=>Post K ad H d st' D.rt
variable{r:Fl}
theorem PostS.later{D:Ends}(x:Ext ad H ad' H')(p:PostS K ad H r st D):PostS K ad' H' r st D:=by
 cases r with
 |nx ρ=>exact fun σ2 a2 H2 y S E=>p σ2 a2 H2 (x.trans y) S E
 |bk ρ=>exact fun σ2 a2 H2 y S E=>p σ2 a2 H2 (x.trans y) S E
 |ct ρ=>exact fun σ2 a2 H2 y S E=>p σ2 a2 H2 (x.trans y) S E
 |rt d=>exact Post.later p x
theorem Yt{f:Ex}{D:Ends}(E:EnvOk K ad H σ ρ)(S:StOk K ad H st)(e:f ρ st=some (r,st'))(p:PostS K ad H r st' D):tS K f D σ H:=by
 refine⟨ad,ρ,st,r,st',E,S,e,?_⟩;cases r<;>exact p
theorem Ym{f:Ex}{D:Ends}(h:tS K f D σ H):∃ ad ρ st r st',EnvOk K ad H σ ρ/\StOk K ad H st/\f ρ st=some (r,st')/\PostS K ad H r st' D:=by
 obtain⟨ad,ρ,st,r,st',E,S,e,p⟩:=h;refine⟨ad,ρ,st,r,st',E,S,e,?_⟩;cases r<;>exact p
variable{E:Ends}{B:D->Env->Za->Ot (Fl×Za)}
section
variable {K:Fg}{f g:Ex}{fe fi fk:Ev}
theorem Jz(D:Ends)(σ:L2.St)(H:Hp)(h:tS K (fun ρ st=>some (.nx ρ,st)) D σ H):tNext D σ H:=by
 obtain⟨ad,ρ,st,r,st',E,S,e,p⟩:=Ym h;cases e;exact p σ ad H (Ext.refl _ _) S E
theorem ZgG(D:Ends)(σ:L2.St)(H:Hp)(h:tS K (fun ρ st=>some (.bk ρ,st)) D σ H):tBreak D σ H:=by
 obtain⟨ad,ρ,st,r,st',E,S,e,p⟩:=Ym h;cases e;exact p σ ad H (Ext.refl _ _) S E
theorem Zed(D:Ends)(σ:L2.St)(H:Hp)(h:tS K (fun ρ st=>some (.ct ρ,st)) D σ H):tCont D σ H:=by
 obtain⟨ad,ρ,st,r,st',E,S,e,p⟩:=Ym h;cases e;exact p σ ad H (Ext.refl _ _) S E
theorem ZgR(D:Ends)(σ:L2.St)(H:Hp)(h:tS K (UL f g) D σ H):tSeq (tS K f) (tS K g) D σ H:=by
 obtain⟨ad,ρ,st,r,st',E,S,e,p⟩:=Ym h;unfold UL at e;split at e
 ·rename_i ρ1 st1 q
  exact Yt E S q fun σ1 ad1 H1 x1 S1 E1=>Yt E1 S1 e (p.later x1)
 ·rename_i q
  refine Yt E S e ?_;cases r with
  |nx ρ1=>exact absurd e (q ρ1 st')
  |bk ρ1=>exact p
  |ct ρ1=>exact p
  |rt d=>exact p
theorem ZgP(D:Ends)(σ:L2.St)(H:Hp)(h:tS K (ZaO fe) D σ H):tRet (tE K fe) D σ H:=by
 obtain⟨ad,ρ,st,r,st',E,S,e,p⟩:=Ym h;unfold ZaO at e;split at e
 ·rename_i d st1 q
  cases e;exact⟨ad,ρ,st,d,_,E,S,q,p⟩
 ·exact Zb e
theorem QC(D:Ends)(σ:L2.St)(H:Hp)(h:tS K (JW i fe) D σ H):tAsg (tE K fe) (gName i) D σ H:=by
 obtain⟨ad,ρ,st,r,st',E,S,e,p⟩:=Ym h;unfold JW at e;split at e
 ·rename_i d st1 q
  cases e;exact⟨ad,ρ,st,d,_,E,S,q,fun v ad1 H1 x1 S1 d1=>p _ ad1 H1 x1 S1 ((E.mono x1).set i d1)⟩
 ·exact Zb e
theorem Zeq(D:Ends)(σ:L2.St)(H:Hp)(h:tS K (JV i j fe) D σ H):tAsg (tE K fe) (gTup K 2 (gCons (gName i) (gCons (gName j) gNil))) D σ H:=by
 obtain⟨ad,ρ,st,r,st',E,S,e,p⟩:=Ym h;unfold JV at e;split at e
 ·rename_i x y st1 q
  cases e;refine⟨ad,ρ,st,_,_,E,S,q,fun v ad1 H1 x1 S1 d1=>?_⟩
  obtain⟨a,vs,rfl,ha,rv⟩:=d1.ofTup;cases rv with
  |cons d1 rv=>
   cases rv with
   |cons d2 rv=>
    cases rv;exact⟨a,_,rfl,(ha).sq,rfl,_,_,rfl,_,_,rfl,rfl,p _ ad1 H1 x1 S1 (((E.mono x1).set i d1).set j d2)⟩
 ·exact Zb e
theorem Zbo(D:Ends)(σ:L2.St)(H:Hp)(h:tS K (Zdk fe) D σ H):tDrop (tE K fe) D σ H:=by
 obtain⟨ad,ρ,st,r,st',E,S,e,p⟩:=Ym h;unfold Zdk at e;split at e
 ·rename_i d st1 q
  cases e;exact⟨ad,ρ,st,d,_,E,S,q,fun v ad1 H1 x1 S1 d1=>p _ ad1 H1 x1 S1 (E.mono x1)⟩
 ·exact Zb e
theorem ZgJ(D:Ends)(σ:L2.St)(H:Hp)(h:tS K (UG fe f g) D σ H):tIfS (tT K fe) (tS K f) (tS K g) D σ H:=by
 obtain⟨ad,ρ,st,r,st',E,S,e,p⟩:=Ym h;unfold UG at e;split at e
 ·rename_i st1 q
  refine⟨ad,ρ,st,true,st1,E,S,q,fun ad1 H1 x1 S1=>?_⟩
  dsimp only;rw[if_pos rfl];exact Yt (E.mono x1) S1 e (p.later x1)
 ·rename_i st1 q
  refine⟨ad,ρ,st,false,st1,E,S,q,fun ad1 H1 x1 S1=>?_⟩
  dsimp only;rw[if_neg Bf];exact Yt (E.mono x1) S1 e (p.later x1)
 ·exact Zb e
theorem ZaT{a:Ad}(S:StOk K ad H st)(h:LA ad H i a):∃ b ds,st[i]?=some (b,ds):=by
 have hi:i < st.length:=by rw[<-S.len];exact(bI.mp h.1).1
 exact⟨st[i].1,st[i].2,by rw[Lg hi]⟩
theorem Za7{st2:Za}{a:Ad}(S:StOk K ad H st)(h:LA ad H i a)(hd:Den K ad H v d)(e:Zb0 i d st=some st2) :
  ∃ xs,H a=some (.lst xs)/\xs.length < sizeLine/\Ext ad H ad (upd H a (.lst (xs++[v])))/\StOk K ad (upd H a (.lst (xs++[v]))) st2:=by
 unfold Zb0 at e;split at e
 ·rename_i ds q
  split at e
  ·rename_i hz
   cases e;obtain⟨xs,r,hx⟩:=S.listM h q;refine⟨xs,hx,?_,Ext.write hx (bG h.1),S.write h q hx (r.append (.cons hd .nil))⟩;rw[r.length];exact aP hz (by decide)
  ·exact Zb e
 ·exact Zb e
theorem ZgF(D:Ends)(σ:L2.St)(H:Hp)(h:tS K (Zdn i fe) D σ H):tDrop (tBM K "list" rAppend (tVar i) (tCons (tE K fe) tNil)) D σ H:=by
 obtain⟨ad,ρ,st,r,st',E,S,e,p⟩:=Ym h;unfold Zdn at e;split at e
 ·rename_i a q0
  split at e
  ·rename_i d st1 q1
   split at e
   ·rename_i st2 q2
    cases e;obtain⟨v,e1,e2⟩:=E.at_ i _ q0;obtain⟨l,rfl,hl⟩:=e2.ofLst;obtain⟨b,ds,hc⟩:=ZaT S hl;obtain⟨xs,_,sq⟩:=S.list hl hc;refine⟨_,e1,.inl ⟨rfl,xs,sq⟩,ad,ρ,st,d,st1,E,S,q1,fun w ad1 H1 x1 S1 d1=>?_⟩
    obtain⟨ys,hy,hz,x2,S2⟩:=Za7 S1 (hl.mono x1) d1 q2;exact⟨l,ys,w,rfl,rfl,hy,hz,p _ ad1 _ (x1.trans x2) S2 (E.mono (x1.trans x2))⟩
   ·exact Zb e
  ·exact Zb e
 ·exact Zb e
theorem Zec{fo:Ev}(D:Ends)(σ:L2.St)(H:Hp)(h:tS K (Q6 fo fe) D σ H):tDrop (tBM K "list" rAppend (tE K fo) (tCons (tE K fe) tNil)) D σ H:=by
 obtain⟨ad,ρ,st,r,st',E,S,e,p⟩:=Ym h;unfold Q6 at e;split at e
 ·rename_i a st0 q0
  split at e
  ·rename_i d st1 q1
   split at e
   ·rename_i st2 q2
    cases e;refine⟨ad,ρ,st,.lst a,st0,E,S,q0,fun v ad0 H0 x0 S0 d0=>?_⟩
    obtain⟨l,rfl,hl⟩:=d0.ofLst;obtain⟨b,ds,hc⟩:=ZaT S0 hl;obtain⟨xs,_,sq⟩:=S0.list hl hc;refine⟨.inl ⟨rfl,xs,sq⟩,ad0,ρ,st0,d,st1,E.mono x0,S0,q1,fun w ad1 H1 x1 S1 d1=>?_⟩
    obtain⟨ys,hy,hz,x2,S2⟩:=Za7 S1 (hl.mono x1) d1 q2;exact⟨l,ys,w,rfl,rfl,hy,hz,p _ ad1 _ ((x0.trans x1).trans x2) S2 (E.mono ((x0.trans x1).trans x2))⟩
   ·exact Zb e
  ·exact Zb e
 ·exact Zb e
theorem ZdW(r:Ents K ad H kvs ds):((Y4 kvs).any fun kv=>decide (kv.1=Sum.inr x))=ds.any (isK x):=by
 induction r with
 |nil=>rfl
 |@cons k v d kvs ds h _ ih=>
  rw[show Y4 ((k,v) :: kvs)=(Sum.inr k,v) :: Y4 kvs from rfl,cF,cF,ih]
  congr 1
  show decide ((Sum.inr k:Key)=Sum.inr x)=decide (k=x);rw[bS];simp
theorem XS(r:Ents K ad H kvs ds):kvs.length=ds.length:=by
 induction r with
 |nil=>rfl
 |cons _ _ ih=>rw[aY,aY,ih]
theorem UT(hd:Den K ad H v d)(r:Ents K ad H kvs ds):Ents K ad H (kvs++[(x,v)]) (ds++[.tup [.str x,d]]):=by
 induction r with
 |nil=>exact .cons hd .nil
 |cons h _ ih=>exact .cons h ih
theorem Zcq(r:Ents K ad H kvs ds)(n:ds.any (isK x)=false):putK (Y4 kvs) (Sum.inr x) v=Y4 (kvs++[(x,v)]):=by
 unfold putK;rw[ZdW r,if_neg (by rw[n];exact Bf)]
 simp
theorem Zcp(r:Ents K ad H kvs ds)(n:ds.any (isK x)=false):putF x v kvs=kvs++[(x,v)]:=by
 induction r with
 |nil=>rfl
 |@cons k w d kvs ds h _ ih=>
  rw[cF,Bool.or_eq_false_iff]at n;have ne:¬k=x:=of_decide_eq_false n.1;show(if k=x then (k,v) :: kvs else (k,w) :: putF x v kvs)=_
  rw[if_neg ne,ih n.2];rfl
theorem W2(r:Ents K ad H kvs ds):(∃ v d,(valV (Y4 kvs) (Sum.inr x)=some v/\kvs.lookup x=some v)/\Yl ds x=some d/\Den K ad H v d)\/((valV (Y4 kvs) (Sum.inr x)=none/\kvs.lookup x=none)/\Yl ds x=none):=by
 induction r with
 |nil=>exact .inr ⟨⟨rfl,rfl⟩,rfl⟩
 |@cons k w c kvs ds h _ ih=>
  by_cases q:k=x
  ·subst q
   exact .inl ⟨w,c,⟨valV_pos rfl,by rw[bK,beq_self_eq_true]⟩,by unfold Yl;rw[dD (show isK k (.tup [.str k,c])=true from aK rfl)];rfl,h⟩
  ·have e1:valV (Y4 ((k,w) :: kvs)) (Sum.inr x)=valV (Y4 kvs) (Sum.inr x):=valV_neg fun z=>q (Sum.inr.inj z)
   have e2:Yl (.tup [.str k,c] :: ds) x=Yl ds x:=by unfold Yl;rw[cQ (show ¬isK x (.tup [.str k,c])=true from fun z=>q (of_decide_eq_true z))]
   have e3:List.lookup x ((k,w) :: kvs)=List.lookup x kvs:=by rw[bK,show(x==k)=false from bV.mpr fun z=>q z.symm]
   rw[e1,e2,e3];exact ih
theorem Zcr(r:Ents K ad H kvs ds):(valV (Y4 kvs) (Sum.inr x)).isSome=(Yl ds x).isSome:=by
 rcases W2 (x:=x) r with⟨w,d0,e1,e2,e3⟩|⟨e1,e2⟩
 ·rw[e1.1,e2];rfl
 ·rw[e1.1,e2];rfl
theorem U6{x k:Str}{v:V}:∀ {kvs:Li (Str×V)},kvs.lookup k=none->k≠x->(kvs++[(x,v)]).lookup k=none
 |[],_,h=>by show List.lookup k [(x,v)]=none;rw[bK,bV.mpr h];rfl
 | (y,w) :: r,e,h=>by
  rw[bK]at e;show List.lookup k ((y,w) :: (r++[(x,v)]))=none;rw[bK];cases q:k==y with
  |true=>rw[q]at e;cases e
  |false=>rw[q]at e;exact U6 e h
theorem ZgO(hx:fldNames.contains x=true)(D:Ends)(σ:L2.St)(H:Hp)(h:tS K (Zfh i (.cst (.str x)) fe) D σ H):sFld K (tVar i) (tE K fe) x D σ H:=by
 obtain⟨ad,ρ,st,r,st',E,S,e,p⟩:=Ym h;unfold Zfh at e;simp only at e;split at e
 ·rename_i d st1 q1
  split at e
  ·rename_i a q0
   split at e
   ·rename_i c es q2
    split at e
    ·rename_i hz
     cases e;obtain⟨v,e1,e2⟩:=E.at_ i _ q0;obtain⟨l,rfl,hl,n⟩:=e2.ofDic;refine⟨ad,ρ,st,d,st1,E,S,q1,fun w ad1 H1 x1 S1 d1=>⟨_,e1,?_⟩⟩
     obtain⟨j,dx,kvs,rfl,r,ho,_,oc,nf⟩:=S1.obj (x1.pre _ _ hl) ((x1.kd _ _ hl).mp n) q2;have xw:∀ fs,Ext ad1 H1 ad1 (upd H1 l (.ins (ClsTab.ca j) dx fs)):=fun fs=>Ext.writeM ho rfl rfl (bG (x1.pre _ _ hl))
     refine⟨l,_,dx,kvs,rfl,ho,oc.cl,oc.na x hx,by rw[XS r];omega,?_⟩
     rw[Zcp r hz.2];exact p _ ad1 _ (x1.trans (xw _)) (S1.writeO (x1.pre _ _ hl) q2 ho oc (UT d1 r) fun k hk=>U6 (nf k hk) fun z=>by rw[z,hx]at hk;cases hk) (E.mono (x1.trans (xw _)))
    ·exact Zb e
   ·exact Zb e
  ·exact Zb e
 ·exact Zb e
theorem Zee(σ:L2.St)(H:Hp)(Q:VK)(h:tE K Zik σ H Q):tDNewK K σ H Q:=by
 obtain⟨ad,ρ,st,d,st',E,S,e,p⟩:=h;cases e;intro q hq hk;exact p _ (ad++[q]) _ (S.extD hq hk) (S.pushD hq hk) (.dic (by rw[<-S.len];exact ZO) ⟨_,upd_same,rfl⟩)
theorem Zef{fo:Ev}(D:Ends)(σ:L2.St)(H:Hp)(h:tS K (Jn fo fk fe) D σ H):tAsg (tE K fe) (gSub (tE K fo) (tE K fk) rSetK) D σ H:=by
 obtain⟨ad,ρ,st,r,st',E,S,e,p⟩:=Ym h;unfold Jn at e;split at e
 ·rename_i d st1 q1
  split at e
  ·rename_i a st2 q2
   split at e
   ·rename_i x st3 q3
    split at e
    ·rename_i ds q4
     split at e
     ·rename_i hz
      cases e;refine⟨ad,ρ,st,d,st1,E,S,q1,fun w ad1 H1 x1 S1 d1=>⟨ad1,ρ,st1,.dic a,st2,E.mono x1,S1,q2,fun w2 ad2 H2 x2 S2 d2=>⟨ad2,ρ,st2,.str x,st3,E.mono (x1.trans x2),S2,q3,fun w3 ad3 H3 x3 S3 d3=>?_⟩⟩⟩
      obtain⟨l,rfl,hl,n⟩:=d2.ofDic;cases d3.ofStr;obtain⟨kvs,r,ho,_⟩:=S3.dict (x3.pre _ _ hl) ((x3.kd _ _ hl).mp n) q4 hz.1;have xw:∀ fs,Ext ad3 H3 ad3 (upd H3 l (.dK fs)):=fun fs=>Ext.writeM ho rfl rfl (bG (x3.pre _ _ hl))
      refine⟨l,_,Sum.inr x,rfl,rfl,ho,by rw[aD,XS r];exact aP hz.2.1 (by decide),?_⟩
      rw[Zcq r hz.2.2];exact p _ ad3 _ (x1.trans (x2.trans (x3.trans (xw _)))) (S3.writeD (x3.pre _ _ hl) q4 ho (UT (d1.mono (x2.trans x3)) r)) (E.mono (x1.trans (x2.trans (x3.trans (xw _)))))
     ·exact Zb e
    ·exact Zb e
   ·exact Zb e
  ·exact Zb e
 ·exact Zb e
def Left(K:Fg)(b:D->Env->Za->Ot (Fl×Za))(E:Ends)(xs:Li D)(σ:L2.St)(H:Hp):Prop:=∃ ad ρ st r st',EnvOk K ad H σ ρ/\StOk K ad H st/\Yr b xs ρ st=some (r,st')/\PostS K ad H r st' E
theorem Left.turn{b:Ex}{x:D}{xs:Li D}{H:Hp}(hv:∀ ad H,Den K ad H v x)(h:Left K (fun d ρ s=>b (Zy ρ i d) s) E (x :: xs) σ H) :
  tS K b { E with nx:=Left K (fun d ρ s=>b (Zy ρ i d) s) E xs,ct:=Left K (fun d ρ s=>b (Zy ρ i d) s) E xs,bk:=E.nx } (σ.set i (some v)) H:=by
 obtain⟨ad,ρ,st,r,st',En,S,e,p⟩:=h;unfold Yr at e;have En2:=En.set i (hv ad H);split at e
 ·rename_i ρ1 st1 q
  exact Yt En2 S q fun σ1 ad1 H1 x1 S1 E1=>⟨ad1,ρ1,st1,r,st',E1,S1,e,p.later x1⟩
 ·rename_i ρ1 st1 q
  exact Yt En2 S q fun σ1 ad1 H1 x1 S1 E1=>⟨ad1,ρ1,st1,r,st',E1,S1,e,p.later x1⟩
 ·rename_i ρ1 st1 q
  cases e;exact Yt En2 S q fun σ1 ad1 H1 x1 S1 E1=>p σ1 ad1 H1 x1 S1 E1
 ·rename_i d st1 q
  cases e;exact Yt En2 S q p
 ·exact Zb e
theorem Left.turnD{b:Ex}{x:D}{xs:Li D}{ρ:Env}(En:EnvOk K ad H σ ρ)(S:StOk K ad H st)(hv:Den K ad H v x)(e:Yr (fun d ρ s=>b (Zy ρ i d) s) (x :: xs) ρ st=some (r,st'))(p:PostS K ad H r st' E)(L:L2.St->Hp->Prop)(hL:∀ σ1 ad1 H1 ρ1 st1,Ext ad H ad1 H1->StOk K ad1 H1 st1->EnvOk K ad1 H1 σ1 ρ1->Yr (fun d ρ s=>b (Zy ρ i d) s) xs ρ1 st1=some (r,st')->L σ1 H1) :
  tS K b { E with nx:=L,ct:=L,bk:=E.nx } (σ.set i (some v)) H:=by
 unfold Yr at e;have En2:=En.set i hv;split at e
 ·rename_i ρ1 st1 q
  exact Yt En2 S q fun σ1 ad1 H1 x1 S1 E1=>hL σ1 ad1 H1 ρ1 st1 x1 S1 E1 e
 ·rename_i ρ1 st1 q
  exact Yt En2 S q fun σ1 ad1 H1 x1 S1 E1=>hL σ1 ad1 H1 ρ1 st1 x1 S1 E1 e
 ·rename_i ρ1 st1 q
  cases e;exact Yt En2 S q fun σ1 ad1 H1 x1 S1 E1=>p σ1 ad1 H1 x1 S1 E1
 ·rename_i d st1 q
  cases e;exact Yt En2 S q p
 ·exact Zb e
theorem Left.done{b:D->Env->Za->Ot (Fl×Za)}(h:Left K b E [] σ H):E.nx σ H:=by
 obtain⟨ad,ρ,st,r,st',En,S,e,p⟩:=h;cases e;exact p σ ad H (Ext.refl _ _) S En
theorem ZaN(n k:Nat)(h:k < n):((List.range n).map fun(j:Nat)=>D.int (j:Int)).drop k=D.int (k:Int) :: ((List.range n).map fun(j:Nat)=>D.int (j:Int)).drop (k+1):=by
 rw[cR (by simpa using h)]
 simp
theorem Zek(E:Ends)(σ:L2.St)(H:Hp)(h:tS K (Qz i true fi f) E σ H):tFor (iRng1 (tCons (tE K fi) tNil)) (gName i) (tS K f) E σ H:=by
 obtain⟨ad,ρ,st,r,st',En,S,e,p⟩:=Ym h;unfold Qz at e;split at e
 ·rename_i x st1 q1
  cases x with
  |int n=>
   have e:(match (if n < 2 ^ 62/\-(2 ^ 62)<=n then some ((List.range n.toNat).map fun(k:Nat)=>D.int (k:Int)) else none) with
    |some xs=>Yr (fun d ρ s=>f (Zy ρ i d) s) xs ρ st1
    |none=>none)=some (r,st'):=e
   by_cases hn:n < 2 ^ 62/\-(2 ^ 62)<=n
   ·rw[if_pos hn]at e
    refine⟨ad,ρ,st,.int n,st1,En,S,q1,fun v ad1 H1 x1 S1 d1=>⟨n,by rw[d1.ofInt],hn.2,hn.1,?_⟩⟩
    refine for_range (fun k σ' H'=>Left K (fun d ρ s=>f (Zy ρ i d) s) E (((List.range n.toNat).map fun(k:Nat)=>D.int (k:Int)).drop k) σ' H') ⟨ad1,ρ,st1,r,st',En.mono x1,S1,e,p.later x1⟩ (fun k σ' H' hk L=>?_) fun σ' H' L=>?_
    ·rw[ZaN _ _ hk]at L
     have z:(0:Int)+(k:Int)=(k:Int):=Int.zero_add _;rw[z];exact L.turn fun _ _=>.int _
    ·rw[dY (by simp)]at L
     exact L.done
   ·rw[if_neg hn]at e
    cases e
  |_=>simp[XV]at e
 ·exact Zb e
def Zh9(K:Fg)(b:D->Env->Za->Ot (Fl×Za))(E:Ends)(a:Ad)(vs:Li V)(xs:Li D)(k:Nat)(σ:L2.St)(H:Hp):Prop:=
 ∃ ad ρ st r st',EnvOk K ad H σ ρ/\StOk K ad H st/\(TupAt K H a vs/\Dens K ad H vs xs)/\Yr b (xs.drop k) ρ st=some (r,st')/\PostS K ad H r st' E
theorem Zel(E:Ends)(σ:L2.St)(H:Hp){ρ:Env}{st1:Za}{xs:Li D}(En:EnvOk K ad H σ ρ)(S:StOk K ad H st)(q1:fi ρ st=some (.tup xs,st1))(e:Yr (fun d ρ s=>f (Zy ρ i d) s) xs ρ st1=some (r,st'))(p:PostS K ad H r st' E):tFor (iTup K (tE K fi)) (gName i) (tS K f) E σ H:=by
 refine⟨ad,ρ,st,.tup xs,st1,En,S,q1,fun v ad1 H1 x1 S1 d1=>?_⟩
 obtain⟨a,vs,rfl,ha,rv⟩:=d1.ofTup;refine⟨a,rfl,⟨vs,(ha).sq⟩,?_⟩;refine for_tup (xs:=vs) (fun k σ' H'=>Zh9 K (fun d ρ s=>f (Zy ρ i d) s) E a vs xs k σ' H') ⟨ad1,ρ,st1,r,st',En.mono x1,S1,⟨ha,rv⟩,by rw[List.drop_zero];exact e,p.later x1⟩ (fun k σ' H' _ L=>?_) (fun k y σ' H' hk L=>?_) fun σ' H' L=>?_
 ·obtain⟨_,_,_,_,_,_,_,⟨h,_⟩,_⟩:=L
  exact(h).sq
 ·obtain⟨ad2,ρ2,st2,r2,st2',En2,S2,⟨h2,rv2⟩,e2,p2⟩:=L
  have hk':k < xs.length:=by rw[<-rv2.length];exact(bI.mp hk).1
  have hx:xs[k]?=some xs[k]:=Lg hk';obtain⟨w,ew,dw⟩:=rv2.get hx;rw[hk]at ew;cases ew
  rw[cR hk']at e2;exact Left.turnD En2 S2 dw e2 p2 _ fun σ3 ad3 H3 ρ3 st3 x3 S3 E3 e3=>⟨ad3,ρ3,st3,r2,st2',E3,S3,⟨h2.mono x3,rv2.mono x3⟩,e3,p2.later x3⟩
 ·obtain⟨ad2,ρ2,st2,r2,st2',En2,S2,⟨h2,rv2⟩,e2,p2⟩:=L
  rw[rv2.length,dP]at e2;exact Left.done ⟨ad2,ρ2,st2,r2,st2',En2,S2,e2,p2⟩
theorem Jy{G:TG}(E:Ends)(σ:L2.St)(H:Hp){ad:Li Ad}{ρ:Env}{st st1:Za}{l:Nat}{bb:Bool}{xs:Li D}(En:EnvOk K ad H σ ρ)(S:StOk K ad H st)(q1:fi ρ st=some (.lst l,st1))(q2:st1[l]?=some (bb,xs))(e:Yu B l xs.length 0 ρ st1=some (r,st'))(p:PostS K ad H r st' E)(hG:∀ (x:D) (v:V) (σ:L2.St) (H:Hp) (ad:Li Ad) (ρ:Env) (st st1:Za) (r1:Fl) (E':Ends),EnvOk K ad H σ ρ->StOk K ad H st->Den K ad H v x->B x ρ st=some (r1,st1)->PostS K ad H r1 st1 E'->G v σ H fun σ2 H2=>tS K f E' σ2 H2) :
  tFor (iList K (tE K fi)) G (tS K f) E σ H:=by
 refine⟨ad,ρ,st,.lst l,st1,En,S,q1,fun v ad1 H1 x1 S1 d1=>?_⟩
 obtain⟨a,rfl,ha⟩:=d1.ofLst;obtain⟨vs,rv,sq⟩:=S1.list ha q2;refine⟨a,rfl,⟨vs,sq⟩,?_⟩;refine⟨fun k m σ' H'=>∃ ad2 ρ2 st2,(EnvOk K ad2 H' σ' ρ2/\StOk K ad2 H' st2/\LA ad2 H' l a)/\Yu B l m k ρ2 st2=some (r,st')/\PostS K ad2 H' r st' E,⟨xs.length,ad1,ρ,st1,⟨En.mono x1,S1,ha⟩,e,p.later x1⟩,?_⟩
 rintro k m σ' H' ⟨ad2,ρ2,st2,⟨En2,S2,ha2⟩,e2,p2⟩
 obtain⟨b2,ys,hc⟩:=ZaT S2 ha2;obtain⟨ws,rw',sq2⟩:=S2.list ha2 hc;have stop:ys.length<=k->Yu B l m k ρ2 st2=some (.nx ρ2,st2):=fun hk=>by
  cases m with
  |zero=>unfold Yu;simp only[hc];rw[if_pos hk]
  |succ m=>unfold Yu;simp only[hc,dX hk]
 by_cases hk:ys.length<=k
 ·refine .inl ⟨⟨ws,sq2,by rw[rw'.length];exact hk⟩,?_⟩
  rw[stop hk]at e2;cases e2;exact p2 σ' ad2 H' (Ext.refl _ _) S2 En2
 ·have hk':k < ys.length:=by omega
  have hy:ys[k]?=some ys[k]:=Lg hk';obtain⟨w,ew,dw⟩:=rw'.get hy;cases m with
  |zero=>
   unfold Yu at e2;simp only[hc]at e2;rw[if_neg hk]at e2;cases e2
  |succ m=>
   unfold Yu at e2;simp only[hc,hy]at e2;refine .inr ⟨⟨ws,w,sq2,ew⟩,fun σ3 H3=>∃ ad3 ρ3 st3,(EnvOk K ad3 H3 σ3 ρ3/\StOk K ad3 H3 st3/\LA ad3 H3 l a)/\Yu B l m (k+1) ρ3 st3=some (r,st')/\PostS K ad3 H3 r st' E,fun σ3 H3 h3=>⟨m,Nat.lt_succ_self m,h3⟩,fun x H3 hx=>?_⟩
   obtain⟨rfl,hx⟩:=hx;have ex:=hx ws sq2;rw[ew]at ex;cases ex
   split at e2
   ·rename_i ρ3 st3 q
    exact hG _ _ _ _ ad2 ρ2 st2 _ _ _ En2 S2 dw q fun σ4 ad4 H4 x4 S4 E4=>⟨ad4,ρ3,st3,⟨E4,S4,ha2.mono x4⟩,e2,p2.later x4⟩
   ·rename_i ρ3 st3 q
    exact hG _ _ _ _ ad2 ρ2 st2 _ _ _ En2 S2 dw q fun σ4 ad4 H4 x4 S4 E4=>⟨ad4,ρ3,st3,⟨E4,S4,ha2.mono x4⟩,e2,p2.later x4⟩
   ·rename_i ρ3 st3 q
    cases e2;exact hG _ _ _ _ ad2 ρ2 st2 _ _ _ En2 S2 dw q fun σ4 ad4 H4 x4 S4 E4=>p2 σ4 ad4 H4 x4 S4 E4
   ·rename_i d st3 q
    cases e2;exact hG _ _ _ _ ad2 ρ2 st2 _ _ _ En2 S2 dw q p2
   ·exact Zb e2
theorem Zei(E:Ends)(σ:L2.St)(H:Hp)(h:tS K (Qz i false fi f) E σ H):tFor (iTup K (tE K fi)) (gName i) (tS K f) E σ H\/tFor (iList K (tE K fi)) (gName i) (tS K f) E σ H:=by
 obtain⟨ad,ρ,st,r,st',En,S,e,p⟩:=Ym h;unfold Qz at e;split at e
 ·rename_i x st1 q1
  cases x with
  |tup xs=>exact .inl (Zel E σ H En S q1 e p)
  |lst l=>
   have e:(match st1[l]? with
    |some (_,xs)=>Yu (fun d ρ s=>f (Zy ρ i d) s) l xs.length 0 ρ st1
    |none=>none)=some (r,st'):=e
   split at e
   ·rename_i bb xs q2
    refine .inr (Jy E σ H En S q1 q2 e p fun x v σ H ad ρ st st1 r1 E' En S dv e1 p1=>?_)
    exact Yt (En.set i dv) S e1 p1
   ·exact Zb e
  |_=>simp[XV]at e
 ·exact Zb e
theorem Zcz{G:TG}(E:Ends)(σ:L2.St)(H:Hp){ad:Li Ad}{ρ:Env}{st st1:Za}{xs:Li D}(En:EnvOk K ad H σ ρ)(S:StOk K ad H st)(q1:fi ρ st=some (.tup xs,st1))(e:Yr B xs ρ st1=some (r,st'))(p:PostS K ad H r st' E)(hG:∀ (x:D) (v:V) (σ:L2.St) (H:Hp) (ad:Li Ad) (ρ:Env) (st st1:Za) (r1:Fl) (E':Ends),EnvOk K ad H σ ρ->StOk K ad H st->Den K ad H v x->B x ρ st=some (r1,st1)->PostS K ad H r1 st1 E'->G v σ H fun σ2 H2=>tS K f E' σ2 H2) :
  tFor (iTup K (tE K fi)) G (tS K f) E σ H:=by
 refine⟨ad,ρ,st,.tup xs,st1,En,S,q1,fun v ad1 H1 x1 S1 d1=>?_⟩
 obtain⟨a,vs,rfl,ha,rv⟩:=d1.ofTup;refine⟨a,rfl,⟨vs,(ha).sq⟩,?_⟩;refine for_tup (xs:=vs) (fun k σ' H'=>Zh9 K B E a vs xs k σ' H') ⟨ad1,ρ,st1,r,st',En.mono x1,S1,⟨ha,rv⟩,by rw[List.drop_zero];exact e,p.later x1⟩ (fun k σ' H' _ L=>?_) (fun k y σ' H' hk L=>?_) fun σ' H' L=>?_
 ·obtain⟨_,_,_,_,_,_,_,⟨h,_⟩,_⟩:=L
  exact(h).sq
 ·obtain⟨ad2,ρ2,st2,r2,st2',En2,S2,⟨h2,rv2⟩,e2,p2⟩:=L
  have hk':k < xs.length:=by rw[<-rv2.length];exact(bI.mp hk).1
  have hx:xs[k]?=some xs[k]:=Lg hk';obtain⟨w,ew,dw⟩:=rv2.get hx;rw[hk]at ew;cases ew
  rw[cR hk']at e2;unfold Yr at e2;split at e2
  ·rename_i ρ3 st3 q
   exact hG _ _ _ _ ad2 ρ2 st2 _ _ _ En2 S2 dw q fun σ4 ad4 H4 x4 S4 E4=>⟨ad4,ρ3,st3,r2,st2',E4,S4,⟨h2.mono x4,rv2.mono x4⟩,e2,p2.later x4⟩
  ·rename_i ρ3 st3 q
   exact hG _ _ _ _ ad2 ρ2 st2 _ _ _ En2 S2 dw q fun σ4 ad4 H4 x4 S4 E4=>⟨ad4,ρ3,st3,r2,st2',E4,S4,⟨h2.mono x4,rv2.mono x4⟩,e2,p2.later x4⟩
  ·rename_i ρ3 st3 q
   cases e2;exact hG _ _ _ _ ad2 ρ2 st2 _ _ _ En2 S2 dw q fun σ4 ad4 H4 x4 S4 E4=>p2 σ4 ad4 H4 x4 S4 E4
  ·rename_i d st3 q
   cases e2;exact hG _ _ _ _ ad2 ρ2 st2 _ _ _ En2 S2 dw q p2
  ·exact Zb e2
 ·obtain⟨ad2,ρ2,st2,r2,st2',En2,S2,⟨h2,rv2⟩,e2,p2⟩:=L
  rw[rv2.length,dP]at e2;exact Left.done ⟨ad2,ρ2,st2,r2,st2',En2,S2,e2,p2⟩
theorem Zeg(E:Ends)(σ:L2.St)(H:Hp)(h:tS K (Jr i j fi f) E σ H):tFor (iTup K (tE K fi)) (gTup K 2 (gCons (gName i) (gCons (gName j) gNil))) (tS K f) E σ H\/tFor (iList K (tE K fi)) (gTup K 2 (gCons (gName i) (gCons (gName j) gNil))) (tS K f) E σ H:=by
 obtain⟨ad,ρ,st,r,st',En,S,e,p⟩:=Ym h;unfold Jr at e;split at e
 ·rename_i l st1 q1
  split at e
  ·rename_i bb xs q2
   right
   refine Jy E σ H En S q1 q2 e p fun x v σ H ad ρ st st1 r1 E' En S dv e1 p1=>?_
   unfold Qa at e1;split at e1
   ·rename_i y z
    obtain⟨a,vs,rfl,ha,rv⟩:=dv.ofTup;cases rv with
    |cons d1 rv=>
     cases rv with
     |cons d2 rv=>
      cases rv;exact⟨a,_,rfl,(ha).sq,rfl,_,_,rfl,_,_,rfl,rfl,Yt ((En.set i d1).set j d2) S e1 p1⟩
   ·exact Zb e1
  ·exact Zb e
 ·rename_i xs st1 q1
  left
  refine Zcz E σ H En S q1 e p fun x v σ H ad ρ st st1 r1 E' En S dv e1 p1=>?_
  unfold Qa at e1;split at e1
  ·rename_i y z
   obtain⟨a,vs,rfl,ha,rv⟩:=dv.ofTup;cases rv with
   |cons d1 rv=>
    cases rv with
    |cons d2 rv=>
     cases rv;exact⟨a,_,rfl,(ha).sq,rfl,_,_,rfl,_,_,rfl,rfl,Yt ((En.set i d1).set j d2) S e1 p1⟩
  ·exact Zb e1
 ·exact Zb e
noncomputable def Itz(K:Fg)(a b:Ad):It:=
 ⟨fun i H=>∃ xs ys x y,SqL K H a xs/\SqT K H b ys/\xs[i]?=some x/\ys[i]?=some y,
  fun i H v H'=>∃ p x y,v=.ref p/\H p=none/\H'=upd H p (.tup [x,y])/\(∀ xs,SqL K H a xs->xs[i]?=some x)/\∀ ys,SqT K H b ys->ys[i]?=some y,
  fun i H=>∃ xs ys,SqL K H a xs/\SqT K H b ys/\min xs.length ys.length<=i⟩
noncomputable def Zjl(K:Fg)(ta:TA):TI:=fun σ H R=>ta σ H fun vs H1=>∃ a b,vs=[.ref a,.ref b]/\(∃ xs,SqL K H1 a xs)/\(∃ ys,SqT K H1 b ys)/\R (Itz K a b) H1
theorem ZeJ{ok:Za->Prop}{B:D->D->Env->Za->Ot (Fl×Za)}{l:Li (D×D)}{z:Fl×Za}(e:Z0 ok B l ρ st=some z):ok st:=by
 cases l with
 |nil=>
  unfold Z0 at e;by_cases h:ok st
  ·exact h
  ·rw[if_neg h]at e;cases e
 |cons _ _=>
  unfold Z0 at e;by_cases h:ok st
  ·exact h
  ·rw[if_neg h]at e;cases e
inductive LK(K:Fg)(ok:Za->Prop)(B:D->D->Env->Za->Option (Fl×Za))(qs:List (D×D))(Good:List Addr->Hp->Prop)(r:Fl)(st':Za)(E:Ends)(k m:Nat)(σ:L2.St)(H:Hp):Prop
 |mk {ad:List Addr}{ρ:Env}{st:Za} (hk:k+m=qs.length) (En:EnvOk K ad H σ ρ) (S:StOk K ad H st) (g:Good ad H) (e:Z0 ok B (qs.drop k) ρ st=some (r,st')) (p:PostS K ad H r st' E):LK K ok B qs Good r st' E k m σ H
theorem Uk{ok:Za->Prop}{qs:Li (D×D)}{Good:Li Ad->Hp->Prop}{J:It}(gm:∀ ad H ad' H',Ext ad H ad' H'->Good ad H->Good ad' H')(stop:∀ ad H st,Good ad H->StOk K ad H st->ok st->J.stop qs.length H)(go:∀ k ad H st q,Good ad H->StOk K ad H st->ok st->qs[k]?=some q->∃ w1 w2,J.go k H/\Den K ad H w1 q.1/\Den K ad H w2 q.2/\∀ x H',J.yld k H x H'->∃ pt,x=.ref pt/\H pt=none/\H'=upd H pt (.tup [w1,w2]))(k m:Nat)(σ:L2.St)(H:Hp)(h:LK K ok (fun x y ρ s=>f (Zy (Zy ρ i x) j y) s) qs Good r st' E k m σ H) :
  (J.stop k H/\E.nx σ H)\/(J.go k H/\∃ N:L2.St->Hp->Prop,(∀ σ' H',N σ' H'->∃ m',m' < m/\LK K ok (fun x y ρ s=>f (Zy (Zy ρ i x) j y) s) qs Good r st' E (k+1) m' σ' H')/\∀ x H',J.yld k H x H'->gTup K 2 (gCons (gName i) (gCons (gName j) gNil)) x σ H' fun σ2 H2=>tS K f { E with nx:=N,ct:=N,bk:=E.nx } σ2 H2):=by
 cases h with
 |@mk ad ρ st hkm En S g e p=>
  have ok2:=ZeJ e;by_cases hk:qs.length<=k
  ·have hk':k=qs.length:=by omega
   subst hk';rw[dP]at e;unfold Z0 at e;rw[if_pos ok2]at e;cases e;exact .inl ⟨stop _ _ _ g S ok2,p σ _ H (Ext.refl _ _) S En⟩
  ·have hk':k < qs.length:=Nat.lt_of_not_le hk
   obtain⟨w1,w2,hgo,dw1,dw2,hy⟩:=go k _ _ _ qs[k] g S ok2 (Lg hk');rw[cR hk']at e;unfold Z0 at e;rw[if_pos ok2]at e;generalize qs[k]=q at e dw1 dw2;refine .inr ⟨hgo,LK K ok (fun x y ρ s=>f (Zy (Zy ρ i x) j y) s) qs Good r st' E (k+1) (m - 1),fun σ3 H3 h3=>⟨m - 1,by omega,h3⟩,fun x H3 hx=>?_⟩
   obtain⟨pt,rfl,hpt,rfl⟩:=hy x H3 hx;have xt:Ext ad H ad (upd H pt (.tup [w1,w2])):=Ext.laid hpt;have fin:∀ {rr:Fl}{s3:Za}{E':Ends},f (Zy (Zy ρ i q.1) j q.2) st=some (rr,s3)->PostS K ad (upd H pt (.tup [w1,w2])) rr s3 E'->gTup K 2 (gCons (gName i) (gCons (gName j) gNil)) (.ref pt) σ (upd H pt (.tup [w1,w2])) fun σ2 H2=>tS K f E' σ2 H2:=fun q pp=>
    ⟨pt,_,rfl,SqT.of upd_same,rfl,_,_,rfl,_,_,rfl,rfl,Yt (((En.mono xt).set i (dw1.mono xt)).set j (dw2.mono xt)) (S.laid hpt) q pp⟩
   have nxt:∀ {ρ3:Env}{st3:Za},Z0 ok (fun x y ρ s=>f (Zy (Zy ρ i x) j y) s) (qs.drop (k+1)) ρ3 st3=some (r,st')->∀ (σ4:L2.St) (ad4:Li Ad) (H4:Hp),Ext ad (upd H pt (.tup [w1,w2])) ad4 H4->StOk K ad4 H4 st3->EnvOk K ad4 H4 σ4 ρ3->LK K ok (fun x y ρ s=>f (Zy (Zy ρ i x) j y) s) qs Good r st' E (k+1) (m - 1) σ4 H4:=fun e3 σ4 ad4 H4 x4 S4 E4=>
    .mk (by omega) E4 S4 (gm _ _ _ _ (xt.trans x4) g) e3 (p.later (xt.trans x4))
   clear hy go stop hkm hk hk' hgo;split at e
   ·rename_i q0
    exact fin q0 (nxt e)
   ·rename_i q0
    exact fin q0 (nxt e)
   ·rename_i q0
    cases e;exact fin q0 fun σ4 ad4 H4 x4 S4 E4=>p σ4 ad4 H4 (xt.trans x4) S4 E4
   ·rename_i q0
    cases e;exact fin q0 (p.later xt)
   ·exact Zb e
theorem Zej(E:Ends)(σ:L2.St)(H:Hp)(h:tS K (Jt i j fi f) E σ H):tFor (Zjl K (tA K fi)) (gTup K 2 (gCons (gName i) (gCons (gName j) gNil))) (tS K f) E σ H:=by
 obtain⟨ad,ρ,st,r,st',En,S,e,p⟩:=Ym h;unfold Jt at e;split at e
 ·rename_i la ys st1 q1
  split at e
  ·rename_i ca hca
   refine⟨ad,ρ,st,_,st1,En,S,q1,fun vs ad1 H1 x1 S1 d1=>?_⟩
   obtain⟨v1,v2,rfl,dv1,dv2⟩:∃ v1 v2,vs=[v1,v2]/\Den K ad1 H1 v1 (.lst la)/\Den K ad1 H1 v2 (.tup ys):=by
    cases d1 with
    |cons h1 d1=>
     cases d1 with
     |cons h2 d1=>cases d1;exact⟨_,_,rfl,h1,h2⟩
   obtain⟨a,rfl,ha⟩:=dv1.ofLst;obtain⟨b,ws,rfl,hb,rw0⟩:=dv2.ofTup;obtain⟨us,ru,squ⟩:=S1.list ha (show st1[la]?=some (ca.1,ca.2) from hca);refine⟨a,b,rfl,⟨us,squ⟩,⟨ws,hb.sq⟩,_,⟨_,.mk (Good:=fun ad H=>LA ad H la a/\TupAt K H b ws/\Dens K ad H ws ys) (Nat.zero_add _) (En.mono x1) S1 ⟨ha,hb,rw0⟩ e (p.later x1)⟩,Uk (fun _ _ _ _ x g=>⟨g.1.mono x,g.2.1.mono x,g.2.2.mono x⟩) (fun ad H st g S o=>?_) fun k ad H st q g S o hq=>?_⟩
   ·obtain⟨us,ru,squ⟩:=S.list g.1 (show st[la]?=some (ca.1,ca.2) from o)
    exact⟨us,ws,squ,g.2.1.sq,by rw[ru.length,g.2.2.length];exact cP (cJ ..).symm⟩
   ·obtain⟨us,ru,squ⟩:=S.list g.1 (show st[la]?=some (ca.1,ca.2) from o)
    obtain⟨h1,h2⟩:=List.getElem?_zip_eq_some.mp hq;obtain⟨w1,e1,d1⟩:=ru.get h1;obtain⟨w2,e2,d2⟩:=g.2.2.get h2;exact⟨w1,w2,⟨us,ws,w1,w2,squ,g.2.1.sq,e1,e2⟩,d1,d2,fun x H' ⟨pt,y1,y2,z1,z2,z3,hy1,hy2⟩=>⟨pt,z1,z2,by have z:=hy1 us squ;rw[e1]at z;cases z;have z:=hy2 ws g.2.1.sq;rw[e2]at z;cases z;exact z3⟩⟩
  ·exact Zb e
 ·exact Zb e
end
variable [ClsTab]
mutual
theorem Zf5:∀ {x y:D},ZX x y=true->x=y
 |.non,y,h=>by cases y<;>simp[ZX]at h ⊢
 |.bl a,y,h=>by cases y<;>simp[ZX]at h ⊢;exact h
 |.int a,y,h=>by cases y<;>simp[ZX]at h ⊢;exact h
 |.str a,y,h=>by cases y<;>simp[ZX]at h ⊢;exact h
 |.tup a,y,h=>by
  cases y with
  |tup b=>rw[Q8 (x:=a) (y:=b) (by simpa[ZX] using h)]
  |_=>simp[ZX]at h
 |.lst a,y,h=>by cases y<;>simp[ZX]at h
 |.dct a b,y,h=>by cases y<;>simp[ZX]at h
 |.obj a,y,h=>by cases y<;>simp[ZX]at h
 |.kt a,y,h=>by cases y<;>simp[ZX]at h
 |.dic a,y,h=>by cases y<;>simp[ZX]at h
theorem Q8:∀ {x y:Li D},Z5 x y=true->x=y
 |[],y,h=>by cases y<;>simp[Z5]at h ⊢
 |a :: x,y,h=>by
  cases y with
  |nil=>simp[Z5]at h
  |cons b y=>
   have h:(ZX a b&&Z5 x y)=true:=h;rw[Ba]at h;rw[Zf5 h.1,Q8 h.2]
end
mutual
theorem UN:∀ {n:Nat}{x:D},okD n x=true->ZX x x=true
 |_,.non,_=>rfl
 |_,.bl a,_=>by simp[ZX]
 |_,.int a,_=>by simp[ZX]
 |_,.str a,_=>by simp[ZX]
 |0,.tup a,h=>by simp[okD]at h
 |n+1,.tup a,h=>VQ (n:=n) (x:=a) h
 |_,.lst a,h=>by simp[okD]at h
 |_,.dct a b,h=>by simp[okD]at h
 |_,.obj a,h=>by simp[okD]at h
 |_,.kt a,h=>by simp[okD]at h
 |_,.dic a,h=>by simp[okD]at h
theorem VQ:∀ {n:Nat}{x:Li D},Xu n x=true->Z5 x x=true
 |_,[],_=>rfl
 |n,a :: x,h=>by
  have h:(okD n a&&Xu n x)=true:=h;rw[Ba]at h;show(ZX a a&&Z5 x x)=true;rw[UN h.1,VQ h.2];rfl
end
theorem XW:∀ {n:Nat}{xs:Li D}{i:Nat}{d:D},Xu n xs=true->xs[i]?=some d->okD n d=true
 |_,[],_,_,_,e=>by simp at e
 |n,x :: xs,i,d,h,e=>by
  have h:(okD n x&&Xu n xs)=true:=h;rw[Ba]at h;cases i with
  |zero=>simp at e;subst e;exact h.1
  |succ i=>exact XW (i:=i) h.2 (by simpa using e)
theorem Xc:∀ {xs ys:Li D},Z5 xs ys=((List.range (min xs.length ys.length)).all (fun i=>ZX ((xs[i]?).getD .non) ((ys[i]?).getD .non))&&xs.length==ys.length)
 |[],[]=>rfl
 |[],_ :: _=>by simp[Z5]
 |_ :: _,[]=>by simp[Z5]
 |x :: xs,y :: ys=>by
  have ih:=@Xc xs ys;show(ZX x y&&Z5 xs ys)=_;rw[ih];have e:min (x :: xs).length (y :: ys).length=min xs.length ys.length+1:=by simp only[aY];omega
  rw[e,dQ,bA,List.all_map];simp only[aY];have z:(xs.length+1==ys.length+1)=(xs.length==ys.length):=by
   rw[bS];simp
  rw[z,Bool.and_assoc];rfl
variable{n:Nat}{pQ:Li (Ad×Obj)}{s:Sd}{A:Around}
section
variable {X:Cx}{ad:Li Ad}{H:Hp}
def ZkL(X:Cx)(ad:Li Ad)(H:Hp)(v:V)(x:D):Prop:=∀ n m y,okD n x=true->okD m y=true->Den X.K ad H v y->x=y
theorem Vq{n:Nat}{x:D}{P:Prop}(h:okD n x=true)(h0:∀ n,okD n x=false):P:=by rw[h0]at h;cases h
theorem ZeW(i n:Nat):okD n (.lst i)=false:=by cases n<;>rfl
theorem ZeV(i n:Nat):okD n (.dic i)=false:=by cases n<;>rfl
theorem ZeX(i n:Nat):okD n (.obj i)=false:=by cases n<;>rfl
theorem Zix(ks:Li Str)(n:Nat):okD n (.kt ks)=false:=by cases n<;>rfl
theorem ZeY{xs:Li D}(h:okD n (.tup xs)=true):∃ m,Xu m xs=true:=by
 cases n with
 |zero=>cases h
 |succ n=>exact⟨n,h⟩
theorem Den.injP(J:∀ (a:Ad) (xs ys:Li V),TupAt X.K H a xs->TupAt X.K H a ys->xs=ys){x:D}(h:Den X.K ad H v x):ZkL X ad H v x:=
 Den.rec (motive_1:=fun v x _=>ZkL X ad H v x) (motive_2:=fun vs xs _=>∀ n m ys,Xu n xs=true->Xu m ys=true->Dens X.K ad H vs ys->xs=ys)
  (fun _ _ _ _ _ h=>by cases h;rfl) (fun _ _ _ _ _ _ h=>by cases h;rfl) (fun _ _ _ _ _ _ h=>by cases h;rfl) (fun _ _ _ _ _ _ h=>by cases h;rfl)
  (fun e _ ih n m y hx hy h=>by
   obtain⟨n',hx⟩:=ZeY hx;cases h with
   |tup e' r'=>
    cases J _ _ _ e e'
    obtain⟨m',hy⟩:=ZeY hy;rw[ih n' m' _ hx hy r']
   |lst _=>exact Vq hy (ZeW _)
   |dic _ _=>exact Vq hy (ZeV _)
   |obj _ _=>exact Vq hy (ZeX _)
   |kt _ _ _ _ _ _=>exact Vq hy (Zix _))
  (fun _ _ _ _ hx _ _=>Vq hx (ZeW _)) (fun _ _ _ _ _ hx _ _=>Vq hx (ZeV _)) (fun _ _ _ _ _ hx _ _=>Vq hx (ZeX _)) (fun _ _ _ _ _ _ _ _ _ hx _ _=>Vq hx (Zix _))
  (fun _ _ _ _ _ h=>by cases h;rfl)
  (fun _ _ i1 i2 n m ys hx hy h=>by
   cases h with
   |cons a' r'=>
    have hx:=bR.mp hx;have hy:=bR.mp hy;rw[i1 n m _ hx.1 hy.1 a',i2 n m _ hx.2 hy.2 r']) h
theorem Den.inj(J:∀ (a:Ad) (xs ys:Li V),TupAt X.K H a xs->TupAt X.K H a ys->xs=ys){m:Nat}{x y:D}(hx:okD n x=true)(hy:okD m y=true)(h:Den X.K ad H v x)(h':Den X.K ad H v y):x=y:=h.injP J n m y hx hy h'
open PySem.SeqAt in
theorem Zjd(I:Inv X pQ σ H s):∀ (n:Nat) (x y:D) (A:Around) (vx vy:V) (ux uy:vL),okD n x=true->okD n y=true->A.units+n < cLine->Den X.K ad H vx x->Den X.K ad H vy y->RelV vx ux->RelV vy uy->EqAt A s ux uy (ZX x y):=by
 intro n
 induction n with
 |zero=>
  intro x y A vx vy ux uy hx hy hu dx dy rx ry;cases dx with
  |non=>
   cases rx;cases dy with
   |non=>cases ry;exact EqAt.same _
   |int j=>obtain⟨t',rfl⟩:=ry;exact EqAt.none_int j t'
   |str j=>obtain⟨t',rfl⟩:=ry;exact EqAt.none_str j t'
   |_=>simp[okD]at hy
  |int i=>
   obtain⟨t,rfl⟩:=rx;cases dy with
   |non=>cases ry;exact EqAt.int_none i t
   |int j=>obtain⟨t',rfl⟩:=ry;exact(show ZX (.int i) (.int j)=(i==j) from by rw[bS];simp[ZX]) ▸ EqAt.int_int i t j t'
   |str j=>obtain⟨t',rfl⟩:=ry;exact EqAt.int_str i t j t'
   |_=>simp[okD]at hy
  |str i=>
   obtain⟨t,rfl⟩:=rx;cases dy with
   |non=>cases ry;exact EqAt.str_none i t
   |int j=>obtain⟨t',rfl⟩:=ry;exact EqAt.str_int i t j t'
   |str j=>obtain⟨t',rfl⟩:=ry;exact(show ZX (.str i) (.str j)=(i==j) from by rw[bS];simp[ZX]) ▸ EqAt.str_str i t j t'
   |_=>simp[okD]at hy
  |_=>simp[okD]at hx
 |succ n ih=>
  intro x y A vx vy ux uy hx hy hu dx dy rx ry;cases dx with
  |non=>
   cases rx;cases dy with
   |non=>cases ry;exact EqAt.same _
   |int j=>obtain⟨t',rfl⟩:=ry;exact EqAt.none_int j t'
   |str j=>obtain⟨t',rfl⟩:=ry;exact EqAt.none_str j t'
   |tup e r=>
    cases ry;obtain⟨its,_,p,_⟩:=I.tuple ((e).sq);exact EqAt.none_tuple p (by omega)
   |_=>simp[okD]at hy
  |int i=>
   obtain⟨t,rfl⟩:=rx;cases dy with
   |non=>cases ry;exact EqAt.int_none i t
   |int j=>obtain⟨t',rfl⟩:=ry;exact(show ZX (.int i) (.int j)=(i==j) from by rw[bS];simp[ZX]) ▸ EqAt.int_int i t j t'
   |str j=>obtain⟨t',rfl⟩:=ry;exact EqAt.int_str i t j t'
   |tup e r=>
    cases ry;obtain⟨its,_,p,_⟩:=I.tuple ((e).sq);exact EqAt.int_tuple i t p (by omega)
   |_=>simp[okD]at hy
  |str i=>
   obtain⟨t,rfl⟩:=rx;cases dy with
   |non=>cases ry;exact EqAt.str_none i t
   |int j=>obtain⟨t',rfl⟩:=ry;exact EqAt.str_int i t j t'
   |str j=>obtain⟨t',rfl⟩:=ry;exact(show ZX (.str i) (.str j)=(i==j) from by rw[bS];simp[ZX]) ▸ EqAt.str_str i t j t'
   |tup e r=>
    cases ry;obtain⟨its,_,p,_⟩:=I.tuple ((e).sq);exact EqAt.str_tuple i t p (by omega)
   |_=>simp[okD]at hy
  |@tup a xs ds e r=>
   cases rx;obtain⟨its,rv,p,_⟩:=I.tuple ((e).sq);cases dy with
   |non=>cases ry;exact EqAt.tuple_none p (by omega)
   |int j=>obtain⟨t',rfl⟩:=ry;exact EqAt.tuple_int j t' p (by omega)
   |str j=>obtain⟨t',rfl⟩:=ry;exact EqAt.tuple_str j t' p (by omega)
   |@tup b ys es e' r'=>
    cases ry;by_cases hab:a=b
    ·subst hab
     have z:=Den.inj (fun _ _ _ e e2=>I.tuple_inj e.sq e2.sq) (n:=n+1) (m:=n+1) hx hy (Den.tup e r) (Den.tup e' r')
     cases z;rw[UN hx];exact EqAt.same _
    ·obtain⟨its',rv',p',_⟩:=I.tuple ((e').sq)
     refine EqAt.of_refs hab ?_;have q:=RcAt.tuples (A:=A) (s:=s) (e:=fun i=>ZX ((ds[i]?).getD .non) ((es[i]?).getD .non)) p p' (by omega) fun j h1 h2=>?_
     ·have e1:its.toArray.size=ds.length:=by rw[aI,<-rv.length,r.length]
      have e2:its'.toArray.size=es.length:=by rw[aI,<-rv'.length,r'.length]
      rw[e1,e2]at q;show RcAt A s (.ref a) (.ref b) (Z5 ds es);rw[Xc];exact q
     ·have l1:j < ds.length:=by rw[<-r.length,rv.length];simpa using h1
      have l2:j < es.length:=by rw[<-r'.length,rv'.length];simpa using h2
      have g1:ds[j]?=some ds[j]:=Lg l1;have g2:es[j]?=some es[j]:=Lg l2;obtain⟨v1,q1,d1⟩:=r.get g1;obtain⟨v2,q2,d2⟩:=r'.get g2;obtain⟨u1,w1,r1⟩:=rv.get q1;obtain⟨u2,w2,r2⟩:=rv'.get q2;have f1:its.toArray[j]=u1:=by
       have:its[j]?=some (its[j]'(by simpa using h1)):=Lg _
       rw[w1]at this;simpa using(Option.some.inj this).symm
      have f2:its'.toArray[j]=u2:=by
       have:its'[j]?=some (its'[j]'(by simpa using h2)):=Lg _
       rw[w2]at this;simpa using(Option.some.inj this).symm
      rw[f1,f2,g1,g2];exact ih ds[j] es[j] A.in1 v1 v2 u1 u2 (XW hx g1) (XW hy g2) (by show A.units+1+n < cLine;omega) d1 d2 r1 r2
   |_=>simp[okD]at hy
  |_=>simp[okD]at hx
open PySem.SeqAt in
theorem Zay(I:Inv X pQ σ H s){a b:Ad}{its its':Li vL}(hx:Xu n ds=true)(hy:Xu n es=true)(hu:A.units+n+1 < cLine)(r:Dens X.K ad H xs ds)(r':Dens X.K ad H ys es)(rv:Vals xs its)(rv':Vals ys its')(j:Nat)(h1:j < its.toArray.size)(h2:j < its'.toArray.size):EqAt A.in1 s its.toArray[j] its'.toArray[j] (ZX ((ds[j]?).getD .non) ((es[j]?).getD .non)):=by
 have l1:j < ds.length:=by rw[<-r.length,rv.length];simpa using h1
 have l2:j < es.length:=by rw[<-r'.length,rv'.length];simpa using h2
 have g1:ds[j]?=some ds[j]:=Lg l1;have g2:es[j]?=some es[j]:=Lg l2;obtain⟨v1,q1,d1⟩:=r.get g1;obtain⟨v2,q2,d2⟩:=r'.get g2;obtain⟨u1,w1,r1⟩:=rv.get q1;obtain⟨u2,w2,r2⟩:=rv'.get q2;have f1:its.toArray[j]=u1:=by
  have:its[j]?=some (its[j]'(by simpa using h1)):=Lg _
  rw[w1]at this;simpa using(Option.some.inj this).symm
 have f2:its'.toArray[j]=u2:=by
  have:its'[j]?=some (its'[j]'(by simpa using h2)):=Lg _
  rw[w2]at this;simpa using(Option.some.inj this).symm
 rw[f1,f2,g1,g2];exact Zjd I n ds[j] es[j] A.in1 v1 v2 u1 u2 (XW hx g1) (XW hy g2) (by show A.units+1+n < cLine;omega) d1 d2 r1 r2
open PySem.SeqAt in
theorem Zhv(I:Inv X pQ σ H s){a b:Ad}(hx:Xu n ds=true)(hy:Xu n es=true)(hu:A.units+n+1 < cLine)(e:TupAt X.K H a xs)(r:Dens X.K ad H xs ds)(e':TupAt X.K H b ys)(r':Dens X.K ad H ys es):RcAt A s (.ref a) (.ref b) (Z5 ds es)/\RcNeAt A s (.ref a) (.ref b) (!Z5 ds es):=by
 obtain⟨its,rv,p,_⟩:=I.tuple (e.sq);obtain⟨its',rv',p',_⟩:=I.tuple (e'.sq);have e1:its.toArray.size=ds.length:=by rw[aI,<-rv.length,r.length]
 have e2:its'.toArray.size=es.length:=by rw[aI,<-rv'.length,r'.length]
 have q:=RcAt.tuples (A:=A) (s:=s) (e:=fun i=>ZX ((ds[i]?).getD .non) ((es[i]?).getD .non)) p p' (by omega) fun j h1 h2=>Zay (a:=a) (b:=b) I hx hy hu r r' rv rv' j h1 h2
 have q':=RcNeAt.tuples (A:=A) (s:=s) (e:=fun i=>ZX ((ds[i]?).getD .non) ((es[i]?).getD .non)) p p' (by omega) fun j h1 h2=>Zay (a:=a) (b:=b) I hx hy hu r r' rv rv' j h1 h2
 rw[e1,e2]at q q';rw[Xc];exact⟨q,q'⟩
end
end Dp



namespace Dp
open PySem PySem.Spec PyProof.Rows L2 Builtin Builtin.Str
variable [ClsTab]
variable{w:World}{x s y:Str}
section
variable {X:Cx}{tg:Expr}
noncomputable def Itx(x:Str):It:=⟨fun i _=>i < x.cps.size,fun i H v H'=>H'=H/\∃ c,x.cps[i]?=some c/\v=.str ⟨#[c]⟩,fun i _=>x.cps.size<=i⟩
theorem ZfD{P:Program}{K:Fg}(x:Str)(t:Tok)(it:Ad):Turn P w K tg (Itx x) [it] it (fun i h=>h.IsStrIter it "str_ascii_iterator" x t i) where
 mem:=by simp
 obj:=fun i h st b hb=>by
  have e:b=it:=by simpa using hb
  subst e;obtain⟨o,e,c,d⟩:=st;exact⟨o,e,fun v z=>by rw[d]at z;cases z⟩
 keep:=fun i h h' st k=>by
  obtain⟨o,e,c⟩:=st;exact⟨o,k it (by simp) o e,c⟩
 item:=by
  intro X hP hw hK hc i pQ s σ H E I hf st hg;subst hP hw hK;have hg:i < x.cps.size:=hg;have hx:x.cps[i]?=some x.cps[i]:=Array.getElem?_eq_getElem hg;obtain⟨f0,f1,f2,f3,f4,f5⟩:=hf it (by simp)
  refine wpAny_pyNext_ascii_item st hx fun h' st' sb=>?_
  have I1:Inv X pQ σ H { s with heap:=h',toks:=s.toks+1 }:=I.turned (t':=s.toks+1) (fun b o hb e=>(sb.2 b hb).trans e) f0 f1 f3 f4 f5
  obtain⟨o,e,c,d⟩:=id st';exact⟨_,rfl,go_of (s:={ s with heap:=h',toks:=s.toks+1 }) e c d (by decide) ⟨.str ⟨#[x.cps[i]]⟩,H,I1,⟨_,rfl⟩,⟨rfl,_,hx,rfl⟩,st',fun b hb=>(hf b hb).1⟩⟩
 done:=by
  intro X hP hw hK hc i pQ s σ H E I hf st hg;subst hP hw hK;have hg:x.cps.size<=i:=hg;obtain⟨f0,f1,f2,f3,f4,f5⟩:=hf it (by simp)
  exact wpAny_pyNext_ascii_end (I.ok.hd hc) st (Array.getElem?_eq_none hg) fun h' eb=>⟨rfl,I.turned (t':=s.toks) (fun b o hb e=>eb b o hb e) f0 f1 f3 f4 f5⟩
 self:=fun _ _ _ _ _ st h=>wpAny_pyIter_striter_ascii st h
noncomputable def Zlc(tl:TE):TI:=fun σ H R=>tl σ H fun x H1=>∃ z,x=.str z/\z.cps.all (fun c=>decide (c < 128))=true/\R (Itx z) H1
theorem ZjQ{l:Expr}{tl:TE}(hl:PE X l tl):PI X tg l (Zlc tl):=by
 intro pQ s σ H R I h;refine thn (hl pQ s σ H _ I h) fun v s1 ⟨x,H1,I1,r1,q1⟩=>?_
 obtain⟨z,e,hz,q⟩:=q1;subst e;obtain⟨t,rfl⟩:=r1;refine wpAny_pyIter_ascii hz ?_;refine⟨s1.heap.objs.size,[s1.heap.objs.size],_,_,H1,rfl,I1.kept (t':=s1.toks) fun b o e=>aL _ e,ZfD z t _,⟨_,aV _ rfl,rfl,rfl⟩,fun b hb=>?_,q⟩
 have e:b=s1.heap.objs.size:=by simpa using hb
 subst e;exact I1.fpOk (aB _) (I1.hok.fresh (aB _))
theorem ZcU{xs:Li Nat}{a m:Nat}(h:a+m<=xs.length):((List.range m).map fun k=>a+k).filterMap (xs[·]?)=(xs.drop a).take m:=by
 apply List.ext_getElem?
 intro i
 induction m generalizing a i with
 |zero=>simp
 |succ m ih=>
  have ha:a < xs.length:=by omega
  rw[dQ,aM,bB,List.filterMap_cons_some (b:=xs[a]) (by simp[ha]),cR ha,List.take_succ_cons]
  cases i with
  |zero=>rfl
  |succ i=>
   rw[List.getElem?_cons_succ,List.getElem?_cons_succ,<-ih (a:=a+1) (by omega) i]
   congr 2
   apply cK
   intro k _;show a+(k+1)=a+1+k;omega
theorem clip_eq(n d:Nat)(o:Ot Int)(hd:d<=n):(match o with
  |none=>(d:Int)
  |some i=>max 0 (min (if i < 0 then i+(n:Int) else i) (n:Int)))=((Dp.sIx n d o:Nat):Int)/\Dp.sIx n d o<=n:=by
 cases o with
 |none=>exact⟨rfl,hd⟩
 |some i=>
  show max 0 (min (if i < 0 then i+(n:Int) else i) (n:Int))=((if i < 0 then (i+n).toNat else Nat.min i.toNat n:Nat):Int)/\(if i < 0 then (i+n).toNat else Nat.min i.toNat n)<=n
  by_cases h:i < 0
  ·rw[if_pos h,if_pos h];omega
  ·rw[if_neg h,if_neg h]
   show max 0 (min i (n:Int))=((min i.toNat n:Nat):Int)/\min i.toNat n<=n;omega
theorem Zko(x:Str)(lo hi:Ot Int):((strSliceIndices lo hi 1 x.length).filterMap (x.cps[·]?))=(x.cps.toList.drop (Dp.sIx x.length 0 lo)).take (Dp.sIx x.length x.length hi - Dp.sIx x.length 0 lo):=by
 obtain⟨e1,l1⟩:=clip_eq x.length 0 lo (bX _);obtain⟨e2,l2⟩:=clip_eq x.length x.length hi (aB _);have hl:x.cps.toList.length=x.length:=bD;generalize Dp.sIx x.length 0 lo=a at *
 generalize Dp.sIx x.length x.length hi=b at *
 have e:strSliceIndices lo hi 1 x.length=sliceRange (a:Int) (b:Int) 1:=by
  rw[<-e1,<-e2];rfl
 rw[e];have er:sliceRange (a:Int) (b:Int) 1=(List.range (b - a)).map fun k=>a+k:=by
  have ec:(if (a:Int) < (b:Int) then ((b:Int) - (a:Int)+1 - 1) / 1 else 0).toNat=b - a:=by
   split
   ·rw[Int.ediv_one];omega
   ·show 0=b - a;omega
  show(List.range (if (a:Int) < (b:Int) then ((b:Int) - (a:Int)+1 - 1) / 1 else 0).toNat).map (fun(k:Nat)=>((a:Int)+1 * (k:Int)).toNat)=_
  rw[ec];apply cK
  intro k _;omega
 have ea:(fun i:Nat=>x.cps[i]?)=fun i=>x.cps.toList[i]?:=by funext i;simp
 rw[er,ea];by_cases hab:a<=b
 ·exact ZcU (by omega)
 ·rw[show b - a=0 by omega];simp
theorem ZdO{lo hi:Ot Int}(h:(strSliceIndices lo hi 1 x.length).length=x.length):W0 x lo hi=x:=by
 obtain⟨e1,l1⟩:=clip_eq x.length 0 lo (bX _);obtain⟨e2,l2⟩:=clip_eq x.length x.length hi (aB _);have hl:x.cps.toList.length=x.length:=bD;unfold W0;generalize Dp.sIx x.length 0 lo=a at *
 generalize Dp.sIx x.length x.length hi=b at *
 have e:strSliceIndices lo hi 1 x.length=sliceRange (a:Int) (b:Int) 1:=by
  rw[<-e1,<-e2];rfl
 rw[e]at h;have h:((List.range (if (a:Int) < (b:Int) then ((b:Int) - (a:Int)+1 - 1) / 1 else 0).toNat).map (fun(k:Nat)=>((a:Int)+1 * (k:Int)).toNat)).length=x.length:=h
 rw[aD,bL]at h;have hk:(x.cps.toList.drop a).take (b - a)=x.cps.toList:=by
  split at h
  ·rw[Int.ediv_one]at h
   have:a=0:=by omega
   subst this;rw[List.drop_zero,cA (by omega)]
  ·have:x.cps.toList=[]:=List.eq_nil_of_length_eq_zero (by have:(0:Int).toNat=0:=rfl;omega)
   rw[this];simp
 rw[hk]
theorem Zkq:SlR X (fun x lo hi H Q=>∃ z,x=.str z/\z.length<=sizeLine/\Q (.str (W0 z lo hi)) H):=by
 intro pQ s σ H x v vl vu lo hi sl Q I rx hs pl pu h;obtain⟨z,rfl,hz,q⟩:=h;obtain⟨t,rfl⟩:=rx;have pv:∀ {v:vL}{o:Ot Int},IsPart v o->∃ l:Ot (Int×Tok),v=partValue l/\l.map (·.1)=o:=fun {v o} p=>by
  cases p with
  |none=>exact⟨none,rfl,rfl⟩
  |int i t=>exact⟨some (i,t),rfl,rfl⟩
 obtain⟨l,rfl,el⟩:=pv pl;obtain⟨u,rfl,eu⟩:=pv pu;refine⟨"str",_,slot_str_getitem.lookup,typeIs_str s z t,wpAny_getItem_str_slice (l:=l) (u:=u) (st:=none) hs rfl ?_⟩;unfold sliceMade slicePicked;rw[el,eu];show(if ((1:Int)==1&&(strSliceIndices lo hi 1 z.length).length==z.length)=true then Made.val (.str z t) else Made.str ⟨((strSliceIndices lo hi 1 z.length).filterMap (z.cps[·]?)).toArray⟩).post _ s
 by_cases hw:((1:Int)==1&&(strSliceIndices lo hi 1 z.length).length==z.length)=true
 ·rw[if_pos hw]
  have hw':(strSliceIndices lo hi 1 z.length).length=z.length:=by simpa using hw
  rw[ZdO hw']at q;exact⟨.str z,H,I,⟨t,rfl⟩,q⟩
 ·rw[if_neg hw,Zko]
  refine⟨?_,.str (W0 z lo hi),H,I.tok _,⟨_,rfl⟩,q⟩;have:((z.cps.toList.drop (Dp.sIx z.length 0 lo)).take (Dp.sIx z.length z.length hi - Dp.sIx z.length 0 lo)).length<=z.cps.toList.length:=by
   rw[bJ,cG];omega
  have hl:z.cps.toList.length=z.length:=bD;show(List.toArray _).size<=_;rw[aI];omega
theorem Zd3{l:Li Nat}(h:Ue l=true):PySem.NumText.AllDigits l/\l≠[]/\l.length<=600:=by
 unfold Ue at h;simp only[Ba,aS,cT,List.isEmpty_eq_false_iff,aW]at h;refine⟨fun c hc=>?_,h.1.1,h.2⟩
 have:=h.1.2 c hc;unfold UF at this;simpa using this
theorem Zew{i:Int}(h:WJ x=some i):PySem.intText? x=some i/\x.length<=640:=by
 have hl:x.cps.toList.length=x.length:=bD;unfold WJ at h;split at h
 ·rename_i r e
  split at h
  ·rename_i hf
   cases h;obtain⟨h1,h2,h3⟩:=Zd3 hf;have hx:x.length<=601:=by rw[<-hl,e,aY];omega
   exact⟨PySem.intText_neg e h1 h2 (by omega),by omega⟩
  ·exact Zb h
 ·rename_i l _
  split at h
  ·rename_i hf
   cases h;obtain⟨h1,h2,h3⟩:=Zd3 hf;have hx:x.length<=601:=by rw[<-hl];omega
   exact⟨PySem.intText_digits h1 h2 (by omega),by omega⟩
  ·exact Zb h
theorem Zca:CallR X (.type "int") (fun xs H Q=>∃ x i,xs=[.str x]/\WJ x=some i/\Q (.int i) H):=by
 intro pQ s σ H xs us Q I r h;obtain⟨x,i,rfl,hi,q⟩:=h;obtain⟨u,rfl,t,rfl⟩:=vals1 r;obtain⟨h1,h2⟩:=Zew hi;exact PySem.W.KIN.call_text h1 h2 ⟨.int i,H,I.tok _,⟨_,rfl⟩,q⟩
theorem Zcf:CallR X (.type "str") (fun xs H Q=>∃ i,xs=[.int i]/\ZI i=true/\Q (.str (Str.ofString (toString i))) H):=by
 intro pQ s σ H xs us Q I r h;obtain⟨i,rfl,hi,q⟩:=h;obtain⟨u,rfl,t,rfl⟩:=vals1 r;refine PySem.P.str_of_int ?_ ⟨.str (Str.ofString (toString i)),H,I.tok _,⟨_,rfl⟩,q⟩;unfold ZI at hi;simp only[Ba,aS]at hi;by_cases h0:i.natAbs=0
 ·rw[h0];decide
 ·have:i.natAbs < 2 ^ 64:=by omega
  have:=(Nat.log2_lt h0).mpr this;omega
theorem ZcM:MtR X "str.startswith" (fun x xs H Q=>∃ z y,x=.str z/\xs=[.str y]/\Q (.bl (stW z y)) H):=by
 intro pQ s σ H x xs v us Q I rx r h;obtain⟨z,y,rfl,rfl,q⟩:=h;obtain⟨t,rfl⟩:=rx;obtain⟨u,rfl,t',rfl⟩:=vals1 r;refine PySem.SC.startswith ⟨.bl (stW z y),H,I,?_,q⟩;show Value.bool _=Value.bool _
 congr 1
 show(decide (0+y.length<=z.length)&&z.cps.extract 0 (0+y.length)==y.cps)=(z.cps.toList.take y.cps.toList.length==y.cps.toList);have hl:z.cps.toList.length=z.length:=bD;have hy:y.cps.toList.length=y.length:=bD;have ee:(z.cps.extract 0 (0+y.length)).toList=z.cps.toList.take y.length:=by simp
 rw[hy,bS,Ba,aS,beq_iff_eq,beq_iff_eq,<-ee];constructor
 ·rintro⟨_,h⟩;rw[h]
 ·intro h
  have h':=Array.ext' h;refine⟨?_,h'⟩;have:=congrArg List.length h;rw[ee,bJ,hy]at this;omega
theorem Uh{s:Str}:∀ (xs:Li Str) (n:Nat),xs.foldl (fun a p=>a+p.length+s.length) n=n+(Ye s xs).length
 |[],n=>rfl
 |x :: xs,n=>by
  rw[List.foldl_cons,Uh xs];show _=n+((s.cps.toList++x.cps.toList)++Ye s xs).length;have hx:x.cps.toList.length=x.length:=bD;have hs:s.cps.toList.length=s.length:=bD;rw[aH,aH,hx,hs];omega
theorem Ub{s:Str}:∀ (xs:Li Str) (acc:Array Nat),xs.foldl (fun acc p=>acc++s.cps++p.cps) acc=(acc.toList++Ye s xs).toArray
 |[],acc=>by simp[Ye]
 |x :: xs,acc=>by
  rw[List.foldl_cons,Ub xs];simp[Ye]
theorem UX(xs:Li Str):glued s xs=⟨(Y3 s xs).toArray⟩:=by
 cases xs with
 |nil=>rfl
 |cons x xs=>
  unfold glued;rw[List.drop_one,List.tail_cons,List.headD_cons,Ub];rfl
theorem Ua{s:Str}(h:s.length=0):∀ (xs:Li Str),Ye s xs=Vx xs
 |[]=>rfl
 |x :: xs=>by
  have hs:s.cps.toList=[]:=List.eq_nil_of_length_eq_zero (bD.trans h);show(s.cps.toList++x.cps.toList)++Ye s xs=x.cps.toList++Vx xs;rw[hs,Ua h xs];rfl
theorem Zd9(h:s.length=0)(xs:Li Str):Y3 s xs=Vx xs:=by
 cases xs with
 |nil=>rfl
 |cons x xs=>show x.cps.toList++Ye s xs=x.cps.toList++Vx xs;rw[Ua h]
theorem Qj:∀ {ys:Li Str}{its:Li vL},Vals (ys.map V.str) its->∃ l:Li (Str×Tok),its=strValues l/\l.map (·.1)=ys
 |[],_,.nil=>⟨[],rfl,rfl⟩
 |y :: ys,_,.cons ⟨t,e⟩ r=>by
  obtain⟨l,rfl,h⟩:=Qj r;exact⟨(y,t) :: l,by rw[e];rfl,by rw[aM,h]⟩
theorem Zg7:MtR X "str.join" (fun x xs H Q=>∃ z a ys,x=.str z/\xs=[.ref a]/\SqL X.K H a (ys.map V.str)/\(Ye z ys).length<=Zc/\Q (.str ⟨(Y3 z ys).toArray⟩) H):=by
 intro pQ s σ H x xs v us Q I rx r h;obtain⟨z,a,ys,rfl,rfl,sq,hl,q⟩:=h;obtain⟨t,rfl⟩:=rx;obtain⟨u,rfl,r1⟩:=vals1 r;cases r1;obtain⟨its,rv,p,hn⟩:=I.list sq;obtain⟨l,rfl,el⟩:=Qj rv;refine PySem.SC.join p.isList el ?_ fun t' k=>⟨.str ⟨(Y3 z ys).toArray⟩,H,I.tok _,⟨t',?_⟩,q⟩
 ·unfold JoinOk tooLong
  rw[List.foldl_toArray,Uh];have:Zc<=sizeLine:=by decide
  simp;omega
 ·show Value.str (glued z ys) t'=_
  rw[UX]
theorem Ju{s:Str}(h:s.length=1):∀ xs:Li Str,xs.length<=(Ye s xs).length
 |[]=>bX _
 |x :: r=>by
  have:=Ju h r;have e:s.cps.toList.length=1:=by rw[bD];exact h
  show r.length+1<=((s.cps.toList++x.cps.toList)++Ye s r).length;rw[aH,aH];omega
theorem JB(xs:Li Str):Str.join s xs=⟨(Y3 s xs).toArray⟩:=by rw[<-StrLaws.glued_eq_join];exact UX xs
theorem Qi(h:y.length=1):(Txt.split x y).length<=x.length+1:=by
 have e:=congrArg (fun z:Str=>z.cps.toList.length) (StrLaws.join_split x y)
 simp only[JB]at e;cases q:Txt.split x y with
 |nil=>exact bX _
 |cons a r=>
  rw[q]at e;have g:=Ju h r;have e:(a.cps.toList++Ye y r).length=x.cps.toList.length:=e;rw[aH,bD]at e;show r.length+1<=x.cps.size+1;rw[<-bD];omega
theorem Zfz(h:y.length=1):Txt.split x y=Vg x y:=by
 obtain⟨⟨l⟩⟩:=y;obtain⟨c,rfl⟩:∃ c,l=[c]:=by
  match l,(show l.length=1 from h) with
  |[c],_=>exact⟨c,rfl⟩
 have e:=StrLaws.join_split x ⟨#[c]⟩;have f:=StrLaws.split_free x c;have n:Txt.split x ⟨#[c]⟩≠[]:=by
  unfold Txt.split;split
  ·exact dC _ _
  ·split
   ·exact dC _ _
   ·unfold partsBetween
    cases occurrences x ⟨#[c]⟩ 0 x.length (x.length+1)<;>exact dC _ _
 generalize Txt.split x ⟨#[c]⟩=L at e f n;have h0:x.cps.toList=Y3 ⟨#[c]⟩ L:=by rw[JB]at e;rw[<-e]
 have g:=Uu n f;show L=(Wm c x.cps.toList).map fun l=>⟨l.toArray⟩
 rw[h0,g,bB];exact(List.map_id L).symm
theorem J4:∀ l:Li (Str×Tok),Vals ((l.map (·.1)).map V.str) (strValues l)
 |[]=>.nil
 | (y,t) :: l=>.cons ⟨t,rfl⟩ (J4 l)
theorem Zc3{prog:Program}{A:Around}{E:vL->Sd->Prop}{s:Sd}{t u:Tok}{Q:vL->Sd->Prop}(hy:y.length=1)(hz:x.length<=Zc)(hq:∀ (l:Li (Str×Tok)) (k:Nat),l.map (·.1)=Txt.split x y->Q (.ref s.heap.objs.size) { s with heap:=s.heap.push { cls:=.type "list",data:=.seq (strValues l).toArray },toks:=k }):wpAny (model prog w) A (call (.builtin "str.split") [.str x t,.str y u]) Q E s:=by
 have hy0:(y.length==0)=false:=by rw[hy];rfl
 have hs:x.length<=sizeLine:=aF hz (by decide)
 have hl:=Qi (x:=x) hy;cases h1:(decide (x.length < y.length)||decide (strKind x < strKind y)) with
 |true=>exact call_meets F.slot_str_split (typeIs_str _ _ _) F.entry_str_split (F.args_str_split_2 _ _) (meets_str_split_cannot_occur x y t u h1) (hq [(x,t)] s.toks (if_pos h1).symm)
 |false=>
  cases hf:(occurrences x y 0 x.length (x.length+1)).isEmpty with
  |true=>exact call_meets F.slot_str_split (typeIs_str _ _ _) F.entry_str_split (F.args_str_split_2 _ _) (meets_str_split_not_found x y t u h1 hy0 hf) (hq [(x,t)] s.toks ((if_neg (ne_true_of_eq_false h1)).trans (if_pos hf)).symm)
  |false=>
   have e:Txt.split x y=partsBetween x (occurrences x y 0 x.length (x.length+1)) y.length:=(if_neg (ne_true_of_eq_false h1)).trans (if_neg (ne_true_of_eq_false hf));refine call_meets F.slot_str_split (typeIs_str _ _ _) F.entry_str_split (F.args_str_split_2 _ _) (meets_str_split_sep x y t u h1 hy0 hf hs (by rw[<-e];exact aF hl (aF (Nat.succ_le_succ hz) (by decide)))) ?_
   have g:=hq (numbered s.toks (Txt.split x y)) (s.toks+(Txt.split x y).length) (numbered_texts _ _);rw[e,<-strsFrom_eq]at g;exact g
theorem ZeM:MtR X "str.split" (fun x xs H Q=>∃ z y,x=.str z/\xs=[.str y]/\(y.length=1/\z.length<=Zc)/\∀ p,H p=none->Q (.ref p) (upd H p (.lst ((Vg z y).map V.str)))):=by
 intro pQ s σ H x xs v us Q I rx r h;obtain⟨z,y,rfl,rfl,c,q⟩:=h;obtain⟨t,rfl⟩:=rx;obtain⟨u,rfl,t',rfl⟩:=vals1 r;refine Zc3 c.1 c.2 fun l k e=>?_
 have fr:H s.heap.objs.size=none:=I.hok.fresh (aB _);rw[<-Zfz c.1]at q;have hl:=Qi (x:=z) c.1;refine⟨.ref s.heap.objs.size,_,I.laid (t':=k) (o:=.lst ((Txt.split z y).map V.str)) (fun b o q=>aL _ q) (aB _) ⟨by rw[aD];exact aF hl (aF (Nat.succ_le_succ c.2) (by decide)),strValues l,_,by rw[<-e];exact J4 l,aV _ rfl⟩,rfl,q _ fr⟩
end
end Dp



namespace Dp
open PySem PySem.Spec PyProof.Rows L2
variable [ClsTab]
section
open Builtin
open AutoSeq1 (wpAny_loadPart')
end
theorem Yw:Zc<=sizeLine:=by decide
variable{pQ:Li (Ad×Obj)}{s:Sd}{σ:L2.St}{H:Hp}{ys vs:Li V}{Q:VK}{v u:vL}{ds:Li D}{ad:Li Ad}{d:D}{st:Za}{lo hi:Ot Int}{prog:Program}{w:World}{A:Around}{E:vL->Sd->Prop}{r:D×Za}{h':Heap}{i:Nat}{k:Bool}
section
variable {X:Cx}
theorem ZeH{i:Int}(h:ZI i=true):-(2 ^ 64) < i/\i < 2 ^ 64:=by
 unfold ZI at h;rw[Ba]at h;exact⟨of_decide_eq_true h.1,of_decide_eq_true h.2⟩
theorem Zgg{a b:Ad}{xs:Li V}(I:Inv X pQ σ H s)(ha:TupAt X.K H a xs)(hb:TupAt X.K H b ys)(hz:xs.length+ys.length<=sizeLine)(q0:xs=[]->Q (.ref b) H)(q1:ys=[]->Q (.ref a) H)(q2:∀ p,H p=none->Q (.ref p) (upd H p (.tup (xs++ys)))):wpAny (model X.prog X.w) X.A (binaryOp .Add (.ref a) (.ref b)) (EP X pQ σ Q) X.xe s:=by
 by_cases hx:xs=[]
 ·obtain⟨its,r1,p1,_⟩:=I.tuple (ha.sq)
  obtain⟨its2,r2,p2,_⟩:=I.tuple (hb.sq);have e1:its=[]:=r1.nil_iff.mpr hx;subst e1;obtain⟨⟨c1,dd,dt,sl⟩,ho,hc,n,hd⟩:=id p1;obtain⟨⟨c2,dd2,dt2,sl2⟩,ho2,hc2,n2,hd2⟩:=id p2;simp only at hc hd hc2 hd2;subst hc hd hc2 hd2;exact concat_meets ⟨_,ho,rfl⟩ ⟨_,ho2,rfl⟩ noFill_tuple_add seq_tuple_add PySem.F.slot_tuple_add PySem.F.entry_tuple_add (PySem.F.args_tuple_add_2 _ _)
   (tuple_addW0 a b #[] its2.toArray n n2 dd dd2 sl sl2 rfl) ⟨ho,ho2,⟨.ref b,H,I,rfl,q0 hx⟩⟩
 ·exact op_catT pQ s σ H (.ref a) (.ref b) _ _ Q I rfl rfl ⟨a,b,xs,ys,rfl,rfl,(ha).sq,(hb).sq,hx,hz,q1,fun _=>q2⟩
theorem Zhl{op:Operator}{i j k:Int}(I:L2.Inv X pQ σ H s)(rx:RelV (.int i) v)(ry:RelV (.int j) u)(e:Zak op i j=some k)(p:Q (.int k) H) :
  wpAny (model X.prog X.w) X.A (binaryOp op v u) (EP X pQ σ Q) X.xe s:=by
 unfold Zak at e;split at e
 ·cases e
  exact op_add pQ s σ H _ _ v u Q I rx ry ⟨_,_,rfl,rfl,p⟩
 ·cases e
  exact op_sub pQ s σ H _ _ v u Q I rx ry ⟨_,_,rfl,rfl,p⟩
 ·split at e
  ·rename_i hl
   cases e;refine op_mul pQ s σ H _ _ v u Q I rx ry ⟨_,_,rfl,rfl,?_,p⟩;rw[cB]at hl;exact hl.elim (fun z=>.inl (ZeH z)) fun z=>.inr (ZeH z)
  ·cases e
 ·split at e
  ·rename_i hl
   cases e;exact op_fdiv pQ s σ H _ _ v u Q I rx ry ⟨_,_,rfl,rfl,hl,p⟩
  ·split at e
   ·rename_i hl
    cases e;exact op_fdivN pQ s σ H _ _ v u Q I rx ry ⟨_,_,rfl,rfl,⟨by omega,by omega⟩,p⟩
   ·cases e
 ·split at e
  ·rename_i hl
   cases e;exact op_mod pQ s σ H _ _ v u Q I rx ry ⟨_,_,rfl,rfl,hl,p⟩
  ·split at e
   ·rename_i hl
    cases e;exact op_modN pQ s σ H _ _ v u Q I rx ry ⟨_,_,rfl,rfl,(by omega),p⟩
   ·cases e
 ·cases e
theorem Zch{a b:Ad}{xs:Li V}(I:L2.Inv X pQ σ H s)(ha:SqL X.K H a xs)(hb:SqL X.K H b ys)(hz:xs.length+ys.length<=sizeLine)(q:∀ p,H p=none->Q (.ref p) (upd H p (.lst (xs++ys)))):wpAny (model X.prog X.w) X.A (binaryOp .Add (.ref a) (.ref b)) (EP X pQ σ Q) X.xe s:=by
 obtain⟨its,r,p1,_⟩:=I.list ha;obtain⟨its2,r2,p2,_⟩:=I.list hb;obtain⟨⟨cls,dd,data,sl⟩,ho,hc,n,hd⟩:=id p1.isList;obtain⟨⟨cls2,dd2,data2,sl2⟩,ho2,hc2,n2,hd2⟩:=id p2.isList;simp only at hc hd hc2 hd2;subst hc hd hc2 hd2;have e:its.toArray++its2.toArray=(its++its2).toArray:=by simp
 have l1:=r.length;have l2:=r2.length;refine concat_meets ⟨_,ho,rfl⟩ ⟨_,ho2,rfl⟩ noFill_list_add seq_list_add PySem.F.slot_list_add PySem.F.entry_list_add (PySem.F.args_list_add_2 _ _) (list_addW a b its.toArray its2.toArray n n2 dd dd2 sl sl2 (by simp;omega)) ⟨ho,ho2,?_⟩
 rw[e];exact⟨.ref _,_,I.lnew (t':=s.toks) (r.append r2) (by rw[aH];omega),rfl,q _ I.fresh⟩
theorem Zaf{op:Operator}(h:Xh op=true):op=.Add:=by cases op<;>first|rfl|cases h
theorem ZjA{op:Operator}(h:Uf op=true):op=.Mult:=by cases op<;>first|rfl|cases h
theorem Zhk{op:Operator}:OpR X (binaryOp op) (rD X.K (Ja op)):=by
 intro pQ s σ H x y v u Q I rx ry h;obtain⟨ad,st,dx,dy,d,st',S,hx,hy,e,p⟩:=h;unfold Ja at e;split at e
 ·split at e
  ·rename_i k q
   cases e;cases hx;cases hy
   exact Zhl I rx ry q (p.at S (.int _))
  ·exact Zb e
 ·split at e
  ·rename_i hz0
   cases Zaf hz0.1
   have hz:=hz0.2;cases e;obtain⟨a,xs,rfl,ha,r1⟩:=hx.ofTup;obtain⟨b,ys,rfl,hb,r2⟩:=hy.ofTup;cases rx;cases ry
   refine Zgg I ha hb (by rw[r1.length,r2.length];exact aF hz Yw) (fun z=>?_) (fun z=>?_) fun q hq=>?_
   ·subst z;cases r1
    exact p.at S hy
   ·subst z;cases r2
    rw[bE]at p;exact p.at S hx
   ·exact p _ ad _ (Ext.laid hq) (S.laid hq) (.tup (.inl upd_same) ((r1.append r2).mono (Ext.laid hq)))
  ·exact Zb e
 ·split at e
  ·rename_i hop
   cases Zaf hop
   unfold Zgf at e;split at e
   ·rename_i xs ys q1 q2
    split at e
    ·rename_i hz
     cases e;obtain⟨a,rfl,ha⟩:=hx.ofLst;obtain⟨b,rfl,hb⟩:=hy.ofLst;obtain⟨vs,r1,h1⟩:=S.list ha q1;obtain⟨ws,r2,h2⟩:=S.list hb q2;cases rx;cases ry
     refine Zch I h1 h2 (by rw[r1.length,r2.length];exact aF hz Yw) fun q hq=>?_
     refine p _ (ad++[q]) _ (Ext.push hq) (S.push hq (r1.append r2)) (.newL ?_);rw[<-S.len];exact ZO
    ·exact Zb e
   ·exact Zb e
  ·exact Zb e
 ·split at e
  ·rename_i hop
   cases ZjA hop
   unfold Zhw at e;split at e
   ·rename_i z q1
    split at e
    ·rename_i hz
     cases e;obtain⟨a,rfl,ha⟩:=hx.ofLst;obtain⟨vs,r1,h1⟩:=S.listM ha q1;cases hy;cases r1 with
     |cons d1 r1=>
      cases r1;rename_i w;refine op_rep pQ s σ H _ _ v u Q I rx ry ⟨a,_,[w],rfl,rfl,h1,by omega,by omega,?_,fun q hq=>?_⟩
      ·rw[cI,Nat.one_mul]
       exact aF (show _<=1000 by omega) (by decide)
      ·have e1:∀ k:Nat,(List.replicate k [w]).flatten=List.replicate k w:=fun k=>by
        induction k with
        |zero=>rfl
        |succ k ih=>rw[cH,cZ,ih,cH];rfl
       rw[e1];refine p _ (ad++[q]) _ (Ext.push hq) (S.push hq (Dens.rep d1 _)) (.newL ?_);rw[<-S.len];exact ZO
    ·exact Zb e
   ·exact Zb e
  ·exact Zb e
 ·split at e
  ·rename_i hz
   cases Zaf hz.1
   cases e;cases hx;cases hy
   exact op_add_str pQ s σ H _ _ v u Q I rx ry ⟨_,_,rfl,rfl,aF hz.2 Yw,p.at S (.str _)⟩
  ·exact Zb e
 ·exact Zb e
theorem Zh5:UnR X (unaryOp .USub) (rU1 X.K Zha):=by
 intro pQ s σ H x v Q I rx h;obtain⟨ad,st,dx,d,st',S,hx,e,p⟩:=h;unfold Zha at e;split at e
 ·cases e;cases hx
  exact un_neg pQ s σ H _ v Q I rx ⟨_,rfl,p.at S (.int _)⟩
 ·exact Zb e
theorem Zai{xs:Li V}{i:Int}(r:Dens X.K ad H xs ds)(e:atD ds i=some d):∃ v,atI xs i=some v/\Den X.K ad H v d:=by
 unfold atD at e;have hl:L2.ixN xs.length i=Dp.ixN ds.length i:=by rw[r.length];rfl
 cases q:Dp.ixN ds.length i with
 |none=>rw[q]at e;cases e
 |some j=>
  rw[q]at e;obtain⟨v,e1,e2⟩:=r.get (i:=j) e;refine⟨v,?_,e2⟩;unfold atI;rw[hl,q];exact e1
theorem JE{ad:Li Ad}{H:Hp}{k:Str}:∀ {ks:Li Str}{vs:Li V}{ds:Li D},Dens X.K ad H vs ds->ks.length=vs.length->
  (∃ v d,valV ((ks.zip vs).map fun p=>((Sum.inr p.1:Key),p.2)) (Sum.inr k)=some v/\ZW ks ds k=some d/\Den X.K ad H v d)\/(valV ((ks.zip vs).map fun p=>((Sum.inr p.1:Key),p.2)) (Sum.inr k)=none/\ZW ks ds k=none)
 |[],_,_,.nil,_=>.inr ⟨rfl,rfl⟩
 |[],_,_,.cons _ _,h=>by simp at h
 |_ :: _,_,_,.nil,h=>by simp at h
 |x :: ks,v :: vs,d :: ds,.cons hd r,h=>by
  by_cases e:x=k
  ·subst e
   exact .inl ⟨v,d,valV_pos rfl,by simp[ZW],hd⟩
  ·have ih:=JE (k:=k) r (by simpa using h)
   have e1:valV (((x :: ks).zip (v :: vs)).map fun p=>((Sum.inr p.1:Key),p.2)) (Sum.inr k)=valV ((ks.zip vs).map fun p=>((Sum.inr p.1:Key),p.2)) (Sum.inr k):=valV_neg (p:=(Sum.inr x,v)) (by intro z;exact e (Sum.inr.inj z))
   have e2:ZW (x :: ks) (d :: ds) k=ZW ks ds k:=by simp[ZW,e]
   rw[e1,e2];exact ih
theorem ZdT{k:Str}{a:Nat}{o:Ot D}(h:dAt k a st=some o):∃ b xs,st[a]?=some (b,xs)/\Wx xs=false/\o=Yl xs k:=by
 unfold dAt at h;split at h
 ·rename_i b xs q
  split at h
  ·exact Zb h
  ·rename_i c
   cases h;exact⟨b,xs,q,Bool.eq_false_iff.mpr c,rfl⟩
 ·exact Zb h
theorem ZkW{x:Str}{i:Int}(q:atD ((chS x).map D.str) i=some d):∃ c,atI x.cps.toList i=some c/\d=.str ⟨#[c]⟩:=by
 unfold atD at q;unfold atI;have hl:((chS x).map D.str).length=x.cps.toList.length:=by simp[chS]
 rw[hl]at q;show ∃ c,(Dp.ixN x.cps.toList.length i).bind (fun j=>x.cps.toList[j]?)=some c/\_
 cases e:Dp.ixN x.cps.toList.length i with
 |none=>rw[e]at q;cases q
 |some j=>
  rw[e]at q;have q:((chS x).map D.str)[j]?=some d:=q;unfold chS at q;rw[aQ,aQ]at q;show ∃ c,x.cps.toList[j]?=some c/\_;cases e2:x.cps.toList[j]? with
  |none=>rw[e2]at q;cases q
  |some c=>rw[e2]at q;cases q;exact⟨c,rfl,rfl⟩
theorem ZmA(hu:X.A.units+64 < cLine):IxR X (rD X.K ixR):=by
 intro value slice pQ s σ H x y v u Q I rx ry h hs;obtain⟨ad,st,dx,dy,d,st',S,hx,hy,e,p⟩:=h;unfold ixR at e;split at e
 ·rename_i d' q
  cases e;unfold ixD at q;split at q
  ·obtain⟨a,xs,rfl,ha,r⟩:=hx.ofTup
   cases hy;obtain⟨w,e1,e2⟩:=Zai r q;exact ix_tup value slice pQ s σ H _ _ v u Q I rx ry ⟨a,xs,_,w,rfl,rfl,(ha).sq,e1,p.at S e2⟩ hs
  ·split at q
   ·rename_i q0
    obtain⟨a,rfl,ha⟩:=hx.ofLst;cases hy;obtain⟨xs,r,sq⟩:=S.list ha q0;obtain⟨w,e1,e2⟩:=Zai r q;exact ix_list value slice pQ s σ H _ _ v u Q I rx ry ⟨a,xs,_,w,rfl,rfl,sq,e1,p.at S e2⟩ hs
   ·exact Zb q
  ·obtain⟨a,vs,rfl,ha,hl,r⟩:=hx.ofDct
   cases hy;rcases JE r hl with⟨w,d0,e1,e2,e3⟩|⟨_,e2⟩
   ·rw[e2]at q
    cases q;exact ix_dct value slice pQ s σ H _ _ v u Q I rx ry ⟨a,_,Sum.inr _,w,rfl,rfl,ha,e1,p.at S e3⟩ hs
   ·rw[e2]at q;cases q
  ·obtain⟨a,o,its,n,rfl,h1,h2,h3,h4,h5⟩:=hx.ofKt
   cases hy;obtain⟨w,e1,e2⟩:=Zai (Vh _) q;exact ix_tup value slice pQ s σ H _ _ v u Q I rx ry ⟨a,_,_,w,rfl,rfl,.inr ⟨o,its,n,h1,h2.1,h3,h4,h5⟩,e1,p.at S e2⟩ hs
  ·refine j_e q fun q=>?_
   obtain⟨bb,es,q0,ob,q⟩:=ZdT q;obtain⟨a,rfl,ha,hn⟩:=hx.ofDic;obtain⟨kvs,r,hk,_⟩:=S.dict ha hn q0 ob;cases hy;rcases W2 r with⟨w,d0,e1,e2,e3⟩|⟨_,e2⟩
   ·rw[e2]at q
    cases q;exact ix_dct value slice pQ s σ H _ _ v u Q I rx ry ⟨a,_,Sum.inr _,w,rfl,rfl,hk,e1.1,p.at S e3⟩ hs
   ·rw[e2]at q;cases q
  ·split at q
   ·rename_i hz
    cases hx;cases hy
    obtain⟨c,e1,rfl⟩:=ZkW q;exact ix_str value slice pQ s σ H _ _ v u Q I rx ry ⟨_,_,c,rfl,rfl,aF hz Yw,e1,p.at S (.str _)⟩ hs
   ·exact Zb q
  ·exact Zb q
 ·exact Zb e
theorem Xn(n d:Nat)(o:Ot Int):Dp.sIx n d o=HT.sIx n d o:=by cases o<;>rfl
theorem ZdQ{xs:Li V}(r:Dens X.K ad H xs ds):Dens X.K ad H (cutV xs lo hi) (Zcl ds lo hi):=by
 unfold cutV Zcl;rw[<-r.length,Xn,Xn];exact(r.drop _).take _
theorem UE{t sl:Ad}{items:Array vL}{vl vu:vL}{Q:vL->Sd->Prop}(ht:IsTup s.heap t items)(hs:s.heap.IsSliceOf sl vl vu .none)(pl:IsPart vl lo)(pu:IsPart vu hi)(hw:HT.sIx items.size 0 lo=0/\HT.sIx items.size items.size hi=items.size)(h:Q (.ref t) s):wpAny (model prog w) A (getItem (.ref t) (.ref sl)) Q E s:=by
 obtain⟨os,hos,hcs,hds⟩:=id hs;have hTs:s.TypeIs (.ref sl) "slice":=⟨os,hos,hcs⟩;unfold getItem
 try with_reducible refine wpAny_holding ?_
 first|refine aA (aE ?_)|skip
 refine aA (wpAny_sequenceKey ht.typeIs (by decide) ?_)
 refine aA (wpAny_callSpecial?_slot (name:=Str.ofString "__getitem__") ht.typeIs PyProof.Rows.slot_tuple_getitem
  (wpAny_call_entry PyProof.Rows.slot_tuple_getitem ht.typeIs PyProof.Rows.entry_tuple_getitem ?_ (PyProof.Rows.args_tuple_getitem _ _)))
 show wpAny _ _ (Builtin.Tuple.tupleItemsOf (.ref t) >>= _) _ _ s;refine aA (tupleItemsOf_ ht ?_);refine aA (wpAny_typeOf hTs ?_);rw[if_pos (by decide)]
 refine aA (HT.sliceApplied_gen hs pl pu ?_);rw[hw.1,hw.2];have hyes:(((0:Nat):Int)==0&&(1:Int)==1&&(items.size - 0)==items.size)=true:=by simp
 show wpAny _ _ (if (((0:Nat):Int)==0&&(1:Int)==1&&(items.size - 0)==items.size)=true then _ else _) _ _ s
 rw[if_pos hyes];unfold Builtin.Tuple.tupleIsExact
 wp_walk using wpAny_typeOf ht.typeIs

 exact⟨_,rfl,aE h⟩
theorem Zfx:SlR X (fun x lo hi H Q=>∃ a xs,x=.ref a/\SqT X.K H a xs/\(HT.sIx xs.length 0 lo=0/\HT.sIx xs.length xs.length hi=xs.length)/\Q (.ref a) H):=by
 intro pQ s σ H x v vl vu lo hi sl Q I rx hs pl pu h;obtain⟨a,xs,rfl,hx,hw,q⟩:=h;cases rx;obtain⟨its,r,ht,hz⟩:=I.tuple hx;have hlen:its.toArray.size=xs.length:=by rw[aI];exact r.length.symm
 refine⟨"tuple",_,PyProof.Rows.slot_tuple_getitem.lookup,ht.typeIs,?_⟩;exact UE ht hs pl pu (by rw[hlen];exact hw) ⟨.ref a,H,I,rfl,q⟩
theorem Znk:SlR X (rSl X.K):=by
 intro pQ s σ H x v vl vu lo hi sl Q I rx hs pl pu h;obtain⟨ad,st,dx,d,st',S,hx,e,p⟩:=h;unfold Yx at e;split at e
 ·rename_i ds
  split at e
  ·rename_i hw
   cases e;obtain⟨a,xs,rfl,ha,r⟩:=hx.ofTup;refine Zfx pQ s σ H _ v vl vu lo hi sl Q I rx hs pl pu ⟨a,xs,rfl,ha.sq,?_,p.at S hx⟩;rw[r.length,<-Xn,<-Xn];exact hw
  ·rename_i hw
   cases e;obtain⟨a,xs,rfl,ha,r⟩:=hx.ofTup;refine sl_tup pQ s σ H _ v vl vu lo hi sl Q I rx hs pl pu ⟨a,xs,rfl,(ha).sq,?_,fun q hq=>p _ ad _ (Ext.laid hq) (S.laid hq) (.tup (.inl upd_same) ((ZdQ r).mono (Ext.laid hq)))⟩
   rw[r.length,<-Xn,<-Xn];exact hw
 ·split at e
  ·rename_i q0
   cases e;obtain⟨a,rfl,ha⟩:=hx.ofLst;obtain⟨xs,r,sq⟩:=S.list ha q0;refine sl_list pQ s σ H _ v vl vu lo hi sl Q I rx hs pl pu ⟨a,xs,rfl,sq,fun q hq=>p _ (ad++[q]) _ (Ext.push hq) (S.push hq (ZdQ r)) (.newL ?_)⟩
   rw[<-S.len];exact ZO
  ·exact Zb e
 ·split at e
  ·rename_i hz
   cases e;cases hx
   exact Zkq pQ s σ H _ v vl vu lo hi sl Q I rx hs pl pu ⟨_,rfl,aF hz Yw,p.at S (.str _)⟩
  ·exact Zb e
 ·exact Zb e
theorem Vn(h:Dens X.K ad H vs [d]):∃ v,vs=[v]/\Den X.K ad H v d:=by
 cases h with
 |cons h r=>cases r;exact⟨_,rfl,h⟩
theorem Zij{e:D}(h:Dens X.K ad H vs [d,e]):∃ v w,vs=[v,w]/\Den X.K ad H v d/\Den X.K ad H w e:=by
 cases h with
 |cons h r=>
  cases r with
  |cons h' r=>cases r;exact⟨_,_,rfl,h,h'⟩
theorem YT{g:D->Za->Res}(h:on1 g ds st=some r):∃ d,ds=[d]/\g d st=some r:=by
 unfold on1 at h;split at h
 ·exact⟨_,rfl,h⟩
 ·exact Zb h
theorem U9{g:D->D->Za->Res}(h:on2 g ds st=some r):∃ d e,ds=[d,e]/\g d e st=some r:=by
 unfold on2 at h;split at h
 ·exact⟨_,_,rfl,h⟩
 ·exact Zb h
theorem Zcb:CallR X (.builtin "len") (rC X.K (on1 Wl)):=by
 intro pQ s σ H xs us Q I r h;obtain⟨ad,st,ds,d,st',S,hd,e,p⟩:=h;obtain⟨x,rfl,e1⟩:=YT e;have e:=e1;obtain⟨v,rfl,hv⟩:=Vn hd;unfold Wl at e;split at e
 ·rename_i n q
  cases e;unfold ZcF at q;split at q
  ·cases q
   obtain⟨a,ys,rfl,ha,rr⟩:=hv.ofTup;refine call_len_seq pQ s σ H _ us Q I r ⟨a,ys,rfl,.inr ((ha).sq),?_⟩;rw[rr.length];exact p.at S (.int _)
  ·split at q
   ·rename_i q0
    cases q;obtain⟨a,rfl,ha⟩:=hv.ofLst;obtain⟨ys,rr,sq⟩:=S.list ha q0;refine call_len_seq pQ s σ H _ us Q I r ⟨a,ys,rfl,.inl sq,?_⟩;rw[rr.length];exact p.at S (.int _)
   ·cases q
  ·cases q
   obtain⟨a,o,its,n,rfl,h1,h2,h3,h4,h5⟩:=hv.ofKt;refine call_len_seq pQ s σ H _ us Q I r ⟨a,_,rfl,.inr (.inr ⟨o,its,n,h1,h2.1,h3,h4,h5⟩),?_⟩;rw[aD];exact p.at S (.int _)
  ·split at q
   ·rename_i hz
    cases q;cases hv
    exact call_len pQ s σ H _ us Q I r ⟨_,_,rfl,⟨aF hz Yw,rfl⟩,p.at S (.int _)⟩
   ·cases q
  ·split at q
   ·rename_i q0
    split at q
    ·cases q
    ·rename_i ob
     cases q;obtain⟨a,rfl,ha,hn⟩:=hv.ofDic;obtain⟨kvs,rr,hk,_⟩:=S.dict ha hn q0 (Bool.eq_false_iff.mpr ob);obtain⟨u,rfl,ru⟩:=vals1 r;cases ru;refine len_dK I hk ?_;rw[aD,XS rr];exact p.at S (.int _)
   ·cases q
  ·cases q
 ·exact Zb e
theorem Jh:CallR X (.type "tuple") (rC X.K (on1 X6)):=by
 intro pQ s σ H xs us Q I r h;obtain⟨ad,st,ds,d,st',S,hd,e,p⟩:=h;obtain⟨x,rfl,e1⟩:=YT e;have e:=e1;obtain⟨v,rfl,hv⟩:=Vn hd;unfold X6 at e;split at e
 ·cases e
  obtain⟨a,ys,rfl,ha,rr⟩:=hv.ofTup;exact call_tuple_of pQ s σ H _ us Q I r ⟨a,ys,rfl,.inr ⟨(ha).sq,p.at S hv⟩⟩
 ·split at e
  ·rename_i q0
   cases e;obtain⟨a,rfl,ha⟩:=hv.ofLst;obtain⟨ys,rr,sq⟩:=S.list ha q0;exact call_tuple_of pQ s σ H _ us Q I r ⟨a,ys,rfl,.inl ⟨sq,fun l hl=>p _ ad _ (Ext.laid hl) (S.laid hl) (.tup (.inl upd_same) (rr.mono (Ext.laid hl)))⟩⟩
  ·cases e
 ·cases e
theorem Je{ad:Li Ad}{H:Hp}:∀ {vs:Li V}{ds:Li D}{bs:Li Bool},Dens X.K ad H vs ds->XI ds=some bs->vs=bs.map V.bl
 |_,_,_,.nil,e=>by cases e;rfl
 |_,_,bs,.cons (d:=d) h r,e=>by
  cases d with
  |bl b=>
   cases h;unfold XI at e;cases q:XI _ with
   |none=>rw[q]at e;cases e
   |some l=>rw[q]at e;cases e;rw[Je r q];rfl
  |_=>simp[XI]at e
theorem Ux:∀ {bs:Li Bool}{its:Li vL},Vals (bs.map V.bl) its->its=bs.map Value.bool
 |[],_,.nil=>rfl
 |b :: bs,_,.cons r t=>by cases r;rw[Ux t];rfl
theorem Zfl{nm:String}{f:Li Bool->Bool}(hw:∀ {prog:Program}{w:World}{A:Around}{E:vL->Sd->Prop}{s:Sd}{l:Ad}{bs:Li Bool}{Q:vL->Sd->Prop},A.handled=none->s.heap.IsList l (bs.map Value.bool).toArray->
   (∀ h' tk,(∀ b o,s.heap.get? b=some o->h'.get? b=some o)->Q (.bool (f bs)) { s with heap:=h',toks:=tk })->wpAny (model prog w) A (call (.builtin nm) [.ref l]) Q E s)(hc:X.calm=true):CallR X (.builtin nm) (rC X.K (on1 (Vc f))):=by
 intro pQ s σ H xs us Q I r h;obtain⟨ad,st,ds,d,st',S,hd,e,p⟩:=h;obtain⟨x,rfl,e1⟩:=YT e;have e:=e1;obtain⟨v,rfl,hv⟩:=Vn hd;unfold Vc at e;split at e
 ·split at e
  ·rename_i q0
   split at e
   ·rename_i bs q1
    cases e;obtain⟨a,rfl,ha⟩:=hv.ofLst;obtain⟨ys,rr,sq⟩:=S.list ha q0;cases r with
    |cons r r'=>
     cases r';cases r
     obtain⟨its,rv,pl,_⟩:=I.list sq;have eb:=Je rr q1;subst eb;have ei:=Ux rv;subst ei;exact hw (I.ok.hd hc) pl.isList fun h' tk k=>⟨.bl _,H,I.kept (t':=tk) k,rfl,p.at S (.bl _)⟩
   ·exact Zb e
  ·exact Zb e
 ·exact Zb e
theorem Zg2{o:Obj}(hk:∀ b x,b∉[s.heap.objs.size]->(s.heap.push o).get? b=some x->h'.get? b=some x):∀ b x,s.heap.get? b=some x->h'.get? b=some x:=
 fun b x e=>hk b x (fun hm=>by rw[bH.mp hm]at e;exact bW _ (aG e)) (aL _ e)
theorem Zf9{bs:Li Bool}(h:(bs.map Value.bool).toArray[i]?=some v):∃ b,bs[i]?=some b/\v=.bool b:=by
 rw[cL,aQ]at h;cases q:bs[i]? with
 |none=>rw[q]at h;cases h
 |some b=>rw[q]at h;cases h;exact⟨b,rfl,rfl⟩
theorem ZkP{l:Ad}{bs:Li Bool}{Q:vL->Sd->Prop}(hh:A.handled=none)(hl:s.heap.IsList l (bs.map Value.bool).toArray)(h:∀ h' tk,(∀ b o,s.heap.get? b=some o->h'.get? b=some o)->Q (.bool (bs.all id)) { s with heap:=h',toks:=tk }):wpAny (model prog w) A (call (.builtin "all") [.ref l]) Q E s:=by
 have hlt:l < s.heap.objs.size:=by obtain⟨_,e,_⟩:=hl;exact aG e
 refine call_all_walk (wpAny_pyIter_list hl ?_);refine⟨s.heap.objs.size,[s.heap.objs.size,l],[s.heap.objs.size],(bs.map Value.bool).toArray.size,_,_,fun i=>(bs[i]?).getD true,rfl,Walks.list (A:=A.in1) hh _ l (aX hlt) _,
  ⟨⟨_,aV _ rfl,rfl,rfl⟩,hl.push _⟩,fun i v s' Q' E' hP hQ=>?_,fun h' tk hk=>?_⟩
 ·obtain⟨b,e,rfl⟩:=Zf9 hP
  simp only[e,Option.getD_some]at hQ;exact wpAny_truthy_bool hQ
 ·have e:((List.range (bs.map Value.bool).toArray.size).all fun i=>(bs[i]?).getD true)=bs.all id:=by
   rw[aI,aD,bS,aW,aW];constructor
   ·intro z b hb
    obtain⟨i,hi,rfl⟩:=List.getElem_of_mem hb;have:=z i (bM.mpr hi);simp only[Lg hi,Option.getD_some]at this;exact this
   ·intro z i hi
    have hi':=bM.mp hi;simp only[Lg hi',Option.getD_some];exact z _ (dE hi')
  rw[e];exact h h' tk (Zg2 hk)
theorem Zb9:CallR X (.type "int") (rC X.K (on1 Zeu)):=by
 intro pQ s σ H xs us Q I r h;obtain⟨ad,st,ds,d,st',S,hd,e,p⟩:=h;obtain⟨x,rfl,e1⟩:=YT e;have e:=e1;obtain⟨v,rfl,hv⟩:=Vn hd;unfold Zeu at e;split at e
 ·cases e;cases hv
  exact call_int1 pQ s σ H _ us Q I r (.inl ⟨_,rfl,p.at S (.int _)⟩)
 ·cases e;cases hv
  exact call_int1 pQ s σ H _ us Q I r (.inr ⟨true,rfl,p.at S (.int _)⟩)
 ·cases e;cases hv
  exact call_int1 pQ s σ H _ us Q I r (.inr ⟨false,rfl,p.at S (.int _)⟩)
 ·split at e
  ·rename_i i hi
   cases e;cases hv
   exact Zca pQ s σ H _ us Q I r ⟨_,i,rfl,hi,p.at S (.int _)⟩
  ·exact Zb e
 ·exact Zb e
theorem Zce:CallR X (.type "str") (rC X.K (on1 J3)):=by
 intro pQ s σ H xs us Q I r h;obtain⟨ad,st,ds,d,st',S,hd,e,p⟩:=h;obtain⟨x,rfl,e1⟩:=YT e;have e:=e1;obtain⟨v,rfl,hv⟩:=Vn hd;unfold J3 at e;split at e
 ·split at e
  ·rename_i hi
   cases e;cases hv
   exact Zcf pQ s σ H _ us Q I r ⟨_,rfl,hi,p.at S (.str _)⟩
  ·exact Zb e
 ·exact Zb e
theorem Zcd(hc:X.calm=true):CallR X (.builtin "min") (rC X.K (on2 Zg6)):=by
 intro pQ s σ H xs us Q I r h;obtain⟨ad,st,ds,d,st',S,hd,e,p⟩:=h;obtain⟨x,y,rfl,e1⟩:=U9 e;have e:=e1;obtain⟨v,w,rfl,hv,hw⟩:=Zij hd;unfold Zg6 at e;split at e
 ·cases e;cases hv;cases hw
  exact call_min2 hc pQ s σ H _ us Q I r ⟨_,_,rfl,p.at S (.int _)⟩
 ·exact Zb e
theorem Zcc(hc:X.calm=true):CallR X (.builtin "max") (rC X.K (on2 Zg4)):=by
 intro pQ s σ H xs us Q I r h;obtain⟨ad,st,ds,d,st',S,hd,e,p⟩:=h;obtain⟨x,y,rfl,e1⟩:=U9 e;have e:=e1;obtain⟨v,w,rfl,hv,hw⟩:=Zij hd;unfold Zg4 at e;split at e
 ·cases e;cases hv;cases hw
  exact call_max2 hc pQ s σ H _ us Q I r ⟨_,_,rfl,p.at S (.int _)⟩
 ·exact Zb e
noncomputable def tyN:Ty->String
 |.int => "int"
 |.bool => "bool"
 |.str => "str"
 |.tuple => "tuple"
noncomputable def ZeD:D->String
 |.int _ => "int"
 |.bl _ => "bool"
 |.str _ => "str"
 |.tup _ => "tuple"
 |.non => "NoneType"
 |_ => "list"
theorem ZeG(K:Fg){T:Ty}(h:ZgZ T d=some k):PySem.W.kitOne K (.type (ZeD d)) (.type (tyN T))=some k:=by
 cases d<;>first | (cases h;done) | (cases T<;>(cases h;rfl))
theorem ZlY{K:Fg}{v:V}{T:Ty}(h:ZgZ T d=some k)(hv:Den K ad H v d):TyOf K H v (.type (ZeD d))\/∃ a xs,v=.ref a/\SqT K H a xs/\ZeD d = "tuple":=by
 cases hv with
 |non=>exact .inl .non
 |bl b=>exact .inl (.bl b)
 |int i=>exact .inl (.int i)
 |str x=>exact .inl (.str x)
 |tup e r=>exact .inr ⟨_,_,rfl,e.sq,rfl⟩
 |lst e=>exact Zb h
 |dic _ _=>exact Zb h
 |obj _ _=>exact Zb h
 |kt _ _ _ _ _ _=>exact Zb h
theorem ZdC{T:Ty}:CallR X (.builtin "isinstance") (fun vs H Q=>∃ v,vs=[v,.ty (tyN T)]/\rC X.K (on1 (Zax T)) [v] H Q):=by
 intro pQ s σ H xs us Q I r h;obtain⟨v,rfl,ad,st,ds,d,st',S,hd,e,p⟩:=h;obtain⟨x,rfl,e1⟩:=YT e;have e:=e1;obtain⟨w,hw,hv⟩:=Vn hd;cases hw;unfold Zax at e;split at e
 ·rename_i k q
  cases e;cases r with
  |cons r1 r2=>
   cases r2 with
   |cons r3 r4=>
    cases r4;cases r3;rcases ZlY q hv with ty|⟨a,zs,rfl,sq,kd⟩
    ·exact isinst_ok I r1 ty (ZeG X.K q) fun tk=>⟨.bl k,H,I.tok _,rfl,p.at S (.bl k)⟩
    ·have kt:=ZeG X.K q
     rw[kd]at kt;cases r1;obtain⟨its,_,pp,_⟩:=I.tuple sq;obtain⟨o,h1,h2,_⟩:=pp;exact PySem.W.kia_one PySem.W.kitx_tuple I.kIn ⟨o,h1,h2⟩ kt (fun z=>nomatch z) fun tk=>⟨.bl k,H,I.tok _,rfl,p.at S (.bl k)⟩
 ·exact Zb e
end
variable{e:Expr}{p2 pos:Pos}
section
variable {X:Cx}
theorem JT(n:Nat):sliceRange ((n:Int) - 1) (-1) (-1)=(List.range n).map fun k=>n - 1 - k:=by
 unfold sliceRange;rw[if_neg (by omega)]
 have e:(if (n:Int) - 1 > -1 then ((n:Int) - 1 - -1 - -1 - 1) / (- -1) else 0).toNat=n:=by
  split
  ·have:((n:Int) - 1 - -1 - -1 - 1) / (- -1)=(n:Int):=by
    rw[show(- -1:Int)=1 by omega,Int.ediv_one];omega
   rw[this];simp
  ·have:n=0:=by omega
   subst this;rfl
 show List.map (fun(k:Nat)=>((n:Int) - 1+-1 * (k:Int)).toNat) (List.range (if (n:Int) - 1 > -1 then ((n:Int) - 1 - -1 - -1 - 1) / (- -1) else 0).toNat)=_
 rw[e];apply cK
 intro k hk;omega
theorem Zd6(its:Li vL):∀ (L:Li Nat),(∀ k∈L,k < its.length)->L.filterMap (its.toArray[·]?)=L.map fun k=>its.getD k .none
 |[],_=>rfl
 |k :: L,h=>by
  have hk:=h k (Ls ..);have e:its.toArray[k]?=some (its.getD k .none):=by
   rw[cL,cM,Lg hk];rfl
  rw[dL,e,aM,Zd6 its L fun k' h'=>h k' (Lm _ h')]
theorem Zfa(its:Li vL):slicePick its.toArray none none (some (-1))=its.reverse.toArray:=by
 unfold slicePick;have b:sliceBounds none none (some (-1)) its.toArray.size=((its.length:Int) - 1,-1,-1):=by
  simp[sliceBounds]
 rw[b];show((sliceRange ((its.length:Int) - 1) (-1) (-1)).filterMap (its.toArray[·]?)).toArray=_;rw[JT,Zd6 its _ (fun k hk=>by
  obtain⟨j,hj,rfl⟩:=aT.mp hk;have:=bM.mp hj;omega)]
 congr 1
 apply List.ext_getElem
 ·simp
 ·intro k h1 h2
  have hk:k < its.length:=by simpa using h1
  simp only[List.getElem_map,List.getElem_range,List.getElem_reverse];rw[cM,Lg (by omega)]
  rfl
def Znh(K:Fg):V->Hp->VK->Prop:=fun x H Q=>∃ a xs,x=.ref a/\SqL K H a xs/\∀ p,H p=none->Q (.ref p) (upd H p (.lst xs.reverse))
noncomputable def ZlR(K:Fg)(te ts:TE):TE:=fun σ H Q=>te σ H fun x H1=>ts σ H1 fun y H2=>y=.int (-1)/\Znh K x H2 Q
theorem J6:∀ {xs:Li V}{its:Li vL},Vals xs its->Vals xs.reverse its.reverse
 |_,_,.nil=>.nil
 |_,_,.cons a r=>by
  rw[cU,cU];exact(J6 r).append (.cons a .nil)
theorem Jl{K:Fg}{ad:Li Ad}{H:Hp}:∀ {xs:Li V}{ds:Li D},Dens K ad H xs ds->Dens K ad H xs.reverse ds.reverse
 |_,_,.nil=>.nil
 |_,_,.cons a r=>by
  rw[cU,cU];exact(Jl r).append (.cons a .nil)
theorem ZjP{es:Expr}{te ts:TE}(he:PE X e te)(hs:PE X es ts):PE X (.Subscript e (.Slice none none (some es) p2) pos) (ZlR X.K te ts):=by
 intro pQ s σ H Q I h;refine Subscript_ (thn (he pQ s σ H _ I h) fun v s1 ⟨x,H1,I1,r1,q1⟩=>?_)
 refine wpAny_Slice ?_;rw[evalPart_none];refine aE ?_;refine aE ?_;rw[evalPart_some];refine thn (hs pQ s1 σ H1 _ I1 q1) fun vs s3 ⟨y,H3,I3,r3,q3⟩=>?_
 obtain⟨rfl,a,xs,rfl,sq,q⟩:=q3;obtain⟨t,rfl⟩:=r3;cases r1;have I4:Inv X pQ σ H3 { s3 with heap:=s3.heap.push { cls:=.type "slice",data:=.fields #[.none,.none,.int (-1) t] } }:=I3.kept (t':=s3.toks) fun b ob q=>aL _ q
 obtain⟨its,r,ht,hz⟩:=I4.list sq;have hlen:=r.length;show wpAny (model X.prog X.w) X.A (subscriptTail e (.Slice none none (some es) p2) (.ref a) (.ref s3.heap.objs.size)) (EP X pQ σ Q) X.xe { s3 with heap:=s3.heap.push { cls:=.type "slice",data:=.fields #[.none,.none,.int (-1) t] } }
 refine tail_any (ops:=[.ref a,.ref s3.heap.objs.size]) ht.isList.typeIs slot_list_getitem.lookup ?_ (by with_unfolding_all rfl)
 refine wpAny_getItem_list_slice ht.isList (Heap.IsSliceOf.new ..) .none .none (.int (-1) t) (by simp) ?_ (by rw[aI]<;>omega)
 rw[Zfa];refine⟨.ref _,_,I4.laid (t':=s3.toks) (o:=.lst xs.reverse) (fun b ob q=>aL _ q) (aB _) ?_,rfl,q _ (I4.hok.fresh (aB _))⟩
 exact⟨by rw[List.length_reverse];exact hz,_,0,J6 r,aV _ rfl⟩
end
variable [ClsTab]
section
open PySem.SeqAt PySem.MeetsSeq PySem.MeetsSeq2 PySem.MeetsSeq3 PySem.SeqRoads2
open AutoSeq1 (wpAny_loadPart')
end
variable{dx dy:D}{n la lb:Nat}{op:CmpOp}
section
variable {X:Cx}
theorem Zes{ad:Li Ad}{H:Hp}{k:Str}:∀ {xs:Li V}{ds:Li D}{b:Bool},Dens X.K ad H xs ds->Y9 k ds=some b->xs.all flatV=true/\inV (.str k) xs=b
 |_,_,_,.nil,e=>by cases e;exact⟨rfl,rfl⟩
 |_,_,b,.cons (d:=d) h r,e=>by
  cases d with
  |str i=>
   cases h;unfold Y9 at e;cases q:Y9 k _ with
   |none=>rw[q]at e;cases e
   |some b'=>
    rw[q]at e;cases e;obtain⟨h1,h2⟩:=Zes r q;refine⟨by rw[bA,h1];rfl,?_⟩
    show((i==k)||inV (.str k) _)=(decide (i=k)||b');rw[h2]
    congr 1
  |_=>simp[Y9]at e
def CW(X:Cx)(pQ:Li (Ad×Obj))(σ:L2.St)(Q:VK)(s:Sd)(op:CmpOp)(v u:vL):Prop:=wpAny (model X.prog X.w) X.A (compareOp op v u) (EP X pQ σ Q) X.xe s
def CW2(X:Cx)(pQ:Li (Ad×Obj))(σ:L2.St)(Q:VK)(s:Sd)(H:Hp)(op op':CmpOp)(v u:vL)(k:Bool):Prop:=(Q (.bl k) H->CW X pQ σ Q s op v u)/\(Q (.bl (!k)) H->CW X pQ σ Q s op' v u)
noncomputable def vSc:Sc->V
 |.non=>.non
 |.bl b=>.bl b
 |.int i=>.int i
 |.str x=>.str x
theorem Den.vSc{K:Fg}{ad:Li Ad}{H:Hp}{x:V}{d:D}{a:Sc}(h:Den K ad H x d)(e:scD d=some a):x=vSc a:=by
 cases h<;>cases e<;>rfl
theorem Zgw{a b:Sc}(h:ZdY a b=some k):scal (vSc a) (vSc b)=true/\decide (vSc a=vSc b)=k:=by
 cases a<;>cases b<;>first
  | (cases h;done)
  | (cases h;exact⟨rfl,rfl⟩)
  | (cases h;exact⟨rfl,dec_bl⟩)
  | (cases h;exact⟨rfl,by simp[vSc]⟩)
inductive EqD(x y:V):D->D->Bool->Prop
 |sc {dx dy:D}{k:Bool} (h3:scal x y=true) (h4:decide (x=y)=k):EqD x y dx dy k
 |tup {xs ys:List D} (h:(okD 8 (.tup xs)&&okD 8 (.tup ys))=true):EqD x y (.tup xs) (.tup ys) (Z5 xs ys)
theorem Zgu{K:Fg}{x y:V}(hx:Den K ad H x dx)(hy:Den K ad H y dy)(e:eqD dx dy=some k):EqD x y dx dy k:=by
 unfold eqD at e;split at e
 ·unfold eqT at e
  split at e
  ·split at e
   ·rename_i hok
    cases e;exact .tup hok
   ·exact Zb e
  ·exact Zb e
 ·refine j_e e fun e=>Yf (P:=fun o=>o=some k->EqD x y dx dy k) e (fun a b h1 h2 h=>?_) rfl
  obtain⟨h3,h4⟩:=Zgw h;rw[<-hx.vSc h1,<-hy.vSc h2]at h3 h4;exact .sc h3 h4
theorem Zk5(hu:X.A.units+64 < cLine){x y:V}(I:Inv X pQ σ H s)(rx:RelV x v)(ry:RelV y u)(S:StOk X.K ad H st)(hx:Den X.K ad H x dx)(hy:Den X.K ad H y dy)(e:eqD dx dy=some k):CW2 X pQ σ Q s H .Eq .NotEq v u k:=by
 cases Zgu hx hy e with
 |sc h3 h4=>
  subst h4;exact⟨fun q=>op_eq pQ s σ H x y v u Q I rx ry ⟨h3,q⟩,fun q=>op_ne pQ s σ H x y v u Q I rx ry ⟨h3,q⟩⟩
 |tup hok=>
  rw[Ba]at hok;obtain⟨a,xs,rfl,ha,r1⟩:=hx.ofTup;obtain⟨b,ys,rfl,hb,r2⟩:=hy.ofTup;cases rx;cases ry
  obtain⟨g1,g2⟩:=Zhv (ad:=ad) (A:=X.A) I (n:=7) hok.1 hok.2 (by omega) ha r1 hb r2
  exact⟨fun q=>g1 X.prog X.w X.xe _ ⟨.bl _,H,I,rfl,q⟩,fun q=>g2 X.prog X.w X.xe _ ⟨.bl _,H,I,rfl,q⟩⟩
open PySem.SeqAt in
theorem Zhu(I:Inv X pQ σ H s){a b:Ad}{xs:Li V}{es:Li D}{its its':Li vL}(hx:Xu n ds=true)(hy:Xu n es=true)(hu:A.units+n+1 < cLine)(r:Dens X.K ad H xs ds)(r':Dens X.K ad H ys es)(rv:Vals xs its)(rv':Vals ys its')(p:s.heap.IsList a its.toArray)(p':s.heap.IsList b its'.toArray):RcAt A s (.ref a) (.ref b) (Z5 ds es)/\RcNeAt A s (.ref a) (.ref b) (!Z5 ds es):=by
 have e1:its.toArray.size=ds.length:=by rw[aI,<-rv.length,r.length]
 have e2:its'.toArray.size=es.length:=by rw[aI,<-rv'.length,r'.length]
 by_cases hl:ds.length=es.length
 ·have it:=fun j h1 h2=>Zay (a:=a) (b:=b) I hx hy hu r r' rv rv' j h1 h2
  have q:=RcAt.lists (A:=A) (s:=s) (e:=fun i=>ZX ((ds[i]?).getD .non) ((es[i]?).getD .non)) p p' (by omega) (by omega) it
  have q':=RcNeAt.lists (A:=A) (s:=s) (e:=fun i=>ZX ((ds[i]?).getD .non) ((es[i]?).getD .non)) p p' (by omega) (by omega) it
  rw[e1]at q q';rw[Xc,show min ds.length es.length=ds.length by omega,show(ds.length==es.length)=true by simpa using hl,Bool.and_true]
  exact⟨q,q'⟩
 ·have q:=RcAt.lists_lengths (A:=A) (s:=s) p p' (by rw[e1,e2];simpa using hl) (by omega)
  have q':=RcNeAt.lists_lengths (A:=A) (s:=s) p p' (by rw[e1,e2];simpa using hl) (by omega)
  rw[Xc,show(ds.length==es.length)=false by simpa using hl,Bool.and_false]
  exact⟨q,q'⟩
open PySem.SeqAt in
theorem Zmt(hu:X.A.units+64 < cLine){x y:V}{es:Li D}(I:Inv X pQ σ H s)(rx:RelV x v)(ry:RelV y u)(S:StOk X.K ad H st)(hx:Den X.K ad H x (.tup ds))(hy:Den X.K ad H y (.tup es))(e:ZbG st ds es=some k):CW2 X pQ σ Q s H .Eq .NotEq v u k:=by cases e
open PySem.SeqAt in
theorem Zbg{f:D->D->Bool}:∀ {xs ys:Li D}{j:Nat}{d e:D},Zap f xs ys=true->xs[j]?=some d->ys[j]?=some e->f d e=true
 |x :: xs,y :: ys,0,d,e,h,h1,h2=>by cases h1;cases h2;exact(bR.mp h).1
 |x :: xs,y :: ys,j+1,d,e,h,h1,h2=>Zbg (bR.mp h).2 (show xs[j]?=some d from h1) (show ys[j]?=some e from h2)
 |[],_,_,_,_,_,h1,_=>nomatch h1
 |_ :: _,[],_,_,_,h,_,_=>nomatch h
theorem Jk{f:D->D->Bool}:∀ {xs ys:Li D},Zap f xs ys=true->xs.length=ys.length
 |[],[],_=>rfl
 |x :: xs,y :: ys,h=>congrArg (·+1) (Jk (bR.mp h).2)
 |[],_ :: _,h=>nomatch h
 |_ :: _,[],h=>nomatch h
open PySem.SeqAt in
theorem Jq(I:Inv X pQ σ H s)(S:StOk X.K ad H st)(ih:∀ (d e:D) (A:Around) (vx vy:V) (ux uy:vL),dEq st n d e=true->A.units+n < cLine->Den X.K ad H vx d->Den X.K ad H vy e->RelV vx ux->RelV vy uy->EqAt A s ux uy true){a b:Ad}{A:Around}(h:dEq st (n+1) (.lst la) (.lst lb)=true)(hu:A.units+n+1 < cLine)(ha:LA ad H la a)(hb:LA ad H lb b):RcAt A s (.ref a) (.ref b) true/\RcNeAt A s (.ref a) (.ref b) false:=by
 have h:(match st[la]? with
  |some c=>(match st[lb]? with
   |some d=>Zap (dEq st n) c.2 d.2
   |none=>false)
  |none=>false)=true:=h
 split at h
 ·rename_i c q1
  split at h
  ·rename_i d q2
   obtain⟨vs,r1,s1⟩:=S.list ha (show st[la]?=some (c.1,c.2) from q1);obtain⟨ws,r2,s2⟩:=S.list hb (show st[lb]?=some (d.1,d.2) from q2);obtain⟨its,rv,p1,_⟩:=I.list s1;obtain⟨its',rv',p2,_⟩:=I.list s2;have l1:its.length=c.2.length:=by rw[<-rv.length,r1.length]
   have l2:its'.length=d.2.length:=by rw[<-rv'.length,r2.length]
   have lz:=Jk h;have hz:its.toArray.size=its'.toArray.size:=by rw[aI,aI];omega
   have it:∀ j (h1:j < its.toArray.size) (h2:j < its'.toArray.size),EqAt A.in1 s its.toArray[j] its'.toArray[j] true:=fun j h1 h2=>by
    rw[aI]at h1 h2;obtain⟨v1,e1,d1⟩:=r1.get (Lg (show j < c.2.length by omega))
    obtain⟨v2,e2,d2⟩:=r2.get (Lg (show j < d.2.length by omega))
    obtain⟨u1,f1,g1⟩:=rv.get e1;obtain⟨u2,f2,g2⟩:=rv'.get e2;rw[Lg h1]at f1;rw[Lg h2]at f2;cases f1;cases f2
    exact ih _ _ A.in1 v1 v2 _ _ (Zbg h (Lg _) (Lg _)) (by show A.units+1+n < cLine;omega) d1 d2 g1 g2
   have al:((List.range its.toArray.size).all fun _=>true)=true:=by simp
   have g1:=RcAt.lists (A:=A) (s:=s) (e:=fun _=>true) p1.isList p2.isList hz (by omega) it
   have g2:=RcNeAt.lists (A:=A) (s:=s) (e:=fun _=>true) p1.isList p2.isList hz (by omega) it
   rw[al]at g1 g2;exact⟨g1,g2⟩
  ·cases h
 ·cases h
open PySem.SeqAt in
theorem Zi9(I:Inv X pQ σ H s)(S:StOk X.K ad H st):∀ (n:Nat) (d e:D) (A:Around) (vx vy:V) (ux uy:vL),dEq st n d e=true->A.units+n < cLine->Den X.K ad H vx d->Den X.K ad H vy e->RelV vx ux->RelV vy uy->EqAt A s ux uy true:=by
 have str:∀ {x y:Str}{A:Around}{vx vy:V}{ux uy:vL},decide (x=y)=true->Den X.K ad H vx (.str x)->Den X.K ad H vy (.str y)->RelV vx ux->RelV vy uy->EqAt A s ux uy true:=fun {x y A vx vy ux uy} h hx hy rx ry=>by
  have e:=of_decide_eq_true h;subst e;cases hx;cases hy
  obtain⟨t,rfl⟩:=rx;obtain⟨t',rfl⟩:=ry;have g:=EqAt.str_str (A:=A) (s:=s) x t x t';rw[beq_self_eq_true]at g;exact g
 intro n
 induction n with
 |zero=>
  intro d e A vx vy ux uy h hu hx hy rx ry;unfold dEq at h;split at h
  ·exact str h hx hy rx ry
  ·rename_i z;cases z
  ·cases h
 |succ n ih=>
  intro d e A vx vy ux uy h hu hx hy rx ry;have h0:=h;unfold dEq at h;split at h
  ·exact str h hx hy rx ry
  ·rename_i m la lb z
   cases z;obtain⟨a,rfl,ha⟩:=hx.ofLst;obtain⟨b,rfl,hb⟩:=hy.ofLst;cases rx;cases ry
   by_cases hab:a=b
   ·subst hab;exact EqAt.same _
   ·exact EqAt.of_refs hab (Jq I S ih h0 (by omega) ha hb).1
  ·cases h
open PySem.SeqAt in
theorem Zgx{a b:Ad}(I:Inv X pQ σ H s)(S:StOk X.K ad H st)(h:dEq st 8 (.lst la) (.lst lb)=true)(hu:A.units+8 < cLine)(ha:LA ad H la a)(hb:LA ad H lb b):RcAt A s (.ref a) (.ref b) true/\RcNeAt A s (.ref a) (.ref b) false:=
 Jq (n:=7) I S (Zi9 I S 7) h (by omega) ha hb
theorem Zk6(hu:X.A.units+64 < cLine){x y:V}(I:Inv X pQ σ H s)(rx:RelV x v)(ry:RelV y u)(S:StOk X.K ad H st)(hx:Den X.K ad H x dx)(hy:Den X.K ad H y dy)(e:eqS st dx dy=some k):CW2 X pQ σ Q s H .Eq .NotEq v u k:=by
 have sc:scal x y=true->(decide (x=y))=k->CW2 X pQ σ Q s H .Eq .NotEq v u k:=fun h1 h2=>by
  subst h2;exact⟨fun q=>op_eq pQ s σ H x y v u Q I rx ry ⟨h1,q⟩,fun q=>op_ne pQ s σ H x y v u Q I rx ry ⟨h1,q⟩⟩
 unfold eqS at e;split at e
 ·unfold Zct at e
  split at e
  case h_2=>exact Zb e
  obtain⟨a,rfl,ha⟩:=hx.ofLst;obtain⟨b,rfl,hb⟩:=hy.ofLst;cases rx;cases ry
  have two:∀ {ba bb:Bool}{xs ys:Li D},st[_]?=some (ba,xs)->st[_]?=some (bb,ys)->(xs=[]\/ys=[])->(xs.isEmpty&&ys.isEmpty)=k->CW2 X pQ σ Q s H .Eq .NotEq (.ref a) (.ref b) k:=fun {ba bb xs ys} q1 q2 hz hk=>by
   obtain⟨vs,r1,s1⟩:=S.list ha q1;obtain⟨ws,r2,s2⟩:=S.list hb q2;obtain⟨its,rv,p1,_⟩:=I.list s1;obtain⟨its',rv',p2,_⟩:=I.list s2;have l1:its.toArray.size=xs.length:=by rw[aI,<-rv.length,r1.length]
   have l2:its'.toArray.size=ys.length:=by rw[aI,<-rv'.length,r2.length]
   by_cases hl:xs.length=ys.length
   ·have z1:xs=[]:=by
     rcases hz with z|z
     ·exact z
     ·rw[z]at hl;exact dR.mp hl
    have z2:ys=[]:=by rw[z1]at hl;exact dR.mp hl.symm
    subst z1 z2;cases hk;have f:its=[]:=dR.mp (by simpa using l1)
    have f':its'=[]:=dR.mp (by simpa using l2)
    subst f f';refine⟨fun q=>SeqAt.RcAt.lists (e:=fun _=>true) p1.isList p2.isList rfl (by omega) (fun j h1 _=>absurd h1 (by simp)) X.prog X.w X.xe _ ⟨.bl true,H,I,rfl,q⟩,fun q=>SeqAt.RcNeAt.lists (e:=fun _=>true) p1.isList p2.isList rfl (by omega) (fun j h1 _=>absurd h1 (by simp)) X.prog X.w X.xe _ ⟨.bl false,H,I,rfl,q⟩⟩
   ·have hk':k=false:=by
     rw[<-hk];rcases hz with z|z
     ·subst z
      cases ys with
      |nil=>exact absurd rfl hl
      |cons _ _=>rfl
     ·subst z
      cases xs with
      |nil=>exact absurd rfl hl
      |cons _ _=>rfl
    subst hk';have hne:(its.toArray.size != its'.toArray.size)=true:=by rw[l1,l2];simpa using hl
    exact⟨fun q=>SeqAt.RcAt.lists_lengths p1.isList p2.isList hne (by omega) X.prog X.w X.xe _ ⟨.bl false,H,I,rfl,q⟩,fun q=>SeqAt.RcNeAt.lists_lengths p1.isList p2.isList hne (by omega) X.prog X.w X.xe _ ⟨.bl true,H,I,rfl,q⟩⟩
  split at e
  case h_2=>
   split at e
   ·rename_i hd
    cases e;obtain⟨g1,g2⟩:=Zgx (A:=X.A) I S hd (by omega) ha hb
    exact⟨fun q=>g1 X.prog X.w X.xe _ ⟨.bl true,H,I,rfl,q⟩,fun q=>g2 X.prog X.w X.xe _ ⟨.bl false,H,I,rfl,q⟩⟩
   ·exact Zb e
  rename_i k' hj;cases e;refine j_e hj fun e=>Yf (P:=fun o=>o=some k->CW2 X pQ σ Q s H .Eq .NotEq (.ref a) (.ref b) k) e (fun c d q1 q2 e=>?_) rfl
  obtain⟨c1,c2⟩:=c;obtain⟨d1,d2⟩:=d;unfold Qv at e;split at e
  ·rename_i hz
   cases e;rw[cB]at hz;exact two q1 q2 (hz.imp List.isEmpty_iff.mp List.isEmpty_iff.mp) rfl
  ·split at e
   ·rename_i hok
    cases e;rw[Ba]at hok;obtain⟨vs,r1,s1⟩:=S.list ha q1;obtain⟨ws,r2,s2⟩:=S.list hb q2;obtain⟨its,rv,p1,_⟩:=I.list s1;obtain⟨its',rv',p2,_⟩:=I.list s2;obtain⟨g1,g2⟩:=Zhu (ad:=ad) (A:=X.A) I hok.1 hok.2 (by omega) r1 r2 rv rv' p1.isList p2.isList
    exact⟨fun q=>g1 X.prog X.w X.xe _ ⟨.bl _,H,I,rfl,q⟩,fun q=>g2 X.prog X.w X.xe _ ⟨.bl _,H,I,rfl,q⟩⟩
   ·exact Zb e
 ·unfold Zk4 at e
  split at e
  ·split at e
   ·rename_i k' q
    cases e;exact Zk5 hu I rx ry S hx hy (show eqD (.tup _) (.tup _)=some _ from q)
   ·exact Zmt hu I rx ry S hx hy e
  ·exact Zb e
 ·exact Zk5 hu I rx ry S hx hy e
open Classical in
noncomputable def Zno(K:Fg)(ad:Li Ad)(H:Hp)(d:D)(u:vL):Bool:=decide (∃ y e,RelV y u/\Den K ad H y e/\okD 8 e=true/\ZX e d=true)
section
variable {pQ:Li (Ad×Obj)}{s:Sd}{σ:L2.St}{H:Hp}{x y:V}{v u:vL}{Q:VK}{ad:Li Ad}{st:Za}{dx dy:D}{k:Bool}
theorem Zet{a:Ad}{xs:Li V}(I:Inv X pQ σ H s)(rx:RelV x v)(ry:RelV y u)(ey:y=.ref a)(sq:SqL X.K H a xs\/SqT X.K H a xs)(fx:flatV x=true)(h:xs.all flatV=true/\inV x xs=k):CW2 X pQ σ Q s H .In .NotIn v u k:=by
 obtain⟨h1,h2⟩:=h;subst h2;exact⟨fun pk=>op_in_seq pQ s σ H _ _ v u Q I rx ry ⟨a,xs,ey,sq,fx,h1,pk⟩,fun pk=>op_notIn_seq pQ s σ H _ _ v u Q I rx ry ⟨a,xs,ey,sq,fx,h1,pk⟩⟩
omit [ClsTab] in
theorem Zip(k:Str):∀ ks:Li Str,(ks.map V.str).all flatV=true/\inV (.str k) (ks.map V.str)=ks.contains k
 |[]=>⟨rfl,rfl⟩
 |a :: ks=>by
  obtain⟨h1,h2⟩:=Zip k ks;refine⟨by rw[aM,bA,h1];rfl,?_⟩
  unfold inV at h2 ⊢
  rw[aM,cF,h2,List.contains_cons]
  congr 1
  show decide (a=k)=(k==a);by_cases e:a=k
  ·subst e;rw[aK rfl,beq_self_eq_true]
  ·rw[aO e,bV.mpr fun z=>e z.symm]
def InW(X:Cx)(pQ:Li (Ad×Obj))(σ:L2.St)(Q:VK)(s:Sd)(H:Hp)(v u:vL)(dy:D)(k:Bool):Prop:=(Q (.bl k) H->CW X pQ σ Q s .In v u)/\((∀ ks vs,dy≠.dct ks vs)->Q (.bl (!k)) H->CW X pQ σ Q s .NotIn v u)
theorem CW2.inW(h:CW2 X pQ σ Q s H .In .NotIn v u k):InW X pQ σ Q s H v u dy k:=⟨h.1,fun _=>h.2⟩
theorem Zld(hu:X.A.units+64 < cLine)(I:Inv X pQ σ H s)(rx:RelV x v)(ry:RelV y u)(S:StOk X.K ad H st)(hx:Den X.K ad H x dx)(hy:Den X.K ad H y dy)(q:inS st dx dy=some k):InW X pQ σ Q s H v u dy k:=by
 unfold inS at q;split at q
 ·obtain⟨a,xs,e,ha,r⟩:=hy.ofTup
  cases hx;exact(Zet I rx ry e (.inr ha.sq) rfl (Zes r q)).inW
 ·obtain⟨o,q2,rfl⟩:=cV.mp q
  obtain⟨bb,es,q0,ob,rfl⟩:=ZdT q2;obtain⟨a,rfl,ha,hn⟩:=hy.ofDic;obtain⟨kvs,r,hk,_⟩:=S.dict ha hn q0 ob;cases hx.ofStr;cases ry
  have z:=ni_dct (X:=X) (Q:=Q) (k:=Sum.inr _) I hk rx;rw[Zcr r]at z;exact⟨z.1,fun _=>z.2⟩
 ·cases q
  obtain⟨a,o,its,n,rfl,h1,h2,h3,h4,h5⟩:=hy.ofKt;cases hx;exact(Zet I rx ry rfl (.inr (.inr ⟨o,its,n,h1,h2.1,h3,h4,h5⟩)) rfl (Zip _ _)).inW
 ·cases hx;cases hy;cases q
  exact⟨fun pk=>op_in_str pQ s σ H _ _ v u Q I rx ry ⟨_,_,rfl,rfl,pk⟩,fun _ pk=>op_notIn_str pQ s σ H _ _ v u Q I rx ry ⟨_,_,rfl,rfl,pk⟩⟩
 ·cases q
theorem ZgY(hx:Den X.K ad H x dx)(q:isN dx=some k):decide (x=V.non)=k:=by
 cases hx<;>cases q<;>rfl
theorem Zlf(I:Inv X pQ σ H s)(rx:RelV x v)(ry:RelV y u)(hx:Den X.K ad H x dx)(hy:Den X.K ad H y dy)(q:isD dx dy=some k):CW2 X pQ σ Q s H .Is .IsNot v u k:=by
 unfold isD at q;split at q
 ·cases hy
  have z:=ZgY hx q;subst z;exact⟨fun pk=>op_isN pQ s σ H _ _ v u Q I rx ry ⟨rfl,pk⟩,fun pk=>op_notN pQ s σ H _ _ v u Q I rx ry ⟨rfl,pk⟩⟩
 ·unfold isB at q
  split at q
  ·cases q
   cases hx;cases hy
   cases rx;cases ry
   have e:∀ a b:Bool,(Value.bool a==Value.bool b)=(a==b):=fun a b=>by cases a<;>cases b<;>rfl
   exact⟨fun pk=>wpAny_is_plain rfl (by rw[e];exact⟨.bl _,H,I,rfl,pk⟩),fun pk=>wpAny_isNot_plain rfl (by rw[e];exact⟨.bl _,H,I,rfl,pk⟩)⟩
  ·cases q
 ·cases q
theorem VD{f:Int->Int->Bool}(hx:Den X.K ad H x dx)(hy:Den X.K ad H y dy)(q:ZaH f dx dy=some k):∃ i j,x=.int i/\y=.int j/\f i j=k:=by
 unfold ZaH at q;split at q
 ·cases q;cases hx;cases hy;exact⟨_,_,rfl,rfl,rfl⟩
 ·exact Zb q
theorem ZmI(hu:X.A.units+64 < cLine)(I:Inv X pQ σ H s)(rx:RelV x v)(ry:RelV y u)(S:StOk X.K ad H st)(hx:Den X.K ad H x dx)(hy:Den X.K ad H y dy)(q:ltS st dx dy=some k)(pk:Q (.bl k) H):CW X pQ σ Q s .Lt v u:=by
   have q:ltD dx dy=some k:=q;obtain⟨i,j,rfl,rfl,z⟩:=VD hx hy q;exact op_lt pQ s σ H _ _ v u Q I rx ry ⟨_,_,rfl,rfl,by cases z;exact pk⟩
theorem QN{o:Ot Bool}(q:o.map not=some k):o=some (!k):=by
 cases o with
 |none=>exact Zb q
 |some k'=>cases q;rw[Bool.not_not]
theorem ZeQ{op':CmpOp}(h:CW2 X pQ σ Q s H op op' v u (!k))(pk:Q (.bl k) H):CW X pQ σ Q s op' v u:=h.2 (by rw[Bool.not_not];exact pk)
end
theorem Wb(hu:X.A.units+64 < cLine):OpR X (compareOp op) (rD X.K (XL op)):=by
 intro pQ s σ H x y v u Q I rx ry h;obtain⟨ad,st,dx,dy,d,st',S,hx,hy,e,p⟩:=h
 change CW X pQ σ Q s op v u;unfold XL at e;cases q:Wj op dx dy st with
 |none=>rw[q]at e;cases e
 |some k=>
  rw[q]at e;cases e;have pk:=p.at S (.bl k);clear p;cases op with
  |Lt=>exact ZmI hu I rx ry S hx hy q pk
  |LtE=>
   obtain⟨i,j,rfl,rfl,z⟩:=VD hx hy q;exact op_le pQ s σ H _ _ v u Q I rx ry ⟨_,_,rfl,rfl,by cases z;exact pk⟩
  |Gt=>
   obtain⟨i,j,rfl,rfl,z⟩:=VD hx hy q;exact op_gt pQ s σ H _ _ v u Q I rx ry ⟨_,_,rfl,rfl,by cases z;exact pk⟩
  |GtE=>
   obtain⟨i,j,rfl,rfl,z⟩:=VD hx hy q;exact op_ge pQ s σ H _ _ v u Q I rx ry ⟨_,_,rfl,rfl,by cases z;exact pk⟩
  |Eq=>exact(Zk6 hu I rx ry S hx hy q).1 pk
  |NotEq=>exact ZeQ (Zk6 hu I rx ry S hx hy (QN q)) pk
  |In=>exact(Zld hu I rx ry S hx hy q).1 pk
  |NotIn=>
   have q:niS st dx dy=some k:=q;unfold niS at q;split at q
   ·exact Zb q
   ·rename_i hn
    exact(Zld hu I rx ry S hx hy (QN q)).2 hn (by rw[Bool.not_not];exact pk)
  |Is=>exact(Zlf I rx ry hx hy q).1 pk
  |IsNot=>exact ZeQ (Zlf I rx ry hx hy (QN q)) pk
end
variable [ClsTab]
noncomputable def Zq:Expr->Bool
 |.Starred ..=>false
 |.Set ..=>false
 |.Slice ..=>false
 |_=>true
variable{sc:Scope}{N:Li Str}{c:CE}
theorem Zj{G:Gs}(h:cE G n sc N e=some c):Zq e=true:=by
 cases n with
 |zero=>exact nomatch (show(none:Ot CE)=some c from h)
 |succ n=>cases e<;>first|rfl|exact nomatch (show(none:Ot CE)=some c from h)
variable{env:PySem.Env}
theorem Zi{es:Li Expr}(h:Zq e=true):starEach (e :: es) env=(false,eval e env) :: starEach es env:=by
 cases e<;>first|rfl|cases h
theorem YH{b:Expr}(h:Zq b=true):behindInMarks op b=false:=by
 cases b<;>first|rfl|cases h
theorem JA{b:Expr}(h:Zq b=true):PlainIx b:=by
 cases b<;>first | (intro o i;rfl)|cases h
theorem Xb{pos:Pos}{env:PySem.Env}:∀ {es:Li Expr},es.all Zq=true->(backTo pos (starEach es env)).any (·.1)=false
 |[],_=>rfl
 |e :: es,h=>by
  rw[bA,Ba]at h;rw[Zi h.1];show(false||(backTo pos (starEach es env)).any (·.1))=false;rw[Xb h.2];rfl
inductive EsOk(Pm:Params)(K:Fg):List DictEntry->List Str->List D->Prop where
 |nil:EsOk Pm K [] [] []
 |cons {e:DictEntry}{es:List DictEntry}{k:Str}{ks:List Str}{d:D}{ds:List D}{v:V}{t:Tok} (h1:e.hash=PyData.keyHash Pm k) (h2:e.key=.str k t) (h3:RelV v e.val) (h4:∀ ad H,Den K ad H v d) (r:EsOk Pm K es ks ds):EsOk Pm K (e :: es) (k :: ks) (d :: ds)
def Za1(Pm:Params)(K:Fg)(mg:Str->Ot vL)(x:Str)(ks:Li Str)(ds:Li D):Prop:=
 ∃ A o es ep,mg x=some (.ref A)/\K.lookup A=some o/\o.ExactDict/\o.data=.dict es ep/\(A==sysModules)=false/\ks.Nodup/\EsOk Pm K es.toList ks ds
theorem EsOk.open{P:Program}{K:Fg}:∀ {es:Li DictEntry}{ks:Li Str}{ds:Li D},EsOk w.params K es ks ds->∃ kvs:Li (Key×vL),Pairs (mixKind P w) es kvs/\kvs.map (·.1)=ks.map Sum.inr/\(∀ e∈es,∃ k,(mixKind P w).is k e.key=true/\e.hash=(mixKind P w).hash k) /\
  ∀ k d,ZW ks ds k=some d->∃ u v,valueAt kvs (Sum.inr k)=some u/\RelV v u/\∀ ad H,Den K ad H v d
 |_,_,_,.nil=>⟨[],.nil,rfl,(fun _ h=>nomatch h),fun k d h=>by simp[ZW]at h⟩
 |e :: es,k0 :: ks,d0 :: ds,.cons (v:=v) (t:=t) h1 h2 h3 h4 r=>by
  obtain⟨kvs,a1,a2,a3,a4⟩:=EsOk.open (P:=P) r;have hk:(mixKind P w).is (Sum.inr k0) e.key=true:=by rw[h2];exact mixKind_str P w k0 t
  refine⟨(Sum.inr k0,e.val) :: kvs,.cons hk rfl a1,by rw[aM,aM,a2],fun x hx=>?_,fun k d h=>?_⟩
  ·rcases aJ.mp hx with rfl|hx
   ·exact⟨Sum.inr k0,hk,h1⟩
   ·exact a3 x hx
  ·unfold valueAt
   by_cases c:k0=k
   ·subst c
    have h:ZW (k0 :: ks) (d0 :: ds) k0=some d:=h;simp only[ZW,if_pos]at h;cases h;exact⟨e.val,v,by simp,h3,h4⟩
   ·have h:ZW ks ds k=some d:=by
     simp only[ZW,if_neg c]at h;exact h
    obtain⟨u,v',b1,b2,b3⟩:=a4 k d h;refine⟨u,v',?_,b2,b3⟩;have nk:¬(Sum.inr k0:Key)=Sum.inr k:=fun z=>c (Sum.inr.inj z)
    rw[cQ (by simpa using nk)]
    exact b1
structure NewOk(K:Fg)(C:Addr):Prop where
 makes:PySem.W.makesIn K C=true
 kp:PySem.W.keepIn K (.ref C)=true
 oc:ObC K C
def GOk(P:Program)(w:World)(K:Fg)(mg:Str->Ot vL)(base:Heap)(A:Around)(F:Nat->Fn)(x:Str):GV->Prop
 |.cst d=>∃ v u,mg x=some u/\RelV v u/\∀ ad H,Den K ad H v d
 |.blt=>mg x=none
 |.dct ks ds=>Za1 w.params K mg x ks ds
 |.cls i ms subs=>mg x=some (.ref (ClsTab.ca i))/\NewOk K (ClsTab.ca i) /\
   ∀ m j ps,ms.lookup m=some (j,ps)->∃ (k:Nat) (f:Ad) (fd:FuncData) (pn:Li Str),FnOk P w K mg base CX0 k f fd pn (spD K (F j))/\Room (k+1) A/\Meth K (ClsTab.ca i) m f/\Binds K fd pn []
 |.fn i ps ds=>∃ (k:Nat) (f:Ad) (fd:FuncData) (pn:Li Str),FnOk P w K mg base CX0 k f fd pn (spD K (F i))/\Room k A/\mg x=some (.ref f)/\PySem.W.keepIn K (.ref f)=true /\
   ∀ m,m<=ds.length->∃ dvs us,(∀ ad H,Dens K ad H dvs (ds.drop m))/\Vals dvs us/\Binds K fd pn us
structure Cxt(X:Cx)(G:Gs)(F:Nat->Fn)(sc:Scope)(N:List Str):Prop where
 hN:X.N=N
 vis:∀ x,Wq sc x=true->Vis X.env.scope x
 glb:∀ x,ZN sc x=true->Gl X x
 calm:X.calm=true
 hu:X.A.units+64 < cLine
 gl:∀ x g,G.lookup x=some g->GOk X.prog X.w X.K X.mg X.base X.A F x g
 cel:∀ x,Ud sc x=true->X.env.scope.names.lookup x=some .cell\/X.env.scope.names.lookup x=some .free
 nx:X.xe=fun _ _=>False
theorem Ww{x:Str}(h:N.idxOf? x=some i):N[i]?=some x:=by
 unfold List.idxOf? at h
 rw[List.findIdx?_eq_some_iff_getElem]at h;obtain⟨hi,h1,_⟩:=h;rw[Lg hi];rw[beq_iff_eq.mp h1]
theorem QJ{x:Str}(h:Wq sc x=true):(x==("__debug__":Str))=false/\(x==("__classdict__":Str))=false:=by
 unfold Wq at h;rw[Ba,Ba,cT,cT]at h;exact h.1
theorem Xg{x:Str}(h:ZN sc x=true):(x==("__debug__":Str))=false:=by
 unfold ZN at h;rw[Ba,cT]at h;exact h.1
variable{fc fa fb:Ev}{ρ:Env}{st':Za}
section
variable {X:Cx}{F:Nat->Fn}
theorem ZlG{f:Ev}(h:PE X e (tE X.K f))(he:∀ whole,isTrue e X.env whole=(do let v <-whole;standAt e.pos;holding [v] (truthy v)):=by intro _;rfl):PT X e (tT X.K f):=Wz (pt_val h he) QD
theorem ZjT{c a b:Expr}(hc:PT X c (tT X.K fc))(ha:PT X a (tT X.K fa))(hb:PT X b (tT X.K fb)):PT X (.IfExp c a b pos) (tT X.K (YG fc fa fb)):=by
 intro pQ s σ H Q I h;obtain⟨ad,ρ,st,d,st',E,S,e,p⟩:=h;obtain⟨k,st1,q,e⟩:=Yi e;show wpAny _ _ (isTrue c X.env (eval c X.env) >>= fun t=>if t then isTrue a X.env (eval a X.env) else isTrue b X.env (eval b X.env)) _ _ s
 refine aA (thn (hc pQ s σ H (fun k' H1=>k'=k/\∃ ad1,Ext ad H ad1 H1/\StOk X.K ad1 H1 st1) I ⟨ad,ρ,st,k,st1,E,S,q,fun ad1 H1 x1 S1=>⟨rfl,ad1,x1,S1⟩⟩) fun t s1 ⟨H1,I1,et,ad1,x1,S1⟩=>?_)
 subst et;cases t with
 |true=>
  rw[if_pos rfl]at e ⊢;exact ha pQ s1 σ H1 Q I1 ⟨ad1,ρ,st1,d,st',E.mono x1,S1,e,fun ad2 H2 x2 S2=>p ad2 H2 (x1.trans x2) S2⟩
 |false=>
  rw[if_neg Bf]at e ⊢;exact hb pQ s1 σ H1 Q I1 ⟨ad1,ρ,st1,d,st',E.mono x1,S1,e,fun ad2 H2 x2 S2=>p ad2 H2 (x1.trans x2) S2⟩
def Zac:CE->Prop
 |.aN=>True
 |.aC _ _=>True
 |_=>False
theorem Qo(h:Zac c)(e:ev F c ρ st=some (d,st')):∃ ds,d=.tup ds/\ds.length<=1000:=by
 cases c with
 |aN=>cases e;exact⟨[],rfl,by decide⟩
 |aC a r=>
  have e:ZV (ev F a) (ev F r) WG ρ st=some (d,st'):=e;unfold ZV at e;split at e
  ·split at e
   ·rename_i y st2 _
    cases y with
    |tup zs=>
     have e:(if zs.length < 1000 then some (D.tup (_ :: zs),st2) else none)=some (d,st'):=e
     split at e
     ·rename_i hz
      cases e;exact⟨_,rfl,hz⟩
     ·exact Zb e
    |_=>simp[WG]at e
   ·exact Zb e
  ·exact Zb e
 |_=>exact False.elim h
structure SE(X:Cx)(F:Nat->Fn)(e:Expr)(c:CE):Prop where
 pe:PE X e (tE X.K (ev F c))
 pt:PT X e (tT X.K (ev F c))
theorem SE.of(h:PE X e (tE X.K (ev F c)))(he:∀ whole,isTrue e X.env whole=(do let v <-whole;standAt e.pos;holding [v] (truthy v)):=by intro _;rfl):SE X F e c:=⟨h,ZlG h he⟩
theorem JS{op:BoolOp}{es:Li Expr}{t:TT}(h:PT X (.BoolOp op es pos) t):PW X (.BoolOp op es pos) t:=fun _ pQ s σ H Q I q=>h pQ s σ H Q I q
end
variable [ClsTab]
theorem Jd:bootBuiltins "tuple"=some (.type "tuple"):=by decide +kernel
theorem Zdt:bootBuiltins "int"=some (.type "int"):=by decide +kernel
theorem Zf7:bootBuiltins "bool"=some (.type "bool"):=by decide +kernel
theorem Zdu:bootBuiltins "str"=some (.type "str"):=by decide +kernel
theorem Zi2:bootBuiltins "min"=some (.builtin "min"):=by decide +kernel
theorem Zi1:bootBuiltins "max"=some (.builtin "max"):=by decide +kernel
theorem UB:bootBuiltins "isinstance"=some (.builtin "isinstance"):=by decide +kernel
theorem ZiZ:bootBuiltins "all"=some (.builtin "all"):=by decide +kernel
theorem Zi0:bootBuiltins "len"=some (.builtin "len"):=by decide +kernel
variable{X:Cx}{f m:Str}{as:Li Expr}{cs:CE}{es:Array DictEntry}{ep j:Nat}{ks:Li Str}{o:Expr}{yp ap cp:Pos}
section
variable {G:Gs}{F:Nat->Fn}
def ZC(G:Gs)(F:Nat->Fn)(n:Nat):Prop:=∀ X sc N,Cxt X G F sc N->∀ e c,cE G n sc N e=some c->SE X F e c
def Y6(G:Gs)(F:Nat->Fn)(n:Nat):Prop:=∀ X sc N,Cxt X G F sc N->∀ es c,cEs G n sc N es=some c->PA X es (tA X.K (ev F c))/\Zac c/\es.all Zq=true/\(es=[]->c=.aN)
def Qm(G:Gs)(F:Nat->Fn)(n:Nat):Prop:=∀ X sc N,Cxt X G F sc N->∀ e c,cO G n sc N e=some c->PO X e (tO X.K (ev F c))

theorem Zft{v:Const}{k:Nat}(h:CE.ofConst v=some c):SE X F (.Constant v k pos) c:=by
 cases v with
 |none=>cases h;exact .of (Zu pe_non (Jw fun _ _=>.non))
 |bool b=>cases h;exact .of (Zu pe_bl (Jw fun _ _=>.bl b))
 |int i=>cases h;exact .of (Zu pe_int (Jw fun _ _=>.int i))
 |str x=>cases h;exact .of (Zu pe_str (Jw fun _ _=>.str x))
 |_=>exact Zb h
theorem ZhI{x:Str}(K:Cxt X G F sc N)(h:ZeN G sc N x=some c):SE X F (.Name x pos) c:=by
 unfold ZeN at h;split at h
 ·rename_i hl
  cases q:N.idxOf? x with
  |none=>rw[q]at h;cases h
  |some i=>
   rw[q]at h;cases h;obtain⟨h1,h2⟩:=QJ hl;exact .of (Zu (pe_var (i:=i) (by rw[K.hN];exact Ww q) (K.vis x hl) h1 h2) ZgT)
 ·split at h
  ·rename_i hg
   split at h
   ·rename_i d q
    cases h;obtain⟨v,u,hm,r,hd⟩:=K.gl x _ q;exact .of (Zu (pe_glob (K.glb x hg) hm r (Xg hg)) (Jw hd))
   ·exact Zb h
  ·exact Zb h
theorem pa1{a:Expr}{t:TE}(hp:Zq a=true)(ha:PE X a t):PA X [a] (tCons t tNil):=pa_cons ha pa_nil (Zi hp)
theorem pa2{a b:Expr}{t u:TE}(hp:Zq a=true)(hq:Zq b=true)(ha:PE X a t)(hb:PE X b u):PA X [a,b] (tCons t (tCons u tNil)):=pa_cons ha (pa1 hq hb) (Zi hp)
theorem ZhA{a:Expr}{x:CE}{p:Pos}(K:Cxt X G F sc N)(hg:ZN sc f=true)(hm:X.mg f=none)(hp:Zq a=true)(A:PE X a (tE X.K (ev F x)))(h:ZiX f x=some c) :
  PE X (.Call (.Name f p) [a] [] pos) (tE X.K (ev F c)):=by 
 have hG:=K.glb f hg;unfold ZiX at h;split at h
 ·rename_i e;subst e;cases h
  exact Zu (pe_callB Zcb hG hm Zi0 (pa1 hp A) (by decide) (by decide) (Zi hp) rfl) XU
 ·split at h
  ·rename_i e;subst e;cases h
   exact Zu (pe_callTy Jh hG hm Jd (pa1 hp A) (by decide) (by decide) (Zi hp) rfl) XU
  ·split at h
   ·rename_i e;subst e;cases h
    exact Zu (pe_callTy Zb9 hG hm Zdt (pa1 hp A) (by decide) (by decide) (Zi hp) rfl) XU
   ·split at h
    ·rename_i e;subst e;cases h
     exact Zu (pe_callB (Zfl ZkP K.calm) hG hm ZiZ (pa1 hp A) (by decide) (by decide) (Zi hp) rfl) XU
    ·split at h
     ·rename_i e;subst e;cases h
      exact Zu (pe_callTy Zce hG hm Zdu (pa1 hp A) (by decide) (by decide) (Zi hp) rfl) XU
     ·exact Zb h
theorem Qe{y:CE}(h:Zav y=true)(e:ev F y ρ st=some (d,st')):st'=st:=by
 unfold Zav at h;split at h
 ·rename_i i j
  have e:ZV (Xe i) (evC (.int j)) ixR ρ st=some (d,st'):=e;unfold ZV at e;split at e
  ·rename_i x st1 q1
   unfold Xe at q1;split at q1
   ·cases q1
    have e:ixR x (.int j) st=some (d,st'):=e;unfold ixR at e;split at e
    ·cases e;rfl
    ·exact Zb e
   ·cases q1
  ·exact Zb e
 ·have e:Xe _ ρ st=some (d,st'):=e
  unfold Xe at e;split at e
  ·cases e;rfl
  ·exact Zb e
 ·rename_i i
  have e:ZJ (Xe i) Wl ρ st=some (d,st'):=e;unfold ZJ at e;split at e
  ·rename_i x st1 q1
   unfold Xe at q1;split at q1
   ·cases q1
    unfold Wl at e;split at e
    ·cases e;rfl
    ·exact Zb e
   ·cases q1
  ·exact Zb e
 ·cases h
theorem VY{x y:D}(h:XL op x y st=some (d,st')):∃ k,d=.bl k/\st'=st:=by
 unfold XL at h;split at h
 ·cases h;exact⟨_,rfl,rfl⟩
 ·exact Zb h
theorem UY{K:Fg}{op2:CmpOp}(hb:∀ ρ st st' d,fb ρ st=some (d,st')->st'=st)(σ:L2.St)(H:Hp)(Q:VK)(h:tE K (YG (ZV fa fb (XL op)) (ZV fb fc (XL op2)) (evC (.bl false))) σ H Q) :
  tChain (rD K (XL op)) (rD K (XL op2)) (tE K fa) (tE K fb) (tE K fc) σ H Q:=by
 obtain⟨ad,ρ,st,d,st',E,S,e,p⟩:=h;obtain⟨k,st1,q,e⟩:=Yi e;unfold ZV at q;split at q
 ·rename_i x s1 q1
  split at q
  ·rename_i y s2 q2
   have z:=hb _ _ _ _ q2;subst z;obtain⟨k',ek,es⟩:=VY q;subst es;refine⟨ad,ρ,st,x,_,E,S,q1,fun v1 ad1 H1 x1 S1 d1=>⟨ad1,ρ,_,y,_,E.mono x1,S1,q2,fun v2 ad2 H2 x2 S2 d2=>⟨ad2,_,x,y,.bl k,_,S2,d1.mono x2,d2,q,fun v3 ad3 H3 x3 S3 d3=>⟨k,d3.ofBl,?_⟩⟩⟩⟩
   cases k with
   |false=>
    rw[if_neg Bf]at e ⊢;cases e;exact(p.later (x1.trans (x2.trans x3))).at S3 (.bl false)
   |true=>
    rw[if_pos rfl]at e ⊢;unfold ZV at e;rw[q2]at e;split at e
    ·rename_i y' s3 qq
     cases qq;split at e
     ·rename_i z s4 q4
      exact⟨ad3,ρ,_,z,s4,E.mono (x1.trans (x2.trans x3)),S3,q4,fun v4 ad4 H4 x4 S4 d4=>⟨ad4,s4,y,z,d,st',S4,d2.mono (x3.trans x4),d4,e,p.later (x1.trans (x2.trans (x3.trans x4)))⟩⟩
     ·exact Zb e
    ·exact Zb e
  ·exact Zb q
 ·exact Zb q
theorem ZgQ{K:Fg}(σ:L2.St)(H:Hp)(Q:VK)(h:tE K (ZJ fa (rsD false)) σ H Q):ZlR K (tE K fa) (tE K (ev F (.neg (.cst (.int 1))))) σ H Q:=by
 obtain⟨ad,ρ,st,d,st',E,S,e,p⟩:=h;unfold ZJ at e;split at e
 ·rename_i x st1 q1
  refine⟨ad,ρ,st,x,st1,E,S,q1,fun v1 ad1 H1 x1 S1 d1=>⟨ad1,ρ,st1,.int (-1),st1,E.mono x1,S1,rfl,fun v2 ad2 H2 x2 S2 d2=>⟨d2.ofInt,?_⟩⟩⟩
  unfold rsD at e;split at e
  ·split at e
   ·rename_i c zs q0
    cases e;obtain⟨a,rfl,ha⟩:=(d1.mono x2).ofLst;obtain⟨ys,rr,sq⟩:=S2.list ha q0;refine⟨a,ys,rfl,sq,fun l hl=>p.later (x1.trans x2) _ (ad2++[l]) _ (Ext.push hl) (S2.push hl (Jl rr)) (.newL ?_)⟩
    rw[<-S2.len];exact ZO
   ·exact Zb e
  ·exact Zb e
 ·exact Zb e
theorem ZiT{b:Expr}(hq:Zq b=true):(backTo pos (starEach [b] X.env)).any (·.1)=false:=Xb (by rw[bA,hq];rfl)
theorem ZhB{a b:Expr}{x y:CE}{p:Pos}(K:Cxt X G F sc N)(hg:ZN sc f=true)(hm:X.mg f=none)(hp:Zq a=true)(hq:Zq b=true)(A:PE X a (tE X.K (ev F x)))(B:PE X b (tE X.K (ev F y)))(h:ZiY f x y=some c):PE X (.Call (.Name f p) [a,b] [] pos) (tE X.K (ev F c)):=by
 have hG:=K.glb f hg;unfold ZiY at h;split at h
 ·rename_i e;subst e;cases h
  exact Zu (pe_callB (Zcd K.calm) hG hm Zi2 (pa2 hp hq A B) (by decide) (by decide) (Zi hp) (ZiT hq)) Jv
 ·split at h
  ·rename_i e;subst e;cases h
   exact Zu (pe_callB (Zcc K.calm) hG hm Zi1 (pa2 hp hq A B) (by decide) (by decide) (Zi hp) (ZiT hq)) Jv
  ·exact Zb h
theorem ZgI{K:Fg}{T:Ty}(σ:L2.St)(H:Hp)(Q:VK)(h:tE K (ZJ fa (Zax T)) σ H Q) :
  tCB (fun vs H Q=>∃ v,vs=[v,.ty (tyN T)]/\rC K (on1 (Zax T)) [v] H Q) (tCons (tE K fa) (tCons (tC (.ty (tyN T))) tNil)) σ H Q:=by
 obtain⟨ad,ρ,st,d,st',E,S,e,p⟩:=h;unfold ZJ at e;split at e
 ·rename_i x st1 q1
  exact⟨ad,ρ,st,x,st1,E,S,q1,fun v1 ad1 H1 x1 S1 d1=>⟨v1,rfl,ad1,st1,[x],d,st',S1,.cons d1 .nil,e,p.later x1⟩⟩
 ·exact Zb e
theorem ZfF{b:Expr}{T:Ty}(K:Cxt X G F sc N)(h:ZbT G sc b=some T):Zq b=true/\PE X b (tC (.ty (tyN T))):=by
 cases b with
 |Name t p=>
  have h2:ZkA G sc t=some T:=h;clear h;unfold ZkA at h2;split at h2
  ·rename_i hg
   rw[Ba]at hg;have hm:X.mg t=none:=by
    have z:=hg.2;unfold U0 at z;split at z
    ·rename_i q;exact K.gl t _ q
    ·cases z
   have hG:=K.glb t hg.1;refine⟨rfl,?_⟩;unfold ZlW at h2;split at h2
   ·rename_i e;subst e;cases h2
    exact pe_bltn hG hm Zdt rfl
   ·split at h2
    ·rename_i e;subst e;cases h2
     exact pe_bltn hG hm Zf7 rfl
    ·split at h2
     ·rename_i e;subst e;cases h2
      exact pe_bltn hG hm Zdu rfl
     ·split at h2
      ·rename_i e;subst e;cases h2
       exact pe_bltn hG hm Jd rfl
      ·exact Zb h2
  ·exact Zb h2
 |_=>simp[ZbT]at h
theorem Zkd{a b:Expr}{x:CE}{T:Ty}{p:Pos}(K:Cxt X G F sc N)(hg:ZN sc "isinstance"=true)(hm:X.mg "isinstance"=none)(hp:Zq a=true)(A:PE X a (tE X.K (ev F x)))(hT:ZbT G sc b=some T) :
  PE X (.Call (.Name "isinstance" p) [a,b] [] pos) (tE X.K (ev F (.isi T x))):=by
 obtain⟨hq,B⟩:=ZfF K hT;exact Zu (pe_callB (ZdC (T:=T)) (K.glb _ hg) hm UB (pa2 hp hq A B) (by decide) (by decide) (Zi hp) (ZiT hq)) ZgI
theorem ZhD{ps:Nat}{p:Pos}(K:Cxt X G F sc N)(hg:ZN sc f=true)(hG:G.lookup f=some (.fn i ps ds))(hl:as.length<=ps/\ps<=as.length+ds.length)(A:PA X as (tA X.K (ev F cs))/\Zac cs/\as.all Zq=true/\(as=[]->cs=.aN)):PE X (.Call (.Name f p) as [] pos) (tE X.K (ev F (.call i cs (ds.drop (as.length+ds.length - ps))))):=by
 obtain⟨k,fa,fd,pn,Fk,hr,hm,hk,hb⟩:=K.gl f _ hG;obtain⟨dvs,us,hd,hv,hbn⟩:=hb (as.length+ds.length - ps) (by omega)
 obtain⟨PAs,_,hp,hn⟩:=A;cases as with
 |nil=>
  refine Zu (pe_call0 (E:=E0) Fk hr (K.glb f hg) hm hk hbn hv pass0 (Xg hg)) fun σ H Q h=>?_
  rw[hn rfl]at h;exact Uc σ H _ (Jx (E:=E0) hd σ H Q h)
 |cons e es=>
  rw[bA,Ba]at hp;exact Zu (pe_call (E:=E0) Fk hr (K.glb f hg) hm hk hbn hv pass0 PAs (Xg hg) (Zi hp.1) (Xb hp.2)) (Jx hd)
theorem Zat{nm:Str}{b:Expr}(K:Cxt X G F sc N)(h:fnA G sc nm b=some as):∃ p pos,b=.Call (.Name nm p) as [] pos/\Gl X nm/\X.mg nm=none:=by
 obtain⟨q,h1,h2⟩:=dF.mp h;refine Xj h2 fun hc h3=>?_
 obtain⟨rfl,hg,hb⟩:=hc;cases h3;unfold Zih at h1;split at h1
 ·cases h1
  refine⟨_,_,rfl,K.glb _ hg,?_⟩;unfold U0 at hb;split at hb
  ·rename_i q;exact K.gl _ _ q
  ·cases hb
 ·cases h1
theorem Zhi{a:Expr}(h:ZlC as=some a):as=[a]:=by
 cases as with
 |nil=>exact Zb h
 |cons x as=>cases as with
  |nil=>cases h;rfl
  |cons _ _=>exact Zb h
theorem UK{b:Expr}(K:Cxt X G F sc N)(h:Y1 G sc b=some e):∃ p pos,b=.Call (.Name "range" p) [e] [] pos/\Gl X "range"/\X.mg "range"=none:=by
 obtain⟨as,h1,h2⟩:=dF.mp h;rw[Zhi h2]at h1;exact Zat K h1
theorem Zkg{a:Expr}{o:Ot CE}{c:CE}{p:Pos}(K:Cxt X G F sc N)(hg:ZN sc f=true)(hm:X.mg f=none)(hb:ZaY G sc f a=some e)(B:∀ c,o=some c->Zq e=true/\PE X e (tE X.K (ev F c)))(h:o.map CE.tupR=some c):SE X F (.Call (.Name f p) [a] [] pos) c:=by cases hb
noncomputable def rLk(K:Fg)(A:Ad)(ks:Li Str)(ds:Li D):R2:=fun x y H Q=>x=.ref A/\∃ k d,y=.str k/\ZW ks ds k=some d/\∀ v,(∀ ad H,Den K ad H v d)->Q v H
theorem Zlg{A:Ad}{o:Obj}(lk:X.K.lookup A=some o)(ex:o.ExactDict)(hd:o.data=.dict es ep)(hm:(A==sysModules)=false)(nd:ks.Nodup)(eo:EsOk X.w.params X.K es.toList ks ds):IxR X (rLk X.K A ks ds):=by
 intro value slice pQ s σ H x y v u Q I rx ry h hs;obtain⟨rfl,k,d,rfl,he,q⟩:=h;cases rx;obtain⟨kvs,pr,kn,kk,val⟩:=eo.open (P:=X.prog);have dd:s.heap.DictOf (mixKind X.prog X.w) A kvs:=by
  refine⟨o,es,ep,I.kIn A o lk,ex,hd,fun e he=>kk e (by simpa using he),pr,?_⟩
  rw[kn];exact List.pairwise_map.mpr (nd.imp fun h z=>h (Sum.inr.inj z))
 obtain⟨w,z,hw,rw',dn⟩:=val k d he;exact tail_any dd.typeIs PySem.F.slot_dict_getitem.lookup (wpAny_getItem_of (kV_is (k:=Sum.inr k) ry) dd.mapOf hw ⟨z,H,I.tok _,rw',q z dn⟩) hs
theorem Zen{K:Fg}{A:Ad}(σ:L2.St)(H:Hp)(Q:VK)(h:tE K (ZJ fa (U4 ks ds)) σ H Q):tOp (rLk K A ks ds) (tC (.ref A)) (tE K fa) σ H Q:=by
 obtain⟨ad,ρ,st,d,st',E,S,e,p⟩:=h;unfold ZJ at e;split at e
 ·rename_i x st1 q1
  unfold U4 at e;split at e
  ·rename_i k
   split at e
   ·rename_i d' hl
    cases e;exact⟨ad,ρ,st,.str k,_,E,S,q1,fun v ad1 H1 x1 S1 d1=>⟨rfl,k,d,d1.ofStr,hl,fun w dn=>p w ad1 H1 x1 S1 (dn ad1 H1)⟩⟩
   ·exact Zb e
  ·exact Zb e
 ·exact Zb e
theorem Zh3{p:Expr×Expr}(h:Zkz as=some p):as=[p.1,p.2]:=by
 cases as with
 |nil=>exact Zb h
 |cons x as=>cases as with
  |nil=>exact Zb h
  |cons y as=>cases as with
   |nil=>cases h;rfl
   |cons _ _=>exact Zb h
theorem ZhG{a u v:Expr}{x y:CE}{p:Pos}(K:Cxt X G F sc N)(hg:ZN sc f=true)(hm:X.mg f=none)(hb:ZaA G sc f a=some (u,v))(hu:Zq u=true)(hv:Zq v=true)(A:PE X u (tE X.K (ev F x)))(B:PE X v (tE X.K (ev F y))):PE X (.Call (.Name f p) [a] [] pos) (tE X.K (ev F (.lstR x y))):=by cases hb
theorem ZhF{a b:Expr}{y:CE}(K:Cxt X G F sc N)(hn:Vp G sc a=some (ks,ds))(hp:Zq b=true)(B:PE X b (tE X.K (ev F y))):PE X (.Subscript a b pos) (tE X.K (ev F (.look ks ds y))):=by
 unfold Vp at hn;split at hn
 ·split at hn
  ·rename_i hg
   split at hn
   ·rename_i q
    cases hn;obtain⟨A,o,es,ep,hm,lk,ex,hd,hs,nd,eo⟩:=K.gl _ _ q;exact Zu (pe_ix (Zlg lk ex hd hs nd eo) (pe_glob (K.glb _ hg) hm (show RelV (.ref A) (.ref A) from rfl) (Xg hg)) B (JA hp)) Zen
   ·exact Zb hn
  ·exact Zb hn
 ·exact Zb hn
theorem ZlL{ms:Li (Str×Nat×Nat)}{subs:Li Nat}{p:Pos}(K:Cxt X G F sc N)(hg:ZN sc f=true)(hG:G.lookup f=some (.cls i ms subs))(hl:ms.lookup ("__init__":Str)=some (j,1)):PE X (.Call (.Name f p) [] [] pos) (tE X.K (ev F (.isc [i,j] .aN))):=by
 obtain⟨hm,nw,hms⟩:=K.gl f _ hG;obtain⟨k,fa,fd,pn,Fk,hr,hme,hb⟩:=hms _ j 1 hl;intro pQ s σ H Q I h;obtain⟨ad,ρ,st,d,st',E,S,e,q⟩:=h;have e:(match F j [.dic st.length] (st++[(true,[.int i])]) with
  |some (.non,st')=>some (D.dic st.length,st')
  |_=>none)=some (d,st'):=e
 split at e
 ·rename_i st2 q2
  cases e;refine wpAny_Call_Name_kw (ld_glob I (K.glb f hg) hm ?_ (Xg hg));refine PySem.W.callWith_K0 I.kIn nw.kp (run_make (us:=[]) (vs:=[]) (E:=E0) ⟨nw.makes,hme.at_,hme.fn,nw.kp⟩ Fk hr hb .nil pass0 I .nil fun x dx hx hdx hne hk=>?_)
  have hx2:upd H dx (.own x) x=none:=by rw[upd_ne hne.symm];exact hx
  have S1:=S.laid (o:=.own x) hdx;have xt:=(Ext.laid (ad:=ad) (o:=.own x) hdx).trans (S1.extD (o:=.ins (ClsTab.ca i) dx []) hx2 hk);have gl:(ad++[x])[st.length]?=some x:=by rw[<-S.len];exact ZO
  exact⟨ad++[x],[.dic st.length],_,.non,_,S1.pushO hx2 hk nw.oc,.cons (.dic gl ⟨_,upd_same,rfl⟩) .nil,q2,fun v ad2 H2 x2 S2 d2=>⟨d2.ofNon,q _ ad2 H2 (xt.trans x2) S2 (.dic (x2.pre _ _ gl) ((x2.kd _ _ gl).mp ⟨_,upd_same,rfl⟩))⟩⟩
 ·exact Zb e
theorem ZgH{K:Fg}(hf:fldNames.contains f=true)(σ:L2.St)(H:Hp)(Q:VK)(h:tE K (ZJ fa (Zd5 [f])) σ H Q):tFld K (tE K fa) f σ H Q:=by
 obtain⟨ad,ρ,st,d,st',E,S,e,p⟩:=h;unfold ZJ at e;split at e
 ·rename_i x st1 q1
  unfold Zd5 at e;split at e
  ·rename_i f' a hz
   cases hz;split at e
   ·rename_i b c es q2
    split at e
    ·rename_i w q3
     cases e;refine⟨ad,ρ,st,.dic a,_,E,S,q1,fun v ad1 H1 x1 S1 d1=>?_⟩
     obtain⟨l,rfl,hl,n⟩:=d1.ofDic;obtain⟨j,dx,kvs,rfl,r,ho,_,oc,nf⟩:=S1.obj hl n q2;rcases W2 (x:=f) r with⟨u,d0,e1,e2,e3⟩|⟨_,e2⟩
     ·rw[e2]at q3
      cases q3;exact⟨l,_,dx,kvs,u,rfl,ho,oc.cl,oc.na f hf,e1.2,(p.later x1).at S1 e3⟩
     ·rw[e2]at q3;cases q3
    ·exact Zb e
   ·exact Zb e
  ·exact Zb e
 ·exact Zb e
theorem Zkb{c:Ot CE}{r:CE}(A:∀ x,c=some x->PE X o (tE X.K (ev F x)))(h:Zlb o f c=some r):PE X (.Attribute o f pos) (tE X.K (ev F r)):=by
 cases o with
 |Name y yp=>exact Xj h fun hc h=>QS (P:=fun r=>PE X _ (tE X.K (ev F r))) h fun x hx=>Zu (pe_fld (A x hx) rfl) (ZgH hc)
 |_=>exact Zb h
theorem Zit{α:Type}:∀ {us:Li α},us.length=1->∃ a,us=[a]
 |[a],_=>⟨a,rfl⟩
theorem Zcw(h:as.all Zq=true)(hl:as.length < 20):((backTo pos (starEach as env)).all (fun x=>!x.1)&&(backToKw pos (keywordEach [] env)).all (fun x=>x.1.isSome)
  &&decide (as.length+([]:Li Keyword).length+(if ([]:Li Keyword).isEmpty then 0 else 1) < 30))=true:=by
 have a:=Xb (pos:=pos) (env:=env) h;have b:(backTo pos (starEach as env)).all (fun x=>!x.1)=true:=by
  rw[aW];intro x hx;have:=List.any_eq_false.mp a x hx;simpa using this
 rw[b,aK (show as.length+([]:Li Keyword).length+(if ([]:Li Keyword).isEmpty then 0 else 1) < 30 by simp;omega)]
 rfl
theorem Zg5{name:Str}{apos:Pos}{args:Li Expr}{Q:vL->Sd->Prop}(hbase:attributeBase o name X.env (eval o X.env)=eval o X.env)(hfew:((backTo pos (starEach args X.env)).all (fun x=>!x.1)&&(backToKw pos (keywordEach [] X.env)).all (fun x=>x.1.isSome)&&decide (args.length+([]:Li Keyword).length+(if ([]:Li Keyword).isEmpty then 0 else 1) < 30))=true)(hline:(apos.endLine==pos.line)=true)(h:wpAny (model X.prog X.w) X.A (eval o X.env) (fun ov s₁=>∀ pl,wpAny (model X.prog X.w) X.A (getMethod ov name pl) (fun fx s₂=>wpAny (model X.prog X.w) X.A (callWith pos fx.1 fx.2 (backTo pos (starEach args X.env)) (backToKw pos (keywordEach [] X.env))) Q X.xe s₂) X.xe s₁) X.xe s) :
  wpAny (model X.prog X.w) X.A (eval (.Call (.Attribute o name apos) args [] pos) X.env) Q X.xe s:=by
 rw[arm_eval_Call,hbase];refine aA (bC h (fun ov s₁ h₁=>?_) fun _ _ e=>e)
 refine aA (wpAny_standAt ?_);have hform:methodCallForm (args.length+([]:Li Keyword).length) (backTo pos (starEach args X.env)) (backToKw pos (keywordEach [] X.env))=true:=hfew;have hpos:methodCallPos true o X.env apos pos=pure pos:=by unfold methodCallPos;simp[hline]
 unfold methodCall;rw[hform];refine aA (wpAny_holding ?_);exact bC (h₁ _) (fun fx s₂ h₂=>aA (wpAny_of_eq hpos h₂)) fun _ _ e=>e
theorem Zkv{k:Nat}(h:(Wa m k G).lookup i=some j):∃ x ms subs,G.lookup x=some (.cls i ms subs)/\ms.lookup m=some (j,k+1):=by
 have hm:(i,j)∈Wa m k G:=by
  generalize Wa m k G=l at h
  induction l with
  |nil=>exact Zb h
  |cons p l ih=>
   obtain⟨a,b⟩:=p;rw[bK]at h;split at h
   ·rename_i z
    cases h;rw[beq_iff_eq.mp z];exact Ls
   ·exact Lm _ (ih h)
 obtain⟨x,_,hx⟩:=List.mem_filterMap.mp hm;unfold Ziv at hx;split at hx
 ·rename_i i' ms subs q
  split at hx
  ·rename_i j' ps q2
   split at hx
   ·rename_i e
    subst e;cases hx;exact⟨x,ms,subs,q,q2⟩
   ·exact Zb hx
  ·exact Zb hx
 ·exact Zb hx
def Zj1:V->Li V->Hp->VK->Prop:=fun x xs H Q=>∃ z y,x=.str z/\xs=[.str y]/\(y.length=1/\z.length<=Zc)/\∀ p,H p=none->Q (.ref p) (upd H p (.lst ((Vg z y).map V.str)))
theorem ZcB(σ:L2.St)(H:Hp)(Q:VK)(h:tE X.K (ZV fa fb Zc8) σ H Q):tBM X.K "str" Zj1 (tE X.K fa) (tA X.K fb) σ H Q:=by
 obtain⟨ad,ρ,st,d,st',E,S,e,p⟩:=h;unfold ZV at e;split at e
 ·rename_i dx st1 q1
  split at e
  ·rename_i dy st2 q2
   unfold Zc8 at e;split at e
   ·rename_i x y
    split at e
    ·rename_i c
     cases e;refine⟨ad,ρ,st,.str x,st1,E,S,q1,fun v ad1 H1 x1 S1 d1=>?_⟩
     cases d1;refine⟨rfl,ad1,ρ,st1,[.str y],_,E.mono x1,S1,q2,fun vs ad2 H2 x2 S2 d2=>?_⟩
     obtain⟨w,rfl,dw⟩:=Vn d2;cases dw;refine⟨x,y,rfl,rfl,c,fun q hq=>p.later (x1.trans x2) _ (ad2++[q]) _ (Ext.push hq) (S2.push hq (Vh _)) (.newL ?_)⟩
     rw[<-S2.len];exact ZO
    ·exact Zb e
   ·exact Zb e
  ·exact Zb e
 ·exact Zb e
theorem Zkf{y:Str}{x:CE}(hline:(ap.endLine==cp.line)=true)(hlen:as.length=1)(B:PE X (.Name y yp) (tE X.K (ev F x)))(A:PA X as (tA X.K (ev F cs))/\Zac cs/\as.all Zq=true/\(as=[]->cs=.aN)):PE X (.Call (.Attribute (.Name y yp) "split" ap) as [] cp) (tE X.K (ev F (.tix x cs))):=by
 obtain⟨PAs,_,hp,_⟩:=A;obtain⟨e0,rfl⟩:=Zit hlen;rw[bA,Ba]at hp;exact Zu (pe_bm PySem.F.plainAttrs_str PySem.F.slot_str_split PySem.F.type_str_split ZeM B PAs rfl (by rw[Zi hp.1];rfl) hline (Zi hp.1) rfl) ZcB
theorem ZbR{k:Str}:∀ {ks:Li Str}{kvs:Li (Key×vL)},kvs.map (·.1)=ks.map Sum.inr->(valueAt kvs (Sum.inr k)).isSome=ks.contains k
 |[],[],_=>rfl
 |[],_ :: _,h=>nomatch h
 |_ :: _,[],h=>nomatch h
 |a :: ks,p :: kvs,h=>by
  rw[aM,aM]at h
  injection h with h1 h2
  have ih:=ZbR (k:=k) h2;unfold valueAt at ih ⊢
  rw[List.contains_cons];by_cases c:a=k
  ·subst c
   rw[dD (by simpa using h1),beq_self_eq_true];rfl
  ·rw[cQ (by rw[h1];simpa using c),ih,show(k==a)=false from bV.mpr fun z=>c z.symm,Bool.false_or]
theorem Zjq{A:Ad}{o:Obj}(lk:X.K.lookup A=some o)(ex:o.ExactDict)(hd:o.data=.dict es ep)(hm:(A==sysModules)=false)(nd:ks.Nodup)(eo:EsOk X.w.params X.K es.toList ks ds){k:Str}(I:L2.Inv X pQ σ H s)(ru:RelV (.str k) u) :
  CW2 X pQ σ Q s H .In .NotIn u (.ref A) (ks.contains k):=by
 obtain⟨kvs,pr,kn,kk,val⟩:=eo.open (P:=X.prog);have dd:s.heap.DictOf (mixKind X.prog X.w) A kvs:=by
  refine⟨o,es,ep,I.kIn A o lk,ex,hd,fun e he=>kk e (by simpa using he),pr,?_⟩
  rw[kn];exact List.pairwise_map.mpr (nd.imp fun h z=>h (Sum.inr.inj z))
 have e:=ZbR (k:=k) kn;rw[<-e];exact⟨fun q=>wpAny_in_of (kV_is (k:=Sum.inr k) ru) hm dd.mapOf ⟨.bl _,H,I.tok _,rfl,q⟩,fun q=>wpAny_notIn_of (kV_is (k:=Sum.inr k) ru) hm dd.mapOf ⟨.bl _,H,I.tok _,rfl,q⟩⟩
theorem Zkc{a b:Expr}{x:CE}{ng:Bool}(K:Cxt X G F sc N)(hn:Vp G sc b=some (ks,ds))(hg:Zjo op=some ng)(A:PE X a (tE X.K (ev F x))):SE X F (.Compare a [op] [b] pos) (.cmp op x (.cst (.kt ks))):=by
 cases b with
 |Name t tp=>
  replace hn:(if ZN sc t then (match G.lookup t with
   |some (.dct ks ds)=>some (ks,ds)
   |_=>none) else none)=some (ks,ds):=hn
  split at hn
  ·rename_i hg1
   split at hn
   ·rename_i q
    cases hn;obtain⟨A0,o,es,ep,hm,lk,ex,hd,hs,nd,eo⟩:=K.gl _ _ q;have B:PE X (.Name t tp) (tC (.ref A0)):=pe_glob (K.glb _ hg1) hm (show RelV (.ref A0) (.ref A0) from rfl) (Xg hg1);have R:OpR X (compareOp op) (fun u v H Q=>∃ k b,u=.str k/\v=.ref A0/\Wj op (.str k) (.kt ks) []=some b/\Q (.bl b) H):=by
     intro pQ s σ H u v u' v' Q I ru rv h;obtain⟨k,b,rfl,rfl,hb,q⟩:=h;cases rv;have z:=Zjq (Q:=Q) lk ex hd hs nd eo I ru;cases op with
     |In=>cases hb;exact z.1 q
     |NotIn=>cases hb;exact z.2 q
     |_=>exact Zb hg
    have I0:∀ σ H Q,tE X.K (ev F (.cmp op x (.cst (.kt ks)))) σ H Q->tOp (fun u v H Q=>∃ k b,u=.str k/\v=.ref A0/\Wj op (.str k) (.kt ks) []=some b/\Q (.bl b) H) (tE X.K (ev F x)) (tC (.ref A0)) σ H Q:=fun σ H Q h=>by
     obtain⟨ad,ρ,st,d,st',E,S,e,p⟩:=h;have e:ZV (ev F x) (evC (.kt ks)) (XL op) ρ st=some (d,st'):=e;unfold ZV at e;split at e
     ·rename_i dx st1 q1
      have e:XL op dx (.kt ks) st1=some (d,st'):=e;refine⟨ad,ρ,st,dx,st1,E,S,q1,fun v ad1 H1 x1 S1 d1=>?_⟩
      obtain⟨k0,rfl,rfl⟩:=VY e;unfold XL at e;split at e
      ·rename_i kb hb
       cases e;obtain⟨w,rfl⟩:∃ w,dx=.str w:=by
        cases op with
        |In=>cases dx<;>first|exact⟨_,rfl⟩|cases hb
        |NotIn=>cases dx<;>first|exact⟨_,rfl⟩|cases hb
        |_=>exact Zb hg
       refine⟨w,k0,d1.ofStr,rfl,?_,(p.later x1).at S1 (.bl _)⟩;cases op with
       |In=>exact hb
       |NotIn=>exact hb
       |_=>exact Zb hg
      ·exact Zb e
     ·exact Zb e
    exact⟨Zu (pe_cmpR R A B (YH rfl)) I0,Wz (pt_cmpR R A B (YH rfl)) fun σ H Q q=>I0 σ H _ (QD σ H Q q)⟩
   ·exact Zb hn
  ·exact Zb hn
 |_=>exact Zb hn
def Zht:V->Li V->Hp->VK->Prop:=fun x xs H Q=>∃ z y,x=.str z/\xs=[.str y]/\Q (.bl (stW z y)) H
def ZiA(K:Fg):V->Li V->Hp->VK->Prop:=fun x xs H Q=>∃ z a ys,x=.str z/\xs=[.ref a]/\SqL K H a (ys.map V.str)/\(Ye z ys).length<=Zc/\Q (.str ⟨(Y3 z ys).toArray⟩) H
theorem Zau(σ:L2.St)(H:Hp)(Q:VK)(h:tE X.K (ZV fa fb VG) σ H Q):tBM X.K "str" Zht (tE X.K fa) (tA X.K fb) σ H Q:=by
 obtain⟨ad,ρ,st,d,st',E,S,e,p⟩:=h;unfold ZV at e;split at e
 ·rename_i dx st1 q1
  split at e
  ·rename_i dy st2 q2
   unfold VG at e;split at e
   ·rename_i x y
    cases e;refine⟨ad,ρ,st,.str x,st1,E,S,q1,fun v ad1 H1 x1 S1 d1=>?_⟩
    cases d1;refine⟨rfl,ad1,ρ,st1,[.str y],_,E.mono x1,S1,q2,fun vs ad2 H2 x2 S2 d2=>?_⟩
    obtain⟨w,rfl,dw⟩:=Vn d2;cases dw;exact⟨x,y,rfl,rfl,(p.later (x1.trans x2)).at S2 (.bl _)⟩
   ·exact Zb e
  ·exact Zb e
 ·exact Zb e
theorem ZbQ{K:Fg}{ad:Li Ad}{H:Hp}:∀ {ys:Li V}{ds:Li D}{xs:Li Str},Dens K ad H ys ds->Vt ds=some xs->ys=xs.map V.str
 |_,_,_,.nil,h=>by cases h;rfl
 |_,d :: ds,xs,.cons a r,h=>by
  cases d with
  |str x=>
   obtain⟨zs,h1,h2⟩:=cV.mp (show(Vt ds).map (x :: ·)=some xs from h);cases h2;cases a;rw[ZbQ r h1];rfl
  |_=>exact Zb h
theorem Zem{K:Fg}(σ:L2.St)(H:Hp)(Q:VK)(h:tE K (ZV fa fb U3) σ H Q):tBM K "str" (ZiA K) (tE K fa) (tCons (tE K fb) tNil) σ H Q:=by
 obtain⟨ad,ρ,st,d,st',E,S,e,p⟩:=h;unfold ZV at e;split at e
 ·rename_i dx st1 q1
  split at e
  ·rename_i dy st2 q2
   unfold U3 at e;split at e
   ·rename_i s a
    split at e
    ·rename_i bb ds q3
     have core:∀ {xs:Li Str}{d':D}{s':Za},Vt ds=some xs->(Ye s xs).length<=Zc->Post K ad H (.str ⟨(Y3 s xs).toArray⟩) st2 Q->tBM K "str" (ZiA K) (tE K fa) (tCons (tE K fb) tNil) σ H Q:=fun {xs d' s'} hx hz p=>by
      refine⟨ad,ρ,st,.str s,st1,E,S,q1,fun v ad1 H1 x1 S1 d1=>?_⟩
      cases d1;refine⟨rfl,ad1,ρ,st1,.lst a,_,E.mono x1,S1,q2,fun w ad2 H2 x2 S2 d2=>?_⟩
      obtain⟨l,rfl,hl⟩:=d2.ofLst;obtain⟨ys,rv,sq⟩:=S2.list hl q3;have ey:=ZbQ rv hx;subst ey;exact⟨s,l,xs,rfl,rfl,sq,hz,(p.later (x1.trans x2)).at S2 (.str _)⟩
     split at e
     ·rename_i hs
      unfold Zbu at e;split at e
      ·rename_i xs hx
       split at e
       ·rename_i hz
        cases e;exact core (d':=.non) (s':=[]) hx (by rw[Ua hs];exact hz) (by rw[Zd9 hs];exact p)
       ·exact Zb e
      ·exact Zb e
     ·unfold Zbt at e
      split at e
      ·rename_i xs hx
       split at e
       ·rename_i hz
        cases e;exact core (d':=.non) (s':=[]) hx hz p
       ·exact Zb e
      ·exact Zb e
    ·exact Zb e
   ·exact Zb e
  ·exact Zb e
 ·exact Zb e
theorem ZcZ{y:Str}{x:CE}(hline:(ap.endLine==cp.line)=true)(hlen:as.length=1)(B:PE X (.Name y yp) (tE X.K (ev F x)))(A:PA X as (tA X.K (ev F cs))/\Zac cs/\as.all Zq=true/\(as=[]->cs=.aN)):PE X (.Call (.Attribute (.Name y yp) "startswith" ap) as [] cp) (tE X.K (ev F (.starts x cs))):=by
 obtain⟨PAs,_,hp,_⟩:=A;obtain⟨e0,rfl⟩:=Zit hlen;rw[bA,Ba]at hp;exact Zu (pe_bm PySem.F.plainAttrs_str PySem.F.slot_str_startswith PySem.F.type_str_startswith ZcM B PAs rfl (by rw[Zi hp.1];rfl) hline (Zi hp.1) rfl) Zau
theorem ZhE{v:Const}{kd:Nat}{kp:Pos}{a:Expr}{x z:CE}(hline:(ap.endLine==cp.line)=true)(hp:Zq a=true)(B:PE X (.Constant v kd kp) (tE X.K (ev F x)))(A:PE X a (tE X.K (ev F z))):PE X (.Call (.Attribute (.Constant v kd kp) "join" ap) [a] [] cp) (tE X.K (ev F (.joinE x z))):=
 Zu (pe_bm PySem.F.plainAttrs_str PySem.F.slot_str_join PySem.F.type_str_join Zg7 B (pa1 hp A) rfl (by rw[Zi hp];rfl) hline (Zi hp) rfl) Zem
theorem ZhH{y:Str}{x:CE}(K:Cxt X G F sc N)(hline:(ap.endLine==cp.line)=true)(hlen:as.length < 20)(B:PE X (.Name y yp) (tE X.K (ev F x)))(A:PA X as (tA X.K (ev F cs))/\Zac cs/\as.all Zq=true/\(as=[]->cs=.aN)):PE X (.Call (.Attribute (.Name y yp) m ap) as [] cp) (tE X.K (ev F (.meth (Wa m as.length G) x cs))):=by
 obtain⟨PAs,_,hp,hn⟩:=A;intro pQ s σ H Q I h;obtain⟨ad,ρ,st,d,st',E,S,e,p⟩:=h;replace e:JG F (Wa m as.length G) (ev F x) (ev F cs) ρ st=some (d,st'):=e;unfold JG at e;split at e
 ·rename_i i st1 q1
  split at e
  ·rename_i b c es q0
   split at e
   ·rename_i j hj
    split at e
    ·rename_i xs st2 q2
     obtain⟨cx,ms,subs,hG,hl⟩:=Zkv hj;obtain⟨_,nw,hms⟩:=K.gl cx _ hG;obtain⟨k,f,fd,pn,Fk,hr,hme,hb⟩:=hms m j _ hl;have hr:=hr.mono (Nat.le_succ k);refine Zg5 rfl (Zcw hp hlen) hline (thn (B pQ s σ H (fun v H1=>∃ ad1,Ext ad H ad1 H1/\StOk X.K ad1 H1 st1/\Den X.K ad1 H1 v (.dic i)) I ⟨ad,ρ,st,.dic i,st1,E,S,q1,fun v ad1 H1 x1 S1 d1=>⟨ad1,x1,S1,d1⟩⟩) fun u s1 ⟨v,H1,I1,rv,ad1,x1,S1,d1⟩ pl=>?_)
     obtain⟨a,rfl,hl1,n1⟩:=d1.ofDic;obtain⟨jc,dx,kvs,rfl,r,ho,_,oc,nf⟩:=S1.obj hl1 n1 q0;cases (show u=Value.ref a from rv)
     rw[bT]at hme;have hmf:fldNames.contains m=false:=by
      cases z:fldNames.contains m with
      |false=>rfl
      |true=>have z1:=oc.na m z;have z2:=hme.at_;unfold NoAttr at z1;rw[z1]at z2;cases z2
     refine getmeth_ok I1 ho oc.cl hme (nf m hmf) ?_;cases as with
     |nil=>
      have hc:=hn rfl;subst hc;have q2:some (D.tup [],st1)=some (.tup xs,st2):=q2;cases q2;exact PySem.W.callWith_K0 (first:=[.ref a]) I1.kIn hme.kp (run_fn (us:=[.ref a]) (vs:=[.ref a]) (E:=E0) Fk hr hb .nil pass0 I1 (.cons rfl .nil) ⟨ad1,[.dic i],st1,d,st',S1,.cons d1 .nil,e,p.later x1⟩)
     |cons e0 es0=>
      rw[bA,Ba]at hp;refine PySem.W.callWith_K (first:=[.ref a]) (h₀:=X.base) I.ok.mod.kin hme.kp (thn (PAs cp pQ s1 σ H1 _ I1 ⟨ad1,ρ,st1,xs,st2,E.mono x1,S1,q2,fun vs ad2 H2 x2 S2 d2=>(show(fun vs H2=>∃ ad2,Ext ad1 H1 ad2 H2/\StOk X.K ad2 H2 st2/\Dens X.K ad2 H2 vs xs) vs H2 from⟨ad2,x2,S2,d2⟩)⟩) fun us s2 ⟨vs,H2,I2,r,ad2,x2,S2,d2⟩=>⟨I2.kIn,?_⟩) (Zi hp.1) (Xb hp.2)
      refine run_fn (us:=.ref a :: us) (vs:=.ref a :: vs) (E:=E0) Fk hr hb .nil pass0 I2 (.cons rfl r) ?_;rw[bE];exact⟨ad2,.dic i :: xs,st2,d,st',S2,.cons (d1.mono x2) d2,e,p.later (x1.trans x2)⟩
    ·exact Zb e
   ·exact Zb e
  ·exact Zb e
 ·exact Zb e
theorem ZgX{y:CE}(h:Zjs y=true):y=.neg (.cst (.int 1)):=by
 unfold Zjs at h;split at h
 ·rfl
 ·cases h
theorem ZaP{b:Expr}{p:Ot Expr×Ot Expr}(q:VF b=some p):∃ p2,b=.Slice p.1 p.2 none p2:=by
 unfold VF at q;split at q
 ·cases q;exact⟨_,rfl⟩
 ·exact Zb q
theorem Zfo{b s:Expr}(q:ZbM b=some s):∃ p2,b=.Slice none none (some s) p2:=by
 unfold ZbM at q;split at q
 ·cases q;exact⟨_,rfl⟩
 ·exact Zb q
theorem ZlM{op:UnaryOp}{a:Expr}{o:Ot CE}(A:∀ x,o=some x->SE X F a x)(h:unC op o=some c):SE X F (.UnaryOp op a pos) c:=by
 cases op with
 |Not=>exact QS (P:=SE X F _) (show o.map CE.not=some c from h) fun x hx=>⟨Zu (pe_not (A x hx).pe) Zep,Wz (pt_not (A x hx).pt) Zeo⟩
 |USub=>exact QS (P:=SE X F _) (show o.map CE.neg=some c from h) fun x hx=>.of (Zu (pe_un Zh5 (A x hx).pe) Zjn)
 |_=>exact Zb h
section
variable {X:Cx}{sc:Scope}{N:Li Str}{n:Nat}{c:CE} (K:Cxt X G F sc N) (hf:∀ e c,cE G n sc N e=some c->SE X F e c)
include K hf
theorem Zka{a:Expr}{ops:Li CmpOp}{bs:Li Expr}(h:ZkX G sc (cE G n sc N) (cE G n sc N a) ops bs=some c):SE X F (.Compare a ops bs pos) c:=by
 cases ops with
 |nil=>exact Zb h
 |cons op ops=>cases bs with
  |nil=>cases ops with
   |nil=>exact Zb h
   |cons _ r=>cases r<;>cases h
  |cons b bs=>cases ops with
   |nil=>cases bs with
    |cons _ _=>exact Zb h
    |nil=>
     replace h:(match Vp G sc b with
      |some (ks,_)=>o2 (fun _ x=>CE.cmp op x (.cst (.kt ks))) (Zjo op) (cE G n sc N a)
      |none=>o2 (CE.cmp op) (cE G n sc N a) (cE G n sc N b))=some c:=h
     cases hn:Vp G sc b with
      |some p=>
       obtain⟨ks,ds⟩:=p;rw[hn]at h;exact Yf (P:=SE X F _) h fun ng x hg hx=>Zkc K hn hg (hf a x hx).pe
      |none=>
      rw[hn]at h;exact Yf (P:=SE X F _) h fun x y hx hy=>⟨Zu (pe_cmpR (Wb K.hu) (hf a x hx).pe (hf b y hy).pe (YH (Zj hy))) QB,Wz (pt_cmpR (Wb K.hu) (hf a x hx).pe (hf b y hy).pe (YH (Zj hy))) fun σ H Q q=>QB σ H _ (QD σ H Q q)⟩
   |cons op2 ops=>cases ops with
    |cons _ _=>exact Zb h
    |nil=>cases bs with
     |nil=>exact Zb h
     |cons b2 bs=>cases bs with
      |cons _ _=>exact Zb h
      |nil=>
       refine j_e h fun h=>UI (P:=fun o=>o=some c->SE X F _ c) h (fun x y z hx hy hz h=>Xj h fun hr h=>?_) rfl
       cases h;have hm:lastMarks [op,op2] [b,b2]=false:=YH (op:=op2) (Zj hz);exact⟨Zu (pe_chain (Wb K.hu) (Wb K.hu) (hf a x hx).pe (hf b y hy).pe (hf b2 z hz).pe hm) (UY fun _ _ _ _=>Qe hr),Wz (pt_chain (Wb K.hu) (Wb K.hu) (hf a x hx).pe (hf b y hy).pe (hf b2 z hz).pe hm) fun σ H Q q=>UY (fun _ _ _ _=>Qe hr) σ H _ (QD σ H Q q)⟩
omit K in
theorem ZhC{op:BoolOp}{vs:Li Expr}{pos:Pos}(h:Zif (cE G n sc N) op pos vs=some c):SE X F (.BoolOp op vs pos) c:=by
 cases vs with
 |nil=>exact Zb h
 |cons a r=>cases r with
  |nil=>
   have A:=hf a c h;refine⟨pe_one A.pe,?_⟩;cases op with
   |And=>exact(pw_and1 A.pt).pt
   |Or=>exact(pw_or1 A.pt).pt
  |cons b r=>cases op with
   |And=>exact Yf (P:=SE X F _) (show o2 CE.and (cE G n sc N a) (cE G n sc N (.BoolOp .And (b :: r) pos))=some c from h) fun x y hx hy=>⟨Zu (pe_and (hf a x hx).pe (hf _ y hy).pe) Zeb,Wz (pw_and (hf a x hx).pt (JS (hf _ y hy).pt)).pt Zea⟩
   |Or=>exact Yf (P:=SE X F _) (show o2 CE.or (cE G n sc N a) (cE G n sc N (.BoolOp .Or (b :: r) pos))=some c from h) fun x y hx hy=>⟨Zu (pe_or (hf a x hx).pe (hf _ y hy).pe) ZgN,Wz (pw_or (hf a x hx).pt (JS (hf _ y hy).pt)).pt ZgM⟩
theorem Zke(ihO:Qm G F n){a b:Expr}(h:Zku G sc (cE G n sc N) (cO G n sc N) a b=some c):SE X F (.Subscript a b pos) c:=by
 unfold Zku at h;cases q:VF b with
 |some p=>
  obtain⟨lo,hi⟩:=p;rw[q]at h;obtain⟨p2,rfl⟩:=ZaP q;exact UI (P:=SE X F _) h fun x l u hx hl hu=>.of (Zu (pe_slice Znk (hf a x hx).pe (ihO X sc N K lo l hl) (ihO X sc N K hi u hu)) ZcA)
 |none=>
  rw[q]at h;dsimp only at h;cases q':ZbM b with
  |some s=>
   rw[q']at h;obtain⟨p2,rfl⟩:=Zfo q';exact j_e h fun h=>Yf (P:=fun o=>o=some c->SE X F _ c) h (fun x y hx hy h=>Xj h fun m1 h=>by
    cases h;rw[ZgX m1]at hy;exact .of (Zu (ZjP (hf a x hx).pe (hf s _ hy).pe) ZgQ)) rfl
  |none=>
   rw[q']at h;dsimp only at h;cases hn:Vp G sc a with
   |some p=>
    obtain⟨ks,ds⟩:=p;rw[hn]at h;exact QS (P:=SE X F _) h fun y hy=>.of (ZhF K hn (Zj hy) (hf b y hy).pe)
   |none=>
    rw[hn]at h;exact Yf (P:=SE X F _) h fun x y hx hy=>.of (Zu (pe_ix (ZmA K.hu) (hf a x hx).pe (hf b y hy).pe (JA (Zj hy))) QB)
theorem Zfq{a:Expr}{p:Pos}(hg:ZN sc f=true)(hm:X.mg f=none)(h:Zdr G sc f a (cE G n sc N)=some c):SE X F (.Call (.Name f p) [a] [] pos) c:=by
 unfold Zdr at h
 ·cases he:ZaY G sc f a with
  |some e=>
   rw[he]at h;exact Zkg K hg hm he (fun c hc=>⟨Zj hc,(hf e c hc).pe⟩) h
  |none=>
   rw[he]at h;dsimp only at h;cases hl:ZaA G sc f a with
   |some q=>
    obtain⟨u,v⟩:=q;rw[hl]at h;exact Yf (P:=SE X F _) h fun x y hx hy=>.of (ZhG K hg hm hl (Zj hx) (Zj hy) (hf u x hx).pe (hf v y hy).pe)
   |none=>
    rw[hl]at h;exact j_e h fun h=>QS (P:=fun o=>o=some c->SE X F _ c) h (fun x hx h=>.of (ZhA K hg hm (Zj hx) (hf a x hx).pe h)) rfl
theorem Zfr{a b:Expr}{p:Pos}(hg:ZN sc f=true)(hm:X.mg f=none)(h:Zds G sc f a b (cE G n sc N)=some c):SE X F (.Call (.Name f p) [a,b] [] pos) c:=by
 unfold Zds at h;by_cases ei:f = "isinstance"
 ·subst ei
  rw[if_pos rfl]at h;exact Yf (P:=SE X F _) h fun x T hx hT=>.of (Zkd K hg hm (Zj hx) (hf a x hx).pe hT)
 ·rw[if_neg ei]at h
  exact j_e h fun h=>Yf (P:=fun o=>o=some c->SE X F _ c) h (fun x y hx hy h=>.of (ZhB K hg hm (Zj hx) (Zj hy) (hf a x hx).pe (hf b y hy).pe h)) rfl
theorem Zfs(ihA:Y6 G F n){p:Pos}(h:ZdB G sc f as (cEs G n sc N as) (cE G n sc N)=some c):SE X F (.Call (.Name f p) as [] pos) c:=by
 unfold ZdB at h;cases hg:ZN sc f with
 |false=>rw[hg]at h;cases h
 |true=>
 rw[hg,if_pos rfl]at h;cases hG:G.lookup f with
 |none=>rw[hG]at h;cases h
 |some g=>
  rw[hG]at h;cases g with
  |fn i ps ds=>exact Xj h fun hl h=>QS (P:=SE X F _) h fun cs hcs=>.of (ZhD K hg hG hl (ihA X sc N K as cs hcs))
  |blt=>
   have hm:X.mg f=none:=K.gl f _ hG;cases as with
   |nil=>exact Zb h
   |cons a as=>cases as with
    |nil=>exact Zfq K hf hg hm h
    |cons b as=>cases as with
     |nil=>exact Zfr K hf hg hm h
     |cons _ _=>exact Zb h
  |cls i ms subs=>cases as with
   |cons _ _=>exact Zb h
   |nil=>
    obtain⟨⟨j,ps⟩,hi,h⟩:=dF.mp h;refine Xj h fun hps h=>?_
    cases (show ps=1 from hps)
    cases h;exact .of (ZlL K hg hG hi)
  |_=>exact Zb h
theorem Zhz(ihA:Y6 G F n){ob:Expr}(h:Zid G ob m ap as pos (cEs G n sc N as) (cE G n sc N)=some c):SE X F (.Call (.Attribute ob m ap) as [] pos) c:=by
 cases ob with
 |Name y yp=>
  refine Xj h fun hc h=>?_
  by_cases hm:m = "split"
  ·subst hm
   rw[if_pos rfl]at h;exact Xj h fun h1 h=>Yf (P:=SE X F _) h fun x cs hx hcs=>.of (Zkf hc.1 h1 (hf _ x hx).pe (ihA X sc N K as cs hcs))
  ·rw[if_neg hm]at h
   by_cases hm2:m = "startswith"
   ·subst hm2
    rw[if_pos rfl]at h;exact Xj h fun h1 h=>Yf (P:=SE X F _) h fun x cs hx hcs=>.of (ZcZ hc.1 h1 (hf _ x hx).pe (ihA X sc N K as cs hcs))
   ·rw[if_neg hm2]at h
    exact Yf (P:=SE X F _) h fun x cs hx hcs=>.of (ZhH K hc.1 hc.2 (hf _ x hx).pe (ihA X sc N K as cs hcs))
 |Constant v kd kp=>cases as with
  |nil=>exact Zb h
  |cons a as=>cases as with
   |cons _ _=>exact Zb h
   |nil=>
    refine Xj h fun hc h=>Yf (P:=SE X F _) h fun x z hx hz=>?_
    obtain⟨rfl,hline⟩:=hc;exact .of (ZhE hline (Zj hz) (hf _ x hx).pe (hf a z hz).pe)
 |_=>exact Zb h
end
theorem ZaR(ihE:ZC G F n)(ihA:Y6 G F n)(ihO:Qm G F n)(hcomp:∀ X sc N,Cxt X G F sc N->∀ elt gens sc2 pos c,cE G (n+1) sc N (.ListComp elt gens sc2 pos)=some c->SE X F (.ListComp elt gens sc2 pos) c):ZC G F (n+1):=by
 intro X sc N K e c h;have hf:=ihE X sc N K;have no:∀ {P:Prop},(none:Ot CE)=some c->P:=fun z=>nomatch z
 cases e with
 |Constant v k pos=>exact Zft h
 |Name x pos=>exact ZhI K h
 |BinOp a op b pos=>exact Yf (P:=SE X F _) (show o2 (CE.bin op) (cE G n sc N a) (cE G n sc N b)=some c from h) fun x y hx hy=>.of (Zu (pe_op Zhk (hf a x hx).pe (hf b y hy).pe) QB)
 |UnaryOp op a pos=>exact ZlM (hf a) h
 |Compare a ops bs pos=>exact Zka K hf h
 |BoolOp op vs pos=>exact ZhC hf h
 |IfExp t a b pos=>exact UI (P:=SE X F _) (show o3 CE.ife (cE G n sc N t) (cE G n sc N a) (cE G n sc N b)=some c from h) fun z x y hz hx hy=>⟨Zu (pe_ifExp (hf t z hz).pt (hf a x hx).pe (hf b y hy).pe) Zjm,ZjT (hf t z hz).pt (hf a x hx).pt (hf b y hy).pt⟩
 |Tuple es k pos=>
  refine QS (P:=SE X F _) (show(cEs G n sc N es).map CE.tupE=some c from h) fun x q=>?_
  obtain⟨A,hA,_,_⟩:=ihA X sc N K es x q;exact .of (Zu (pe_tup A) (ZgS (fun ρ st ds st' e=>by obtain⟨ds',z,hz⟩:=Qo hA e;cases z;exact hz) fun ρ st d st' e=>by obtain⟨ds',z,hz⟩:=Qo hA e;exact⟨ds',z⟩))
 |List es pos=>
  refine QS (P:=SE X F _) (show(cEs G n sc N es).map CE.lstE=some c from h) fun x q=>?_
  obtain⟨A,hA,_,_⟩:=ihA X sc N K es x q;exact .of (Zu (pe_lst A) (ZgK fun ρ st ds st' e=>by obtain⟨ds',z,hz⟩:=Qo hA e;cases z;exact hz))
 |Dict keys vals pos=>cases keys with
  |nil=>cases vals with
   |nil=>cases h;exact .of (Zu pe_dnewK Zee)
   |cons _ _=>exact Zb h
  |cons k0 keys=>exact Zb h
 |Attribute o f pos=>exact .of (Zkb (fun x hx=>(hf o x hx).pe) h)
 |Subscript a b pos=>exact Zke K hf ihO h
 |Call f as kws pos=>cases kws with
  |cons _ _=>exact no h
  |nil=>cases f with
   |Attribute ob m ap=>exact Zhz K hf ihA h
   |Name f p=>exact Zfs K hf ihA h
   |_=>exact no h
 |ListComp elt gens sc2 pos=>exact hcomp X sc N K elt gens sc2 pos c h
 |_=>exact no h
theorem JY(ihE:ZC G F n)(ihA:Y6 G F n):Y6 G F (n+1):=by
 intro X sc N K es c h;cases es with
 |nil=>
  simp only[cEs]at h;cases h;exact⟨Up pa_nil Uc,trivial,rfl,fun _=>rfl⟩
 |cons e es=>
  refine Yf (P:=fun c=>PA X _ (tA X.K (ev F c))/\Zac c/\_/\(_->c=.aN)) (show o2 CE.aC (cE G n sc N e) (cEs G n sc N es)=some c from h) fun x r hx hr=>?_
  obtain⟨A,hA,hp,_⟩:=ihA X sc N K es r hr;exact⟨Up (pa_cons (ihE X sc N K e x hx).pe A (Zi (Zj hx))) W5,trivial,by rw[bA,hp,Zj hx];rfl,fun z=>nomatch z⟩
theorem JZ(ihE:ZC G F n):Qm G F (n+1):=by
 intro X sc N K e c h;cases e with
 |none=>
  simp only[cO]at h;cases h;exact Zfc po_none ZgL
 |some e=>
  simp only[cO]at h;cases q:cE G n sc N e with
  |none=>rw[q]at h;cases h
  |some x=>
   rw[q]at h;cases h;refine Zfc (po_some (ihE X sc N K e x q).pe) fun σ H Q hq=>?_
   obtain⟨ad,ρ,st,d,st',E,S,e1,p⟩:=hq;have e1:ZJ (ev F x) ZbH ρ st=some (d,st'):=e1;unfold ZJ at e1;split at e1
   ·rename_i y st1 q1
    cases y with
    |int i=>
     cases e1;rcases p with⟨z,_⟩|⟨j,z,p⟩
     ·cases z
     ·cases z
      exact⟨ad,ρ,st,.int i,_,E,S,q1,fun v ad' H' x S' d'=>⟨i,d'.ofInt,p ad' H' x S'⟩⟩
    |_=>simp[ZbH]at e1
   ·exact Zb e1
end
variable [ClsTab]
variable{α β:Type}
theorem b_e{P:Prop}{o:Ot α}{f:α->Ot β}{c:β}(h:o.bind f=some c)(k:∀ x,o=some x->f x=some c->P):P:=by
 cases o with
 |none=>exact Zb h
 |some x=>exact k x rfl h
theorem Ziz{s:Stmt}{t u:TS}(h1:PS X s t)(h2:PS X s u):PS X s (fun D σ H=>t D σ H\/u D σ H):=fun pQ s σ H D I q=>q.elim (h1 pQ s σ H D I) (h2 pQ s σ H D I)
variable{l:Nat}
theorem X5{tg:Ot Expr}(h:Xs e=false):swapsWith e tg l env=pure false:=by
 cases e<;>first|rfl|cases h
variable{tg:Expr}
theorem Ut(h:Xs e=false):swapsWithSole [tg] e l env=pure false:=X5 h
theorem Zah{k:Expr}{p:Pos}(h:Zq k=true):∀ v,assign (.Subscript o k p) env v=(do
   let ov <-holding [v] (eval o env)
   let iv <-holding [v,ov] (eval k env)
   standAt p
   holding [v,ov,iv] (setItem ov iv v)
   release [v,ov,iv] []):=by
 cases k<;>first | (intro _;rfl)|cases h
theorem ZaU{k:Expr}{p:Pos}:swappedStores [.Subscript o k p] e env=pure none:=by
 cases e<;>rfl
theorem Z9(h:Zq e=true):∀ x,foldedSetIterable e env x=pure x:=by
 cases e<;>first | (intro _;rfl)|cases h
structure CxtS(X:Cx)(G:Gs)(F:Nat->Fn)(sc:Scope)(N:List Str):Prop extends Cxt X G F sc N where
 nd:N.Nodup
 loc:∀ x∈N,Loc X.env.scope x
 fn:∀ x,X.fn x=true
variable{it elt:Expr}{gens:Li Comprehension}{sc2:Scope}{tp:Pos}{ctx t' kk:Nat}{h:Heap}{z:Ad}{elts:Li Expr}{newId:String}{kw:Li (Str×vL)}
section
variable {G:Gs}{F:Nat->Fn}
def Zae(G:Gs)(F:Nat->Fn)(n:Nat):Prop:=∀ X sc N,CxtS X G F sc N->∀ s c,cS G n sc N s=some c->PS X s (tS X.K (ex F c))
def Z7(G:Gs)(F:Nat->Fn)(n:Nat):Prop:=∀ X sc N,CxtS X G F sc N->∀ s c,cSs G n sc N s=some c->PSs X s (tS X.K (ex F c))
theorem QA{x:Str}(h:N.idxOf? x=some i):x∈N:=bG (Ww h)
theorem Xl{x:Str}{p:Pos}(K:CxtS X G F sc N)(h:N.idxOf? x=some i):PG X (.Name x p) (gName i):=
 pg_name (by rw[K.hN];exact K.nd) (by rw[K.hN];exact Ww h) (K.loc x (QA h)) (.inl (K.fn x))
theorem Wy(K:CxtS X G F sc N):PassesOwn (model X.prog X.w) X.A X.env X.xe:=by
 rw[K.nx];exact PassesOwn.never
theorem Ziy{x:Str}{p:Pos}(K:Cxt X G F sc N)(hl:Wq sc x=true)(hi:N.idxOf? x=some i):PE X (.Name x p) (tVar i):=
 pe_var (by rw[K.hN];exact Ww hi) (K.vis _ hl) (QJ hl).1 (QJ hl).2
theorem Vs{a:Expr}{x:CE}(K:Cxt X G F sc N)(h:Y1 G sc it=some a)(hp:Zq a=true)(A:PE X a (tE X.K (ev F x))):Zq it=true/\PI X tg it (iRng1 (tCons (tE X.K (ev F x)) tNil)):=by
 obtain⟨_,_,rfl,hg,hm⟩:=UK K h;exact⟨rfl,pi_range1 hg hm (pa1 hp A) (Zi hp)⟩
def VL(G:Gs)(F:Nat->Fn)(n:Nat):Prop:=∀ X sc N,CxtS X G F sc N->∀ (x:Str) (i:Nat) (p:Pos) elt gens sc2 epos (pos:Pos) c,N.idxOf? x=some i->cE G n sc N (.ListComp elt gens sc2 epos)=some c->
 swapsWith (.ListComp elt gens sc2 epos) (some (.Name x p)) pos.line X.env=pure true->PS X (.Assign [.Name x p] (.ListComp elt gens sc2 epos) pos) (tAsg (tE X.K (ev F c)) (gName i))
theorem ZaX{epos p:Pos}{x:Str}:∃ b:Bool,swapsWith (.ListComp elt gens sc2 epos) (some (.Name x p)) l env=pure b:=⟨_,rfl⟩
theorem ZeR(h:cE G n sc N e=some c):Xs e=false\/∃ elt gens sc2 epos,e=.ListComp elt gens sc2 epos:=by
 cases n with
 |zero=>exact nomatch (show(none:Ot CE)=some c from h)
 |succ n=>cases e<;>first|exact .inl rfl|exact .inr ⟨_,_,_,_,rfl⟩|exact nomatch (show(none:Ot CE)=some c from h)
theorem Zkj(ihE:ZC G F n)(hA:VL G F n)(K:CxtS X G F sc N){c:CS}{x:Str}{p:Pos}(h:o2 CS.set (N.idxOf? x) (cE G n sc N e)=some c):PS X (.Assign [.Name x p] e pos) (tS X.K (ex F c)):=by
 refine Yf (P:=fun c=>PS X _ (tS X.K (ex F c))) h fun i y hi hx=>?_
 have pl:∀ hs,PS X (.Assign [.Name x p] e pos) (tAsg (tE X.K (ev F y)) (gName i)):=fun hs=>ps_set (by rw[K.hN];exact K.nd) (by rw[K.hN];exact Ww hi) (K.loc _ (QA hi)) (ihE X sc N K.toCxt _ y hx).pe hs (.inl (K.fn _))
 rcases ZeR hx with hc|⟨elt,gens,sc2,epos,rfl⟩
 ·exact ZU (pl (X5 hc)) QC
 ·obtain⟨b,hb⟩:=ZaX (elt:=elt) (gens:=gens) (sc2:=sc2) (epos:=epos) (p:=p) (x:=x) (l:=pos.line) (env:=X.env)
  cases b with
  |false=>exact ZU (pl hb) QC
  |true=>exact ZU (hA X sc N K _ i p elt gens sc2 epos pos y hi hx hb) QC
theorem ZaV{ts:Li Expr}{k:Nat}(h:ZeA e=false):swappedStores [.Tuple ts k tp] e env=pure none:=by
 cases e with
 |Tuple=>cases h
 |_=>rfl
theorem ZhV(ihE:ZC G F n)(K:CxtS X G F sc N){c:CS}{x y:Str}{p:Pos}(h:og ((Xs e||ZeA e)=false) (o3 (fun i j c=>og (i≠j) (some (CS.set2 i j c))) (N.idxOf? x) (N.idxOf? y) (cE G n sc N e)).join=some c):PS X (.Assign [.Tuple [.Name x p,.Name y p2] ctx tp] e pos) (tS X.K (ex F c)):=by
 refine Xj h fun hc h=>j_e h fun h=>UI (P:=fun o=>o=some c->PS X _ (tS X.K (ex F c))) h (fun i j ce hi hj hx h=>Xj h fun _ h=>?_) rfl
 cases h;rw[Bool.or_eq_false_iff]at hc;exact ZU (ps_asg (ihE X sc N K.toCxt _ ce hx).pe (pg_tup K.calm (pgs_cons (Xl K hi) (pgs_cons (Xl K hj) pgs_nil))) (Ut hc.1) (ZaV hc.2)) Zeq
theorem Zkh(ihE:ZC G F n)(K:CxtS X G F sc N){c:CS}{fp:Pos}{kw:Li Keyword}(h:(cE G n sc N (.Call (.Name f fp) as kw cp)).map CS.act=some c):PS X (.Expr (.Call (.Name f fp) as kw cp) pos) (tS X.K (ex F c)):=by
 obtain⟨ce,hx,rfl⟩:=cV.mp h;exact ZU (ps_expr (ihE X sc N K.toCxt _ ce hx).pe rfl) Zbo
theorem ZhM(ihE:ZC G F n)(K:CxtS X G F sc N){c:CS}{k:Expr}{q:Pos}(h:og (Xs e=false/\Zle k=false) (o3 (CS.dput 0) (cE G n sc N o) (cE G n sc N k) (cE G n sc N e))=some c):PS X (.Assign [.Subscript o k q] e pos) (tS X.K (ex F c)):=
 Xj h fun hc h=>UI (P:=fun c=>PS X _ (tS X.K (ex F c))) h fun co ck ce ho hk he=>ZU (ps_asg (ihE X sc N K.toCxt _ ce he).pe (pg_sub (ihE X sc N K.toCxt _ co ho).pe (ihE X sc N K.toCxt _ ck hk).pe set_dK (Zah (Zj hk))) (Ut hc.1) ZaU) Zef
theorem ZhU(ihE:ZC G F n)(K:CxtS X G F sc N){c:CS}{x:Str}{p q:Pos}(h:og (Xs e=false/\Wq sc x=true/\fldNames.contains f=true) (o2 (fun i c=>CS.put i (.cst (.str f)) c) (N.idxOf? x) (cE G n sc N e))=some c):PS X (.Assign [.Attribute (.Name x p) f q] e pos) (tS X.K (ex F c)):=
 Xj h fun hc h=>Yf (P:=fun c=>PS X _ (tS X.K (ex F c))) h fun i ce hi he=>ZU (ps_fld (Ziy K.toCxt hc.2.1 hi) (ihE X sc N K.toCxt _ ce he).pe (X5 hc.1)) (ZgO hc.2.2)
theorem Zkl(ihS:Z7 G F n)(K:CxtS X G F sc N){c:CS}{b:Li Stmt}{h0:ExceptHandler}{hs:Li ExceptHandler}(h:cSs G n sc N b=some c):PS X (.Try b (h0 :: hs) [] [] pos) (tS X.K (ex F c)):=by
 intro pQ s σ H D I q;refine wpAny_Try_except (bC (ihS X sc N K _ c h pQ s σ H D I q) (fun f s1 hq=>?_) fun e s1 hx=>?_)
 ·cases f with
  |next=>exact aE hq
  |_=>exact hq
 ·rw[K.nx]at hx;exact hx.elim
theorem Zkk(ihE:ZC G F n)(K:CxtS X G F sc N){c:CS}(h:(cE G n sc N e).map CS.ret=some c):PS X (.Return (some e) pos) (tS X.K (ex F c)):=
 QS (P:=fun c=>PS X _ (tS X.K (ex F c))) h fun x q=>ZU (ps_ret (ihE X sc N K.toCxt _ x q).pe) ZgP
theorem ZlN(ihE:ZC G F n)(ihS:Z7 G F n)(K:CxtS X G F sc N){c:CS}{a b:Li Stmt}(h:o3 CS.ite (cE G n sc N e) (cSs G n sc N a) (cSs G n sc N b)=some c):PS X (.If e a b pos) (tS X.K (ex F c)):=
 UI (P:=fun c=>PS X _ (tS X.K (ex F c))) h fun cc ca cb hc ha hb=>ZU (ps_if (ihE X sc N K.toCxt _ cc hc).pt (ihS X sc N K _ ca ha) (ihS X sc N K _ cb hb)) ZgJ
theorem ZhP(ihA:Y6 G F n)(ihS:Z7 G F n)(K:CxtS X G F sc N){c:CS}{x:Str}{b:Li Stmt}{p:Pos}(hr:Vd G sc it=some as)(h:o3 CS.for3 (N.idxOf? x) (cEs G n sc N as) (cSs G n sc N b)=some c):PS X (.For (.Name x p) it b [] pos) (tS X.K (ex F c)):=by cases hr
theorem ZhN(ihE:ZC G F n)(ihS:Z7 G F n)(K:CxtS X G F sc N){c:CS}{x:Str}{b:Li Stmt}{p:Pos}(h:(match Y1 G sc it with
   |some a=>o3 (fun i c b=>CS.for1 i true c b) (N.idxOf? x) (cE G n sc N a) (cSs G n sc N b)
   |none=>o3 (fun i c b=>CS.for1 i false c b) (N.idxOf? x) (cE G n sc N it) (cSs G n sc N b))=some c):PS X (.For (.Name x p) it b [] pos) (tS X.K (ex F c)):=by
 cases ha:Y1 G sc it with
 |some a=>
  rw[ha]at h;refine UI (P:=fun c=>PS X _ (tS X.K (ex F c))) h fun i ci cb hi q hb=>?_
  obtain⟨hp,pi⟩:=Vs K.toCxt ha (Zj q) (ihE X sc N K.toCxt a _ q).pe;exact ZU (ps_for (Wy K) K.calm pi (Xl K hi) (ihS X sc N K _ cb hb) (Z9 hp)) Zek
 |none=>
  rw[ha]at h;refine UI (P:=fun c=>PS X _ (tS X.K (ex F c))) h fun i ci cb hi q hb=>?_
  have A:=(ihE X sc N K.toCxt _ _ q).pe;have hf:=Z9 (env:=X.env) (Zj q);exact ZU (Ziz (ps_for (Wy K) K.calm (pi_tup A) (Xl K hi) (ihS X sc N K _ cb hb) hf) (ps_for (Wy K) K.calm (pi_list A) (Xl K hi) (ihS X sc N K _ cb hb) hf)) Zei
theorem Vo{wr:Li Ad}(I:L2.Inv X pQ σ H s)(hf:∀ b∈wr,FpOk X pQ H b)(k:∀ b o,b∉wr->s.heap.get? b=some o->h'.get? b=some o):L2.Inv X pQ σ H { s with heap:=h',toks:=t' }:=by
 have nw:∀ b u,H b=some u->b∉wr:=fun b u e hb=>by have:=(hf b hb).1;rw[e]at this;cases this
 refine I.step (g':=s.gens) (d':=s.drawn) (ch:=wr) (fun b hb=>⟨(hf b hb).2.2.2.1,(hf b hb).2.1,(hf b hb).2.2.2.2.1,(hf b hb).2.2.2.2.2⟩) (fun b o _ _ hc e _=>k b o hc e) (fun b o _ _ hc e _=>⟨o.slots,k b o hc e⟩)
  (fun b o _ e n=>n) (fun b o hc e=>⟨o,k b o hc e⟩) (fun b ys e=>e) (fun b o u e=>e) (fun b ps e=>⟨#[],by rw[e];simp⟩) (fun m hm=>?_) (fun b u e=>?_) I.bare
 ·obtain⟨o,es,ep,ho,r⟩:=hm
  exact⟨o,es,ep,k _ o (fun z=>(hf _ z).2.1 rfl) ho,r⟩
 ·refine(I.hok b u e).stay (fun c v hc q=>k c v ?_ q) (fun c q=>q) fun c ys q=>q
  rcases hc with z|z
  ·rw[z];exact nw b u e
  ·exact nw c _ z
theorem Wp{wr:Li Ad}{T:Ad}{xs:Li V}(I:L2.Inv X pQ σ H s)(hf:∀ b∈wr,FpOk X pQ H b)(k:∀ b o,b∉wr->s.heap.get? b=some o->h'.get? b=some o)(hT:s.heap.objs.size<=T)(new:ObjOk X.prog X.w (upd H T (.tup xs)) h' T (.tup xs)):L2.Inv X pQ σ (upd H T (.tup xs)) { s with heap:=h',toks:=t' }:=by
 have hn:H T=none:=I.hok.fresh hT;have nT:∀ b u,s.heap.get? b=some u->b≠T:=fun b u e=>aX (aP (aG e) hT)
 have nw:∀ b u,H b=some u->b∉wr:=fun b u e hb=>by have:=(hf b hb).1;rw[e]at this;cases this
 refine I.step (g':=s.gens) (d':=s.drawn) (ch:=wr) (fun b hb=>⟨(hf b hb).2.2.2.1,(hf b hb).2.1,(hf b hb).2.2.2.2.1,(hf b hb).2.2.2.2.2⟩) (fun b o _ _ hc e _=>k b o hc e) (fun b o _ _ hc e _=>⟨o.slots,k b o hc e⟩)
  (fun b o _ e n=>by rw[upd_ne (nT b o e)];exact n) (fun b o hc e=>⟨o,k b o hc e⟩) (fun b ys e=>by rw[upd_ne (ne_of_none e hn)];exact e) (fun b o u e=>by rw[upd_ne (ne_of_none e hn)];exact e) (fun b ps e=>⟨#[],by rw[upd_ne (ne_of_none e hn),e];simp⟩) (fun m hm=>?_) (fun b u e=>?_) I.bare
 ·obtain⟨o,es,ep,ho,r⟩:=hm
  exact⟨o,es,ep,k _ o (fun z=>(hf _ z).2.1 rfl) ho,r⟩
 ·by_cases hb:b=T
  ·subst hb;rw[upd_same]at e;cases e;exact new
  ·rw[upd_ne hb]at e
   refine(I.hok b u e).stay (fun c v hc q=>k c v ?_ q) (fun c q=>by rw[upd_ne (ne_of_none q hn)];exact q) fun c ys q=>by rw[upd_ne (ne_of_none q hn)];exact q
   rcases hc with z|z
   ·rw[z];exact nw b u e
   ·exact nw c _ z
theorem ZbO{a:Ad}{xs:Li V}(I:L2.Inv X pQ σ H s)(h1:SqL X.K H a xs)(h2:SqL X.K H a ys):ys=xs:=by
 obtain⟨i1,r1,⟨o1,n1,g1,_,_,d1⟩,_⟩:=I.list h1;obtain⟨i2,r2,⟨o2,n2,g2,_,_,d2⟩,_⟩:=I.list h2;rw[g1]at g2;cases g2;rw[d1]at d2;have e:i1.toArray=i2.toArray:=by injection d2
 have e:i1=i2:=by simpa using e
 subst e;exact Vals.inj r2 r1
section
variable {prog:Program}{w:World}{A:Around}{E:vL->Sd->Prop}{s:Sd}
open Sem (wp)
open AutoSeq1 (wpAny_loadPart')
omit [ClsTab] in
theorem JJ{it l:Ad}{i:Nat}{items:Array vL}{Q:vL->Sd->Prop}(hh:A.handled=none)(hit:s.heap.IsTupleIter it l i)(hl:s.heap.IsTuple l items)(hQ:∀ x h',items[i]?=some x->h'.IsTupleIter it l (i+1)->Heap.SameBut it s.heap h'->Q x { s with heap:=h' })(hE:items[i]?=none->∀ h' e,Heap.ExtBut it s.heap h'->(∃ o,h'.get? e=some o/\o.cls=.type "StopIteration")->E (.ref e) { s with heap:=h' }) :
  wpAny (model prog w) A (Builtin.SmallTypes.nextOf (.ref it)) Q E s:=by
 obtain⟨o,ho,hc,hd⟩:=id hit;obtain⟨ol,hol,_,nl,hdl⟩:=hl;unfold Builtin.SmallTypes.nextOf;refine aA (wpAny_callSpecial?_slot (name:=Str.ofString "__next__") hit.typeIs PySem.F.slot_tuple_iterator_next
  (wpAny_call_entry PySem.F.slot_tuple_iterator_next hit.typeIs PySem.F.entry_tuple_iterator_next ?_ (PySem.F.args_tuple_iterator_next_1 _)))
 show wpAny _ _ (field (.ref it) 0 >>= _) _ _ s;refine aA (wpAny_field ho hd (x:=.ref l) rfl ?_);show wpAny _ _ (if (Value.ref l==Value.none)=true then _ else _) _ _ s
 rw[if_neg (show ¬((Value.ref l==Value.none)=true) from Bf)];show wpAny _ _ (field (.ref it) 1 >>= _) _ _ s;refine aA (wpAny_field ho hd (x:=.int i 0) rfl ?_);show wpAny _ _ (seqItems? (.ref l) >>= _) _ _ s;refine aA (wpAny_seqItems hol hdl ?_);cases hx:items[i]? with
 |some x=>
  simp only[bT,hx];refine aA (wpAny_setField ho hd (by simp) (aE ⟨x,rfl,aE (hQ _ _ hx ?_ (Heap.SameBut.update ..))⟩))
  exact⟨_,Heap.get?_update_self _ ho (Obj.isFreed_of_fields (Obj.data_mapFields hd _)),(Obj.cls_mapFields ..).trans hc,by
   rw[Obj.data_mapFields hd];simp[rawInt]⟩
 |none=>
  simp only[bT,hx];refine aA (wpAny_rule (aA (wpAny_setField ho hd (by simp) ?_)))
  show wpAny _ _ (newExc (.type "StopIteration") [] >>= _) _ _ _;refine aA ?_;simp only[newExc,newTuple];refine aA (wpAny_newObj_type ?_ (by size_fits))
  refine aA (m:=firstArgMember _ _) (wpAny_of_eq (a:=Value.none) (by first|rfl | (simp only[firstArgMember];rfl)) ?_)
  refine wpAny_newObj_type ?_ (by size_fits)
  simp only[raiseNew];refine aA (wpAny_handled ?_)
  first|rw[show A.in1.handled=none from hh]|rw[hh]
  refine aA (aE (wpAny_throw ?_));exact hE hx _ _ (((Heap.SameBut.update ..).extBut.push _).push _) ⟨_,aV _ rfl,rfl⟩
end
structure ZD(z TI TO i1 i2:Addr):Prop where
 a:TI≠z
 b:TO≠z
 c:i1≠z
 d:i2≠z
 e:TI≠TO
 f:TI≠i1
 g:TI≠i2
 h:TO≠i1
 i:TO≠i2
 j:i1≠i2
section
variable {prog:Program}{w:World}{A:Around}{s:Sd}{z TI TO i1 i2:Ad}{x y a b:vL}{S1 S2:Heap->Prop}
open Builtin.SmallTypes
def KB(l:Li Ad)(h h':Heap):Prop:=∀ c o,c∉l->h.get? c=some o->h'.get? c=some o
theorem KB.of{l:Li Ad}{p:Ad}(k:Heap.SameBut p h h')(m:p∈l):KB l h h':=fun c o n e=>k.extBut c o (fun q=>n (q ▸ m)) e
theorem KB.trans{l:Li Ad}{h1 h2 h3:Heap}(x:KB l h1 h2)(y:KB l h2 h3):KB l h1 h3:=fun c o n e=>y c o n (x c o n e)
theorem Zlp{TO:Ad}:z∈[z,TO,i1,i2]/\TO∈[z,TO,i1,i2]/\i1∈[z,TO,i1,i2]/\i2∈[z,TO,i1,i2]:=⟨.head _,.tail _ (.head _),.tail _ (.tail _ (.head _)),.tail _ (.tail _ (.tail _ (.head _)))⟩
def Nx(prog:Program)(w:World)(A:Around)(s:Sd)(l:Li Ad)(i:Ad)(x:vL)(S:Heap->Prop):Prop:=
 ∀ (h:Heap) (Q E:vL->Sd->Prop),KB l s.heap h->(∀ h',S h'->Heap.SameBut i h h'->Q x { s with heap:=h' })->wpAny (model prog w) A (nextOf (.ref i)) Q E { s with heap:=h }
def Nz(prog:Program)(w:World)(A:Around)(s:Sd)(l:Li Ad)(i:Ad):Prop:=
 ∀ (h:Heap) (Q E:vL->Sd->Prop),KB l s.heap h->(∀ h' e,Heap.ExtBut i h h'->(∃ o,h'.get? e=some o/\o.cls=.type "StopIteration")->E (.ref e) { s with heap:=h' })->wpAny (model prog w) A (nextOf (.ref i)) Q E { s with heap:=h }
theorem Zh8{Q:vL->Sd->Prop}(d:ZD z TI TO i1 i2)(hz:IsZip s.heap z TI TO .none)(hI:IsPair s.heap TI (.ref i1) (.ref i2))(hO:IsPair s.heap TO a b)(n1:Nx prog w A s [z] i1 x S1)(n2:Nx prog w A s [z,TO,i1] i2 y S2)(k1:∀ h h',S1 h->(∀ o,h.get? i1=some o->h'.get? i1=some o)->S1 h')(k2:∀ h h',S2 h->(∀ o,h.get? i2=some o->h'.get? i2=some o)->S2 h')(hQ:∀ h',IsZip h' z TI TO (rawInt s.heap.objs.size)->IsPair h' TO x y->S1 h'->S2 h'->IsPair h' s.heap.objs.size x y->KB [z,TO,i1,i2] s.heap h'->Q (.ref s.heap.objs.size) { s with heap:=h' }) :
  wpAny (model prog w) A (Builtin.«zip.__next__» ⟨[.ref z],[]⟩) (fun fin s'=>∃ v,fin=.done (.ret v)/\Q v s') E s:=by
 obtain⟨m1,m2,m3,m4⟩:=Zlp (z:=z) (TO:=TO) (i1:=i1) (i2:=i2);show wpAny _ _ (field (.ref z) 2 >>= _) _ _ _;refine aA (wpAny_field hz rfl (x:=.bool false) rfl (aA (wpAny_field hz rfl (x:=.ref TI) rfl (aA (wpAny_seqItems hI rfl ?_)))));show wpAny _ _ (ownedTupleIsFree (.ref z) >>= _) _ _ _;unfold ownedTupleIsFree;refine aA (aA (wpAny_field hz rfl (x:=.none) rfl (aE ?_)))
 simp only[if_true];refine aA (wpAny_rule (aA (wpAny_field hz rfl (x:=.ref TO) rfl (aA (wpAny_setField_rec hz (by simp) fun g1 u1 t1=>aA ?_)))))
 simp only[List.zipIdx_cons,List.zipIdx_nil,dS,List.forIn_nil];refine aA (aA (wpAny_onRaise ?_));show wpAny _ _ (nextOf (.ref i1) >>= _) _ _ _;have K1:KB [z] s.heap g1:=KB.of t1 (.head _);refine aA (n1 g1 _ _ K1 fun g2 v2 t2=>aE ?_)
 have o2:IsPair g2 TO a b:=t2.extBut _ _ d.h (t1.extBut _ _ d.b hO);refine aA (wpAny_seqItems o2 rfl (aA (wpAny_updateSeq_pair o2 fun g3 o3 t3=>aA (wpAny_letGo (aE ?_)))))
 have o3:IsPair g3 TO x b:=o3;refine aA (aA (wpAny_onRaise ?_));show wpAny _ _ (nextOf (.ref i2) >>= _) _ _ _;have K3:KB [z,TO,i1] s.heap g3:=(KB.of t1 (.head _)).trans ((KB.of t2 (.tail _ (.tail _ (.head _)))).trans (KB.of t3 (.tail _ (.head _))));refine aA (n2 g3 _ _ K3 fun g4 v4 t4=>aE ?_)
 have o4:IsPair g4 TO x b:=t4.extBut _ _ d.i o3;refine aA (wpAny_seqItems o4 rfl (aA (wpAny_updateSeq_pair o4 fun g5 o5 t5=>aA (wpAny_letGo (aE (aE ?_))))))
 have o5:IsPair g5 TO x y:=o5;refine aA (wpAny_seqItems o5 rfl (aA (wpAny_newTuple ?_)));have K4:KB [z,TO,i1,i2] s.heap g5:=((KB.of t1 m1).trans ((KB.of t2 m3).trans ((KB.of t3 m2).trans ((KB.of t4 m4).trans (KB.of t5 m2)))));have sz:g5.objs.size=s.heap.objs.size:=by rw[t5.1,t4.1,t3.1,t2.1,t1.1]
 have u5:IsZip g5 z TI TO .ellipsis:=t5.extBut _ _ d.b.symm (t4.extBut _ _ d.d.symm (t3.extBut _ _ d.b.symm (t2.extBut _ _ d.c.symm u1)));have zl:=aG u5;show wpAny _ _ (ownedTupleHandOut (.ref z) (.ref g5.objs.size) >>= _) _ _ _;unfold ownedTupleHandOut;have u6:IsZip (g5.push { cls:=.type "tuple",data:=.seq #[x,y] }) z TI TO .ellipsis:=aL _ u5;refine aA (aA (wpAny_setField_rec u6 (by simp) fun g7 u7 t7=>?_))
 have u7:IsZip g7 z TI TO (rawInt g5.objs.size):=u7;refine wpAny_setField_rec u7 (by simp) fun g8 u8 t8=>aE ⟨_,rfl,?_⟩
 have u8:IsZip g8 z TI TO (rawInt g5.objs.size):=u8;have up:∀ c o,c≠z->g5.get? c=some o->g8.get? c=some o:=fun c o n e=>t8.extBut _ _ n (t7.extBut _ _ n (aL _ e))
 have p8:IsPair g8 g5.objs.size x y:=t8.extBut _ _ (Nat.ne_of_gt zl) (t7.extBut _ _ (Nat.ne_of_gt zl) (aV _ rfl));show Q (.ref g5.objs.size) _;rw[sz]at u8 p8 ⊢;exact hQ g8 u8 (up _ _ d.b o5) (k1 _ _ v2 fun o e=>up _ _ d.c (t5.extBut _ _ d.h.symm (t4.extBut _ _ d.j (t3.extBut _ _ d.h.symm e)))) (k2 _ _ v4 fun o e=>up _ _ d.d (t5.extBut _ _ d.i.symm e)) p8 (K4.trans fun c o n e=>up c o (fun q=>n (q ▸ m1)) e)
theorem ZfO{Q:Fin->Sd->Prop}(d:ZD z TI TO i1 i2)(hz:IsZip s.heap z TI TO .none)(hI:IsPair s.heap TI (.ref i1) (.ref i2))(hO:IsPair s.heap TO a b)(n:Nz prog w A s [z] i1\/∃ x S,Nx prog w A s [z] i1 x S/\Nz prog w A s [z,TO,i1] i2)(hE:∀ h' e,KB [z,TO,i1,i2] s.heap h'->(∃ o,h'.get? e=some o/\o.cls=.type "StopIteration")->E (.ref e) { s with heap:=h' }):wpAny (model prog w) A (Builtin.«zip.__next__» ⟨[.ref z],[]⟩) Q E s:=by
 obtain⟨m1,m2,m3,m4⟩:=Zlp (z:=z) (TO:=TO) (i1:=i1) (i2:=i2);show wpAny _ _ (field (.ref z) 2 >>= _) _ _ _;refine aA (wpAny_field hz rfl (x:=.bool false) rfl (aA (wpAny_field hz rfl (x:=.ref TI) rfl (aA (wpAny_seqItems hI rfl ?_)))));show wpAny _ _ (ownedTupleIsFree (.ref z) >>= _) _ _ _;unfold ownedTupleIsFree;refine aA (aA (wpAny_field hz rfl (x:=.none) rfl (aE ?_)))
 simp only[if_true];refine aA (wpAny_rule (aA (wpAny_field hz rfl (x:=.ref TO) rfl (aA (wpAny_setField_rec hz (by simp) fun g1 u1 t1=>aA ?_)))))
 simp only[List.zipIdx_cons,List.zipIdx_nil,dS,List.forIn_nil];refine aA (aA (wpAny_onRaise ?_));show wpAny _ _ (nextOf (.ref i1) >>= _) _ _ _;have u1:IsZip g1 z TI TO .ellipsis:=u1;have K1:KB [z] s.heap g1:=KB.of t1 (.head _);have out:∀ {g:Heap}{e:Ad},IsZip g z TI TO .ellipsis->KB [z,TO,i1,i2] s.heap g->(∃ o,g.get? e=some o/\o.cls=.type "StopIteration")->∀ g',Heap.SameBut z g g'->E (.ref e) { s with heap:=g' }:=fun {g e} u k ⟨o,ho,hc⟩ g' t=>by
  have ne:e≠z:=fun q=>by subst q;rw[u]at ho;cases ho;simp at hc
  exact hE g' e (k.trans (KB.of t m1)) ⟨o,t.extBut _ _ ne ho,hc⟩
 rcases n with n|⟨x,S,n1,n2⟩
 ·refine aA (n g1 _ _ K1 fun g2 e t2 he=>?_)
  have u2:IsZip g2 z TI TO .ellipsis:=t2 _ _ d.c.symm u1;exact wpAny_setField_rec u2 (by simp) fun g3 _ t3=>out u2 ((KB.of t1 m1).trans fun c o n e=>t2 c o (fun q=>n (q ▸ m3)) e) he g3 t3
 ·refine aA (n1 g1 _ _ K1 fun g2 v2 t2=>aE ?_)
  have o2:IsPair g2 TO a b:=t2.extBut _ _ d.h (t1.extBut _ _ d.b hO);refine aA (wpAny_seqItems o2 rfl (aA (wpAny_updateSeq_pair o2 fun g3 o3 t3=>aA (wpAny_letGo (aE ?_)))))
  refine aA (aA (wpAny_onRaise ?_));show wpAny _ _ (nextOf (.ref i2) >>= _) _ _ _;have K3:KB [z,TO,i1] s.heap g3:=(KB.of t1 (.head _)).trans ((KB.of t2 (.tail _ (.tail _ (.head _)))).trans (KB.of t3 (.tail _ (.head _))));refine aA (n2 g3 _ _ K3 fun g4 e t4 he=>?_)
  have u4:IsZip g4 z TI TO .ellipsis:=t4 _ _ d.d.symm (t3.extBut _ _ d.b.symm (t2.extBut _ _ d.c.symm u1));exact wpAny_setField_rec u4 (by simp) fun g5 _ t5=>out u4 ((KB.of t1 m1).trans ((KB.of t2 m3).trans ((KB.of t3 m2).trans fun c o n e=>t4 c o (fun q=>n (q ▸ m4)) e))) he g5 t5
end
structure ZSt(z TI TO i1 i2 a b:Addr)(i:Nat)(h:Heap):Prop where
 hz:IsZip h z TI TO .none
 hI:IsPair h TI (.ref i1) (.ref i2)
 hO:∃ u v,IsPair h TO u v
 h1:h.IsListIter i1 a i
 h2:h.IsTupleIter i2 b i
theorem ZbV{TI TO i1 i2 c:Ad}(h:c∈[z,TO,i1,i2]):c∈[z,TI,TO,i1,i2]:=by
 rcases aJ.mp h with rfl|h
 ·exact .head _
 ·exact .tail _ (.tail _ h)
theorem ZbW{TI TO i1 i2 a b c:Ad}(st:ZSt z TI TO i1 i2 a b i h)(hc:c∈[z,TI,TO,i1,i2]):∃ o,h.get? c=some o/\∀ v,o.data≠.cell v:=by
 obtain⟨hz,hI,⟨u,v,hO⟩,⟨o1,g1,_,f1⟩,⟨o2,g2,_,f2⟩⟩:=st;simp only[aJ,aU,or_false]at hc;rcases hc with rfl|rfl|rfl|rfl|rfl
 ·exact⟨_,hz,fun v q=>by cases (show Data.fields _=Data.cell v from q)⟩
 ·exact⟨_,hI,fun v q=>by cases (show Data.seq _ _=Data.cell v from q)⟩
 ·exact⟨_,hO,fun v q=>by cases (show Data.seq _ _=Data.cell v from q)⟩
 ·exact⟨_,g1,fun v q=>by rw[f1]at q;cases q⟩
 ·exact⟨_,g2,fun v q=>by rw[f2]at q;cases q⟩
theorem Zbl{a c:Ad}(I:L2.Inv X pQ σ H s)(f:FpOk X pQ H c)(h:(∃ o,H a=some o)\/∃ o,X.K.lookup a=some o):a≠c:=fun q=>by
 subst q;rcases h with⟨o,h⟩|⟨o,h⟩
 ·rw[f.1]at h;cases h
 ·have hb:=I.ok.mod.kin a o h
  rcases f.2.2.2.1 with g|g
  ·exact I.ok.noex a o hb g
  ·exact absurd (aG (I.ok.bs a o hb).1) (Nat.not_lt.mpr g)
theorem Zkt{K:Fg}{a:Ad}{xs:Li V}(h:SqT K H a xs):(∃ o,H a=some o)\/∃ o,K.lookup a=some o:=by
 rcases h with(h|⟨o,h⟩)|⟨o,its,n,h,_⟩
 ·exact .inl ⟨_,h⟩
 ·exact .inl ⟨_,h⟩
 ·exact .inr ⟨_,h⟩
theorem ZaS{K:Fg}{a:Ad}{xs:Li V}(h:SqL K H a xs):(∃ o,H a=some o)\/∃ o,K.lookup a=some o:=by
 rcases h with(h|⟨o,h⟩)|⟨o,its,n,h,_⟩
 ·exact .inl ⟨_,h⟩
 ·exact .inl ⟨_,h⟩
 ·exact .inr ⟨_,h⟩
theorem Zab{TI TO:Ad}{Q:Ot vL->Sd->Prop}(hz:IsZip s.heap z TI TO .none)(h:∀ {Qf:Fin->Sd->Prop}{Ef:vL->Sd->Prop},(∀ v s',Q (some v) s'->Qf (.done (.ret v)) s')->(∀ e s',(∃ o,s'.heap.get? e=some o/\o.cls=.type "StopIteration")->Q none s'->Ef (.ref e) s')->wpAny (model prog w) A.in1 (Builtin.«zip.__next__» ⟨[.ref z],[]⟩) Qf Ef s):wpAny (model prog w) A (pyNext (.ref z)) Q E s:=by
 have hT:s.TypeIs (.ref z) "zip":=⟨_,hz,rfl⟩;unfold pyNext;refine aA (wpAny_attempt (wpAny_callSpecial?_slot (name:=Str.ofString "__next__") hT F.slot_zip_next (wpAny_call_entry F.slot_zip_next hT F.entry_zip_next (h (fun v s' q=>⟨v,rfl,aE q⟩) fun e s' he q=>?_) (F.args_zip_next_1 _))))
 obtain⟨o,ho,hc⟩:=he;exact aA (wpAny_isInstance (T := "StopIteration") (b:=true) ⟨o,ho,hc⟩ isSubtype_stop (aE q))
section
variable {X:Cx}{z TI TO i1 i2 a b:Ad}{i:Nat}{pQ:Li (Ad×Obj)}{s:Sd}{σ:L2.St}{H:Hp}{E:vL->Sd->Prop}
theorem nl{l:Li Ad}{c:Ad}(h:∀ d∈l,c≠d):c∉l:=fun m=>h c m rfl
theorem ZfP(d:ZD z TI TO i1 i2)(hc:X.calm=true)(I:L2.Inv X pQ σ H s)(hf:∀ c∈[z,TI,TO,i1,i2],FpOk X pQ H c)(st:ZSt z TI TO i1 i2 a b i s.heap){xs:Li V}(sq1:SqL X.K H a xs)(sq2:SqT X.K H b ys){its1 its2:Li vL}(p1:s.heap.IsList a its1.toArray)(p2:s.heap.IsTuple b its2.toArray) :
  (∀ u,its1.toArray[i]?=some u->Nx X.prog X.w X.A.in1 s [z] i1 u fun h=>h.IsListIter i1 a (i+1))/\(its1.toArray[i]?=none->Nz X.prog X.w X.A.in1 s [z] i1)/\(∀ u,its2.toArray[i]?=some u->Nx X.prog X.w X.A.in1 s [z,TO,i1] i2 u fun h=>h.IsTupleIter i2 b (i+1))/\(its2.toArray[i]?=none->Nz X.prog X.w X.A.in1 s [z,TO,i1] i2):=by
 have na:∀ {c},c∈[z,TI,TO,i1,i2]->a≠c:=fun m=>Zbl I (hf _ m) (ZaS sq1)
 have nb:∀ {c},c∈[z,TI,TO,i1,i2]->b≠c:=fun m=>Zbl I (hf _ m) (Zkt sq2)
 have m1:z∈[z,TI,TO,i1,i2]:=.head _;have e1:∀ h,KB [z] s.heap h->h.IsListIter i1 a i/\h.IsList a its1.toArray:=fun h k=>⟨st.h1.at fun o e=>k _ o (nl fun c m=>by rw[bH.mp m];exact d.c) e,p1.at fun o e=>k _ o (nl fun c m=>by rw[bH.mp m];exact na m1) e⟩
 have e2:∀ h,KB [z,TO,i1] s.heap h->h.IsTupleIter i2 b i/\h.IsTuple b its2.toArray:=fun h k=>⟨st.h2.at fun o e=>k _ o (nl fun c m=>by
   simp only[aJ,aU,or_false]at m;rcases m with rfl|rfl|rfl
   ·exact d.d
   ·exact d.i.symm
   ·exact d.j.symm) e,p2.at fun o e=>k _ o (nl fun c m=>nb (by
   simp only[aJ,aU,or_false]at m ⊢;rcases m with rfl|rfl|rfl
   ·exact .inl rfl
   ·exact .inr (.inr (.inl rfl))
   ·exact .inr (.inr (.inr (.inl rfl))))) e⟩
 have hh:X.A.in1.handled=none:=I.ok.hd hc;refine⟨fun u eu h Q E k hq=>?_,fun eu h Q E k hq=>?_,fun u eu h Q E k hq=>?_,fun eu h Q E k hq=>?_⟩
 ·obtain⟨f1,f2⟩:=e1 h k
  exact wpAny_nextOf_list_item (s:={ s with heap:=h }) f1 f2 eu fun h2 v t=>hq h2 v t
 ·obtain⟨f1,f2⟩:=e1 h k
  exact wpAny_nextOf_list_end (s:={ s with heap:=h }) hh f1 f2 eu fun h2 e t he=>hq h2 e t he
 ·obtain⟨f1,f2⟩:=e2 h k
  exact JJ (s:={ s with heap:=h }) hh f1 f2 (fun x h2 ex v t=>by rw[eu]at ex;cases ex;exact hq h2 v t) fun ex=>by rw[eu]at ex;cases ex
 ·obtain⟨f1,f2⟩:=e2 h k
  exact JJ (s:={ s with heap:=h }) hh f1 f2 (fun x h2 ex v t=>by rw[eu]at ex;cases ex) fun _ h2 e t he=>hq h2 e t he
theorem ZfN(d:ZD z TI TO i1 i2)(hc:X.calm=true)(I:L2.Inv X pQ σ H s)(hf:∀ c∈[z,TI,TO,i1,i2],FpOk X pQ H c)(st:ZSt z TI TO i1 i2 a b i s.heap)(hg:(Itz X.K a b).go i H) :
  wpAny (model X.prog X.w) X.A (pyNext (.ref z)) (fun r s1=>∃ u,r=some u/\wpAny (model X.prog X.w) X.A (letOwnedTupleGo (.Tuple elts kk pos) (.ref z) u) (fun _ s2=>∃ x H',L2.Inv X pQ σ H' s2/\RelV x u/\(Itz X.K a b).yld i H x H'/\ZSt z TI TO i1 i2 a b (i+1) s2.heap/\∀ c∈[z,TI,TO,i1,i2],H' c=none) E s1) E s:=by
 obtain⟨xs,ys,x,y,sq1,sq2,ex,ey⟩:=hg;obtain⟨its1,r1,p1,_⟩:=I.list sq1;obtain⟨its2,r2,p2,_⟩:=I.tuple sq2;obtain⟨n1,_,n2,_⟩:=ZfP d hc I hf st sq1 sq2 p1.isList p2;obtain⟨u,eu,ru⟩:=r1.get ex;obtain⟨v,ev,rv⟩:=r2.get ey;have eu:its1.toArray[i]?=some u:=by rw[cL];exact eu
 have ev:its2.toArray[i]?=some v:=by rw[cL];exact ev
 obtain⟨oa,ob,hO⟩:=st.hO;refine Zab st.hz fun {Qf Ef} hq _=>bC (Zh8 d st.hz st.hI hO (n1 u eu) (n2 v ev) (fun h h' q k=>q.at k) (fun h h' q k=>q.at k) (Q:=fun r s1=>Qf (.done (.ret r)) s1) (E:=Ef) fun g a1 a2 a3 a4 a5 kb=>hq _ _ ⟨_,rfl,?_⟩) (fun r s1 ⟨v,e,q⟩=>by rw[e];exact q) fun _ _ e=>e
 refine wpAny_letOwnedTupleGo_zip (s:={ s with heap:=g }) a1 fun g2 b1 t2=>?_
 have hT:s.heap.objs.size<=s.heap.objs.size:=aB _;have zn:∀ c∈[z,TI,TO,i1,i2],c≠s.heap.objs.size:=fun c hcm q=>by
  obtain⟨o,e,_⟩:=ZbW st hcm;exact absurd (aG e) (by rw[q];exact bW _)
 have kb2:KB [z,TO,i1,i2] s.heap g2:=kb.trans (KB.of t2 (.head _));have tn:s.heap.objs.size≠z:=fun q=>zn z (.head _) q.symm
 have up:∀ c o,c≠z->g.get? c=some o->g2.get? c=some o:=fun c o n e=>t2.extBut c o n e
 have I2:L2.Inv X pQ σ (upd H s.heap.objs.size (.tup [x,y])) { s with heap:=g2,toks:=s.toks }:=Wp (wr:=[z,TO,i1,i2]) I (fun c hcm=>hf c (ZbV hcm)) (fun c o n e=>kb2 c o n e) hT ⟨show 2<=sizeLine by decide,[u,v],.cons ru (.cons rv .nil),⟨_,up _ _ tn a5,rfl,_,rfl⟩⟩
 have fr:H s.heap.objs.size=none:=I.hok.fresh (aB _);refine⟨.ref s.heap.objs.size,upd H s.heap.objs.size (.tup [x,y]),I2,rfl,⟨_,x,y,rfl,fr,rfl,fun xs' q=>by rw[ZbO I sq1 q];exact ex,fun ys' q=>by rw[I.tuple_inj q sq2];exact ey⟩,⟨b1,up _ _ d.a (kb _ _ (nl fun c m=>?_) st.hI),⟨_,_,up _ _ d.b a2⟩,a3.at fun o e=>up _ o d.c e,a4.at fun o e=>up _ o d.d e⟩,fun c hcm=>?_⟩
 ·simp only[aJ,aU,or_false]at m
  rcases m with rfl|rfl|rfl|rfl
  ·exact d.a
  ·exact d.e
  ·exact d.f
  ·exact d.g
 ·rw[upd_ne (zn c hcm)]
  exact(hf c hcm).1
theorem ZfM(d:ZD z TI TO i1 i2)(hc:X.calm=true)(I:L2.Inv X pQ σ H s)(hf:∀ c∈[z,TI,TO,i1,i2],FpOk X pQ H c)(st:ZSt z TI TO i1 i2 a b i s.heap)(hg:(Itz X.K a b).stop i H) :
  wpAny (model X.prog X.w) X.A (pyNext (.ref z)) (fun r s1=>r=none/\L2.Inv X pQ σ H s1) E s:=by
 obtain⟨xs,ys,sq1,sq2,hle⟩:=hg;obtain⟨its1,r1,p1,_⟩:=I.list sq1;obtain⟨its2,r2,p2,_⟩:=I.tuple sq2;obtain⟨n1,z1,n2,z2⟩:=ZfP d hc I hf st sq1 sq2 p1.isList p2;obtain⟨oa,ob,hO⟩:=st.hO;have l1:=r1.length;have l2:=r2.length;have dn:Nz X.prog X.w X.A.in1 s [z] i1\/∃ x S,Nx X.prog X.w X.A.in1 s [z] i1 x S/\Nz X.prog X.w X.A.in1 s [z,TO,i1] i2:=by
  cases q:its1.toArray[i]? with
  |none=>exact .inl (z1 q)
  |some u=>
   rw[cL,bI]at q;refine .inr ⟨u,_,n1 u (by rw[cL,bI];exact q),z2 ?_⟩
   rw[cL,List.getElem?_eq_none_iff];have:=q.1;omega
 exact Zab st.hz fun {Qf Ef} _ he=>ZfO d st.hz st.hI hO dn fun g e kb hs=>he e _ hs ⟨rfl,Vo (t':=s.toks) (wr:=[z,TO,i1,i2]) I (fun c hcm=>hf c (ZbV hcm)) fun c o n e=>kb c o n e⟩
end
theorem ZfE{P:Program}{K:Fg}(z TI TO i1 i2 a b:Ad)(d:ZD z TI TO i1 i2):Turn P w K (.Tuple elts kk pos) (Itz K a b) [z,TI,TO,i1,i2] z (ZSt z TI TO i1 i2 a b) where
 mem:=.head _
 obj:=fun i h st c hc=>ZbW st hc
 keep:=fun i h h' st k=>by
  obtain⟨hz,hI,⟨u,v,hO⟩,h1,h2⟩:=st;exact⟨k z (.head _) _ hz,k TI (.tail _ (.head _)) _ hI,⟨u,v,k TO (.tail _ (.tail _ (.head _))) _ hO⟩,h1.at fun o e=>k i1 (.tail _ (.tail _ (.tail _ (.head _)))) o e,h2.at fun o e=>k i2 (.tail _ (.tail _ (.tail _ (.tail _ (.head _))))) o e⟩
 item:=fun X hP hw hK hc i pQ s σ H E I hf st hg=>by
  subst hP hw hK;exact ZfN d hc I hf st hg
 done:=fun X hP hw hK hc i pQ s σ H E I hf st hg=>by
  subst hP hw hK;exact ZfM d hc I hf st hg
 self:=fun _ _ _ _ _ st h=>wpAny_pyIter_zip st.hz h
theorem Zi3:bootBuiltins "zip"=some (.type "zip"):=by decide +kernel
theorem ZaC(l1 l2:Ad)(xs ys:Array vL) :
  Meets (Builtin.«zip.__new__» ⟨[.type "zip",.ref l1,.ref l2],[]⟩) (fun _ R s=>s.heap.IsList l1 xs/\s.heap.IsTuple l2 ys/\∀ h',h'=((((s.heap.push { cls:=.type "list_iterator",data:=.fields #[.ref l1,.int 0 0] }).push { cls:=.type "tuple_iterator",data:=.fields #[.ref l2,.int 0 0] }).push { cls:=.type "tuple",data:=.seq #[.ref s.heap.objs.size,.ref (s.heap.push { cls:=.type "list_iterator",data:=.fields #[.ref l1,.int 0 0] }).objs.size] }).push { cls:=.type "tuple",data:=.seq #[.none,.none] })->
   R (.ok (.ret (.ref h'.objs.size))) { s with heap:=h'.push { cls:=.type "zip",data:=.fields #[.none,.bool false,.bool false,.ref ((s.heap.push { cls:=.type "list_iterator",data:=.fields #[.ref l1,.int 0 0] }).push { cls:=.type "tuple_iterator",data:=.fields #[.ref l2,.int 0 0] }).objs.size,.ref (((s.heap.push { cls:=.type "list_iterator",data:=.fields #[.ref l1,.int 0 0] }).push { cls:=.type "tuple_iterator",data:=.fields #[.ref l2,.int 0 0] }).push { cls:=.type "tuple",data:=.seq #[.ref s.heap.objs.size,.ref (s.heap.push { cls:=.type "list_iterator",data:=.fields #[.ref l1,.int 0 0] }).objs.size] }).objs.size] } }):=
 .of_wp fun prog w A R s h=>by
  obtain⟨hp,g,d,tk,os⟩:=s;obtain⟨hl1,hl2,h⟩:=h;have hsub:=sub_zip;have hL1:Heap.IsList (Shared.heap ⟨hp,g,d,tk,os⟩) l1 xs:=hl1;have hL2:Heap.IsTuple (Shared.heap ⟨hp.push { cls:=.type "list_iterator",data:=.fields #[.ref l1,.int 0 0] },g,d,tk,os⟩) l2 ys:=hl2.at fun o e=>aL _ e
  wp_walk using wpAny_pyIter_list hL1,wpAny_pyIter_tuple hL2
  exact⟨_,rfl,h _ rfl⟩
theorem Zcg{l1 l2:Ad}{xs ys:Array vL}{Q:vL->Sd->Prop}(hl1:s.heap.IsList l1 xs)(hl2:s.heap.IsTuple l2 ys)(h:∀ h',ZSt (s.heap.objs.size+4) (s.heap.objs.size+2) (s.heap.objs.size+3) s.heap.objs.size (s.heap.objs.size+1) l1 l2 0 h'->(∀ c o,s.heap.get? c=some o->h'.get? c=some o)->Q (.ref (s.heap.objs.size+4)) { s with heap:=h' }) :
  wpAny (model prog w) A (call (.type "zip") [.ref l1,.ref l2]) Q E s:=by
 refine callType_new F.called_zip (by decide) (F.typeCall_zip_2 _ _) (F.newCall_zip_2 _ _) (fun obj=>F.args_object_init_3 obj _ _) F.entry_zip_new (ZaC l1 l2 xs ys) ⟨hl1,hl2,fun h' e=>?_⟩
 have z0:∀ (g:Heap) (o:Obj),(g.push o).objs.size=g.objs.size+1:=fun g o=>Heap.size_push ..
 generalize hg1:s.heap.push { cls:=.type "list_iterator",data:=.fields #[.ref l1,.int 0 0] }=g1 at e;generalize hg2:g1.push { cls:=.type "tuple_iterator",data:=.fields #[.ref l2,.int 0 0] }=g2 at e;generalize hg3:g2.push { cls:=.type "tuple",data:=.seq #[.ref s.heap.objs.size,.ref g1.objs.size] }=g3 at e;have s1:g1.objs.size=s.heap.objs.size+1:=by rw[<-hg1,z0]
 have s2:g2.objs.size=s.heap.objs.size+2:=by rw[<-hg2,z0,s1]
 have s3:g3.objs.size=s.heap.objs.size+3:=by rw[<-hg3,z0,s2]
 have s4:h'.objs.size=s.heap.objs.size+4:=by rw[e,z0,s3]
 have q1:g1.get? s.heap.objs.size=some { cls:=.type "list_iterator",data:=.fields #[.ref l1,.int 0 0] }:=by rw[<-hg1];exact aV _ rfl
 have q2:g2.get? (s.heap.objs.size+1)=some { cls:=.type "tuple_iterator",data:=.fields #[.ref l2,.int 0 0] }:=by rw[<-hg2,<-s1];exact aV _ rfl
 have q3:IsPair g3 (s.heap.objs.size+2) (.ref s.heap.objs.size) (.ref (s.heap.objs.size+1)):=by rw[<-hg3,<-s2,<-s1];exact aV _ rfl
 have q4:IsPair h' (s.heap.objs.size+3) .none .none:=by rw[e,<-s3];exact aV _ rfl
 have u2:∀ c o,g1.get? c=some o->g2.get? c=some o:=fun c o x=>by rw[<-hg2];exact aL _ x
 have u3:∀ c o,g2.get? c=some o->g3.get? c=some o:=fun c o x=>by rw[<-hg3];exact aL _ x
 have u4:∀ c o,g3.get? c=some o->h'.get? c=some o:=fun c o x=>by rw[e];exact aL _ x
 have u5:∀ {c:Ad}{o:Obj} (ob:Obj),h'.get? c=some o->(h'.push ob).get? c=some o:=fun ob x=>aL _ x
 have u1:∀ c o,s.heap.get? c=some o->g1.get? c=some o:=fun c o x=>by rw[<-hg1];exact aL _ x
 show _/\_;rw[s2,s3];have q5:IsZip (h'.push { cls:=.type "zip",data:=.fields #[.none,.bool false,.bool false,.ref (s.heap.objs.size+2),.ref (s.heap.objs.size+3)] }) (s.heap.objs.size+4) (s.heap.objs.size+2) (s.heap.objs.size+3) .none:=by rw[<-s4];exact aV _ rfl
 rw[s4];exact⟨⟨_,q5,rfl⟩,h _ ⟨q5,u5 _ (u4 _ _ q3),⟨_,_,u5 _ q4⟩,⟨_,u5 _ (u4 _ _ (u3 _ _ (u2 _ _ q1))),rfl,rfl⟩,⟨_,u5 _ (u4 _ _ (u3 _ _ q2)),rfl,rfl⟩⟩ fun c o x=>u5 _ (u4 _ _ (u3 _ _ (u2 _ _ (u1 _ _ x))))⟩
theorem Ze9{x y:Expr}{ta:TA}{p:Pos}(hg:Gl X "zip")(hm:X.mg "zip"=none)(ha:PA X [x,y] ta)(hp:[x,y].all Zq=true):PI X (.Tuple elts kk tp) (.Call (.Name "zip" p) [x,y] [] pos) (Zjl X.K ta):=by
 intro pQ s σ H R I h;rw[bA,bA,Ba,Ba]at hp;have hs2:starEach [y] X.env=[(false,eval y X.env)]:=Zi hp.2.1;have hs:starEach [x,y] X.env=[(false,eval x X.env),(false,eval y X.env)]:=by rw[Zi hp.1,hs2]
 refine Call_ (ld_blt I hg hm Zi3 (PyProof.Rows.callWith_type1 (thn (ha pos pQ s σ H _ I h) fun us s1 ⟨vs,H1,I1,r1,q1⟩=>?_) (by rw[hs,hs2]) (by rw[hs2];rfl)))
 obtain⟨a,b,rfl,⟨xs,sq1⟩,⟨ys,sq2⟩,q⟩:=q1;cases r1 with
 |cons r rr=>
  cases rr with
  |cons r' rr=>
   cases rr;cases r;cases r';obtain⟨its1,_,p1,_⟩:=I1.list sq1;obtain⟨its2,_,p2,_⟩:=I1.tuple sq2;have ne:∀ {i j:Nat},i≠j->(s1.heap.objs.size+i:Nat)≠s1.heap.objs.size+j:=fun h z=>h (Nat.add_left_cancel z)
   refine Zcg p1.isList (show s1.heap.IsTuple b its2.toArray from p2) fun h' st k=>wpAny_pyIter_zip st.hz ?_
   refine⟨s1.heap.objs.size+4,[s1.heap.objs.size+4,s1.heap.objs.size+2,s1.heap.objs.size+3,s1.heap.objs.size,s1.heap.objs.size+1],_,_,H1,rfl,I1.kept (t':=s1.toks) k,ZfE _ _ _ _ _ a b ⟨ne (i:=2) (j:=4) (by decide),ne (i:=3) (j:=4) (by decide),ne (i:=0) (j:=4) (by decide),ne (i:=1) (j:=4) (by decide),ne (i:=2) (j:=3) (by decide),ne (i:=2) (j:=0) (by decide),ne (i:=2) (j:=1) (by decide),ne (i:=3) (j:=0) (by decide),ne (i:=3) (j:=1) (by decide),ne (i:=0) (j:=1) (by decide)⟩,st,fun c hcm=>?_,q⟩
   have hc:s1.heap.objs.size<=c:=by
    simp only[aJ,aU,or_false]at hcm;rcases hcm with rfl|rfl|rfl|rfl|rfl
    ·exact dG _ _
    ·exact dG _ _
    ·exact dG _ _
    ·exact aB _
    ·exact dG _ _
   exact I1.fpOk hc (I1.hok.fresh hc)
section
variable {prog:Program}{w:World}{A:Around}{E:vL->Sd->Prop}{s:Sd}
open AutoSeq1 (wpAny_loadPart')
theorem ZgU{T:String}{self:vL}{rest:Li vL}(hl:typeLookup (.type T) "__init__"=pure (some (.builtin "object.__init__")))(hm:Bind.madeBy (.type T)=pure (some newId))(hne:(some newId != some "object.__new__")=true)(hk:(!rest.isEmpty||!kw.isEmpty)=true) :
  Meets (Builtin.«object.__init__» ⟨self :: rest,kw⟩) (fun _ R s=>s.TypeIs self T/\R (.ok (.ret .none)) s):=by
 refine Meets.of_wp fun prog w A R s hs=>?_
 obtain⟨hT,hq⟩:=hs
 repeat (any_goals (first|assumption|wp_step))
 exact⟨_,rfl,hq⟩
theorem ZlX{T:String}{Bn:Builtin}{args:Li vL}{S:PySem.Spec}{Q:vL->Sd->Prop}(ft:TypeCalled T newId "object.__init__")(hne:(some newId != some "object.__new__")=true)(hk:(!args.isEmpty||!kw.isEmpty)=true)(hct:checkTypeCall T ⟨args,kw⟩=pure ())(hcn:checkBuiltinCall newId ⟨.type T :: args,kw⟩=pure ())(hok:∀ obj,argsOk "object.__init__" ⟨obj :: args,kw⟩)(eN:entryFor table newId=some Bn)(g:Meets (Bn ⟨.type T :: args,kw⟩) S)(h:S A.in1 (wants (fun obj s₁=>s₁.TypeIs obj T/\Q obj s₁) E) s):wpAny (model prog w) A (call (.type T) args kw) Q E s:=by
 obtain⟨c,tl,hmro⟩:=ft.mro;have hmade:=ft.made;have hsub:=ft.sub;refine wpAny_call (codeAny_of_tree (show wpAny _ _ (callAny (.type T) _) _ _ _ from aE ⟨Code.quiet_builtin _ (by decide +kernel),codeAny_builtin F.entry_type_call ?_⟩))
 rw[Around.under_plain (weight_type_call_type T args kw) (units_type_call_type T args kw)];have h1:=ft.notType;have h2:=ft.canCreate
 repeat (any_goals (first|assumption|wp_step))
 refine codeAny_mono (codeAny_call_builtin ft.plain eN (wpAny_of_eq hcn (g prog w A.in1 _ s h))) fun r t hr=>?_
 cases r with
 |error e=>exact hr
 |ok fl=>
  cases fl with
  |ret obj=>
   have hli:=ft.init.lookup;have hbi:=ft.init.bind obj;have hT:=hr.1
   repeat (any_goals (first|assumption|wp_step))
   refine codeAny_mono (codeAny_call_builtin ft.init.plain F.entry_object_init (ft.init.check _ _ _ _ _ _ _ _ hT (hok obj) ((ZgU hli hmade hne hk) prog w A.in1 (wants (fun r s₂=>r=.none/\Q obj s₂) E) t ⟨hT,rfl,hr.2⟩))) fun r u hu=>?_
   cases r with
   |error e=>exact hu
   |ok fl=>
    cases fl with
    |ret r=>
     obtain⟨rfl,hq⟩:=hu
     repeat (any_goals (first|assumption|wp_step))
    |_=>exact hu.elim
  |_=>exact hr.elim
theorem Zh0(a v:vL):checkTypeCall "enumerate" ⟨[a],[("start",v)]⟩=pure ():=by kernel_rfl
theorem Zg9(a v:vL):checkBuiltinCall "enumerate.__new__" ⟨[.type "enumerate",a],[("start",v)]⟩=pure ():=by kernel_rfl
theorem ZfX(o a v:vL):argsOk "object.__init__" ⟨[o,a],[("start",v)]⟩:=by
 unfold argsOk;rw[signature?_of (id := "object.__init__") (n:=['_','_','t','i','n','i','_','_']) (o:=['t','c','e','j','b','o']) (by kernel_rfl) F.owner_object];kernel_rfl
theorem JF(l:Ad)(items:Array vL)(n:Nat)(dct:Ot Ad)(sl:Array (Ot vL))(t:Tok) :
  Meets (Builtin.«enumerate.__new__» ⟨[.type "enumerate",.ref l],[("start",.int 1 t)]⟩) (fun _ R s=>s.heap.get? l=some { cls:=.type "list",dict:=dct,data:=.seq items n,slots:=sl } /\
   R (.ok (.ret (.ref (s.heap.push { cls:=.type "list_iterator",data:=.fields #[.ref l,.int 0 0] }).objs.size)))
    { s with heap:=(s.heap.push { cls:=.type "list_iterator",data:=.fields #[.ref l,.int 0 0] }).push { cls:=.type "enumerate",data:=.fields #[.none,.bool false,.ref s.heap.objs.size,rawInt 1,.none,.none] } }):=
 .of_wp fun prog w A R s h=>by
  obtain⟨hp,g,d,tk,os⟩:=s;obtain⟨hl,h⟩:=h;have hsub:=sub_enumerate;have hL:Heap.IsList (Shared.heap ⟨hp,g,d,tk,os⟩) l items:=⟨_,hl,rfl,n,rfl⟩
  wp_walk using wpAny_loadPart' hl
  refine wpAny_stack_any fun st=>aE ?_
  split
  ·rename_i c _ _ _ _ _
   cases (c==Value.type "enumerate")
   ·wp_walk using wpAny_loadPart' hl,wpAny_pyIter_list hL
    exact⟨_,rfl,h⟩
   ·wp_walk using wpAny_loadPart' hl,wpAny_pyIter_list hL
    exact⟨_,rfl,h⟩
  ·wp_walk using wpAny_loadPart' hl,wpAny_pyIter_list hL
   exact⟨_,rfl,h⟩
end
theorem Zk0{M:Model}{T:String}{args:Li (Bool×Sem vL)}{keywords:Li (Ot Str×Sem vL)}{Q:vL->Sd->Prop}(hplain:args.any (·.1)=false)(hkw:keywords.any (·.1.isNone)=false)(h:wpAny M A (evalArgs (.type T) true args keywords) (fun a t=>wpAny M A (call (.type T) a.pos a.kw) Q E t) E s):wpAny M A (callWith pos (.type T) [] args keywords) Q E s:=by
 unfold callWith;refine aA (wpAny_holding (bC h (fun a t h1=>aA (wpAny_standAt ?_)) fun _ _ x=>x))
 simp only[hplain,hkw,Bool.or_false];exact aA (aE (aA (bC h1 (fun r u hr=>aA (wpAny_holding (wpAny_point (aE hr)))) fun _ _ x=>x)))
noncomputable def Ite(sq:Hp->Li V->Prop):It:=
 ⟨fun i H=>∃ xs x,sq H xs/\xs[i]?=some x,fun i H v H'=>∃ T x,v=.ref T/\H T=none/\H'=upd H T (.tup [.int ((i+1:Nat):Int),x])/\∀ xs,sq H xs->xs[i]?=some x,fun i H=>∃ xs,sq H xs/\xs.length=i⟩
noncomputable def Zio(K:Fg)(te:TE):TI:=fun σ H R=>te σ H fun v H1=>∃ a,v=.ref a/\(∃ xs,SqL K H1 a xs)/\R (Ite fun H=>SqL K H a) H1
def shP(P:Nat->vL->Prop):Nat->vL->Prop
 |0,_=>False
 |k+1,v=>P k v
def shS(S:Nat->Heap->Prop):Nat->Heap->Prop
 |0,_=>False
 |k+1,h=>S k h
omit [ClsTab] in
theorem Jo{prog:Program}{w:World}{A:Around}{it:Ad}{fp:Li Ad}{n:Nat}{P:Nat->vL->Prop}{S:Nat->Heap->Prop}(D:Draws prog w A it fp n P S):Draws prog w A it fp (n+1) (shP P) (shS S) where
 live:=fun i h st=>by
  cases i with
  |zero=>exact st.elim
  |succ k=>exact D.live k h st
 frame:=fun i h h' st k=>by
  cases i with
  |zero=>exact st.elim
  |succ j=>exact D.frame j h h' st k
 item:=fun i s Q E hi st hQ=>by
  cases i with
  |zero=>exact st.elim
  |succ k=>exact D.item k s Q E (Nat.lt_of_succ_lt_succ hi) st fun x h' tk p q sb=>hQ x h' tk p q sb
 done:=fun s Q E st hE=>D.done s Q E st hE
theorem Zc9{P:Program}{K:Fg}(e it a:Ad)(d:e≠it) :
  Turn P w K (.Tuple elts kk pos) (Ite fun H=>SqL K H a) [e,it] e (fun i h=>(∃ old,IsEnum h e it ((i+1:Nat):Int) old)/\h.IsListIter it a i) where
 mem:=by simp
 obj:=fun i h st c hc=>by
  obtain⟨⟨old,he⟩,⟨o,g,_,f⟩⟩:=st;simp only[aJ,aU,or_false]at hc;rcases hc with rfl|rfl
  ·exact⟨_,he,fun v q=>by cases (show Data.fields _=Data.cell v from q)⟩
  ·exact⟨o,g,fun v q=>by rw[f]at q;cases q⟩
 keep:=fun i h h' st k=>by
  obtain⟨⟨old,he⟩,h1⟩:=st;exact⟨⟨old,k e (by simp) _ he⟩,h1.at fun o g=>k it (by simp) o g⟩
 item:=by
  intro X hP hw hK hc i pQ s σ H E I hf st hg;subst hP hw hK;obtain⟨xs,x,hs,ex⟩:=hg;obtain⟨its,r,p,_⟩:=I.list hs;have na:∀ {c},c∈[e,it]->a≠c:=fun m=>Zbl I (hf _ m) (ZaS hs)
  have D:=Jo (Draws.list (prog:=X.prog) (w:=X.w) (show X.A.in1.handled=none from I.ok.hd hc) it a (na (.tail _ (.head _))) its.toArray);have W:=WalksT.enumerateD D e d (by simp only[aJ,aU,or_false];exact fun q=>q.elim d fun q=>na (.head _) q.symm) (by simp)
  have l1:=r.length;have ix:i < xs.length:=(bI.mp ex).1;refine W.item (i+1) s _ _ (by simp;omega) ⟨st.1,st.2,p.isList⟩ fun T vals h' tk hv hT tup mid k1=>?_
  obtain⟨t,u,eu,rfl⟩:=hv;refine⟨.ref T,rfl,W.go elts kk pos (i+1) T _ _ _ mid fun h2' st2 k2=>?_⟩
  have nT:=W.apart (i+1) T h' mid;have ru:RelV x u:=by
   obtain⟨u',e1,e2⟩:=r.get ex;have eu:its.toArray[i]?=some u:=eu;have:its[i]?=some u:=by simpa using eu
   rw[this]at e1;cases e1;exact e2
  have tup2:h2'.IsTuple T #[.int ((i+1:Nat):Int) t,u]:=tup.at fun o g=>k2 T o nT g
  have I2:L2.Inv X pQ σ (upd H T (.tup [.int ((i+1:Nat):Int),x])) { s with heap:=h2',toks:=tk }:=Wp (wr:=[e,it]) I hf (fun c o hcn g=>k2 c o hcn (k1 c o hcn g)) hT ⟨show 2<=sizeLine by decide,[.int ((i+1:Nat):Int) t,u],.cons ⟨t,rfl⟩ (.cons ru .nil),tup2⟩
  refine⟨.ref T,_,I2,rfl,⟨T,x,rfl,I.hok.fresh hT,rfl,fun xs' q=>by rw[ZbO I hs q];exact ex⟩,⟨st2.1,st2.2.1⟩,fun c hcm=>?_⟩
  have:c≠T:=fun q=>by
   have lt:∀ {o},s.heap.get? c=some o->False:=fun g=>absurd (aG g) (Nat.not_lt.mpr (by rw[q];exact hT))
   obtain⟨⟨_,he⟩,⟨_,g,_⟩⟩:=st;simp only[aJ,aU,or_false]at hcm;rcases hcm with rfl|rfl
   ·exact lt he
   ·exact lt g
  rw[upd_ne this];exact(hf c hcm).1
 done:=by
  intro X hP hw hK hc i pQ s σ H E I hf st hg;subst hP hw hK;obtain⟨xs,hs,hle⟩:=hg;obtain⟨its,r,p,_⟩:=I.list hs;have na:∀ {c},c∈[e,it]->a≠c:=fun m=>Zbl I (hf _ m) (ZaS hs)
  have D:=Jo (Draws.list (prog:=X.prog) (w:=X.w) (show X.A.in1.handled=none from I.ok.hd hc) it a (na (.tail _ (.head _))) its.toArray);have W:=WalksT.enumerateD D e d (by simp only[aJ,aU,or_false];exact fun q=>q.elim d fun q=>na (.head _) q.symm) (by simp)
  have l1:=r.length;have e1:i=its.toArray.size:=by simp;omega
  subst e1;exact W.done s _ _ ⟨st.1,st.2,p.isList⟩ fun h' tk k=>⟨rfl,Vo (wr:=[e,it]) I hf k⟩
 self:=fun _ _ _ _ _ st h=>let ⟨⟨_,he⟩,_⟩:=st;wpAny_pyIter_enum he h
theorem Zf8:bootBuiltins "enumerate"=some (.type "enumerate"):=by decide +kernel
theorem Zho{x:Expr}{te:TE}{p kp:Pos}{ck:Nat}(hg:Gl X "enumerate")(hm:X.mg "enumerate"=none)(hp:Zq x=true)(he:PE X x te):PI X (.Tuple elts kk tp) (.Call (.Name "enumerate" p) [x] [⟨some "start",.Constant (.int 1) ck cp,kp⟩] pos) (Zio X.K te):=by
 intro pQ s σ H R I h;have hs:starEach [x] X.env=[(false,eval x X.env)]:=Zi hp;refine wpAny_Call_Name_kw (ld_blt I hg hm Zf8 (Zk0 (by rw[hs];rfl) rfl ?_))
 rw[hs];refine evalArgs_kwB rfl (Calls.spliced_cons (thn (he pQ s σ H _ I h) fun u s1 ⟨v,H1,I1,rv,a,ea,⟨xs,sq⟩,q⟩=>Calls.spliced_nil ?_))
 subst ea;cases (show u=Value.ref a from rv)
 refine kws_cons (thn (pe_int pQ s1 σ H1 (fun v H=>v=.int 1/\H=H1) I1 ⟨rfl,rfl⟩) fun u2 s2 ⟨v2,H2,I2,r2,e2,e3⟩=>kws_nil ?_)
 subst e2;subst e3
 obtain⟨t,rfl⟩:=r2;obtain⟨its,_,p1,_⟩:=I2.list sq;obtain⟨⟨c,dct,dt,sl⟩,hl,hc,n,hd⟩:=id p1.isList;replace hc:c=.type "list":=hc;replace hd:dt=.seq its.toArray n:=hd;subst hc hd;refine ZlX F.called_enumerate (by decide) rfl (Zh0 _ _) (Zg9 _ _) (fun obj=>ZfX obj _ _) F.entry_enumerate_new (JF a its.toArray n dct sl t) ⟨hl,?_⟩
 have z1:(s2.heap.push { cls:=.type "list_iterator",data:=.fields #[.ref a,.int 0 0] }).objs.size=s2.heap.objs.size+1:=Heap.size_push ..;generalize hg1:s2.heap.push { cls:=.type "list_iterator",data:=.fields #[.ref a,.int 0 0] }=g1 at z1 ⊢;generalize hg2:g1.push { cls:=.type "enumerate",data:=.fields #[.none,.bool false,.ref s2.heap.objs.size,rawInt 1,.none,.none] }=g2
 have q1:IsEnum g2 (s2.heap.objs.size+1) s2.heap.objs.size ((0+1:Nat):Int) .none:=by rw[<-hg2,<-z1];exact aV _ rfl
 have q0:g2.IsListIter s2.heap.objs.size a 0:=by
  refine⟨{ cls:=.type "list_iterator",data:=.fields #[.ref a,.int 0 0] },?_,rfl,rfl⟩;rw[<-hg2,<-hg1];exact aL _ (aV _ rfl)
 have k2:∀ b o,s2.heap.get? b=some o->g2.get? b=some o:=fun b o e=>by rw[<-hg2,<-hg1];exact aL _ (aL _ e)
 show _/\_;rw[z1];refine⟨⟨_,q1,rfl⟩,wpAny_pyIter_enum q1 ?_⟩;refine⟨s2.heap.objs.size+1,[s2.heap.objs.size+1,s2.heap.objs.size],_,_,H2,rfl,I2.kept (t':=s2.toks) k2,Zc9 _ _ a (Nat.succ_ne_self _),⟨⟨_,q1⟩,q0⟩,fun c hcm=>?_,q⟩
 have hc:s2.heap.objs.size<=c:=by
  simp only[aJ,aU,or_false]at hcm;rcases hcm with rfl|rfl
  ·exact dG _ _
  ·exact aB _
 exact I2.fpOk hc (I2.hok.fresh hc)
theorem UU:∀ {xs:Li D}{k i:Nat}{x:D},xs[i]?=some x->(Wo k xs)[i]?=some (.int ((k+i:Nat):Int),x)
 |[],_,_,_,h=>nomatch h
 |x :: xs,k,0,_,h=>by cases h;rfl
 |x :: xs,k,i+1,y,h=>by
  show(Wo (k+1) xs)[i]?=_;rw[UU (show xs[i]?=some y from h),show k+1+i=k+(i+1) by omega]
theorem W3:∀ {xs:Li D}{k:Nat},(Wo k xs).length=xs.length
 |[],_=>rfl
 |x :: xs,k=>congrArg (·+1) W3
theorem Zeh{K:Fg}{fi:Ev}{f:Ex}(E:Ends)(σ:L2.St)(H:Hp)(h:tS K (Js i j fi f) E σ H):tFor (Zio K (tE K fi)) (gTup K 2 (gCons (gName i) (gCons (gName j) gNil))) (tS K f) E σ H:=by
 obtain⟨ad,ρ,st,r,st',En,S,e,p⟩:=Ym h;unfold Js at e;split at e
 ·rename_i x st1 q1
  split at e
  ·rename_i xs ok hw
   cases x with
   |lst l=>
    have hw:(match st1[l]? with
     |some c=>some (c.2,fun s=>s[l]?=some c)
     |none=>none)=some (xs,ok):=hw
    cases hc:st1[l]? with
    |none=>rw[hc]at hw;cases hw
    |some c=>
    rw[hc]at hw;cases hw;refine⟨ad,ρ,st,.lst l,st1,En,S,q1,fun v ad1 H1 x1 S1 d1=>?_⟩
    obtain⟨a,rfl,ha⟩:=d1.ofLst;obtain⟨vs,rv,sq⟩:=S1.list ha (show st1[l]?=some (c.1,c.2) from hc);refine⟨a,rfl,⟨vs,sq⟩,_,⟨_,.mk (Good:=fun ad H=>LA ad H l a) (Nat.zero_add _) (En.mono x1) S1 ha e (p.later x1)⟩,Uk (fun _ _ _ _ x g=>g.mono x) (fun ad H st g S o=>?_) fun k ad H st q g S o hq=>?_⟩
    ·obtain⟨vs,rv,sq⟩:=S.list g (show st[l]?=some (c.1,c.2) from o)
     exact⟨vs,sq,by rw[rv.length,W3]⟩
    ·obtain⟨vs,rv,sq⟩:=S.list g (show st[l]?=some (c.1,c.2) from o)
     have hk:k < c.2.length:=by rw[<-W3 (k:=1)];exact(bI.mp hq).1
     have hg:=Lg hk;rw[UU (k:=1) hg]at hq;cases hq;obtain⟨w,ew,dw⟩:=rv.get hg;exact⟨.int ((1+k:Nat):Int),w,⟨vs,w,sq,ew⟩,.int _,dw,fun x H' ⟨pt,y1,e1,e2,e3,hy⟩=>⟨pt,e1,e2,by have z:=hy vs sq;rw[ew]at z;cases z;rw[e3,Nat.add_comm]⟩⟩
   |_=>exact Zb hw
  ·exact Zb e
 ·exact Zb e
theorem Zaq(K:Cxt X G F sc N)(h:X9 G sc it=some e):∃ p pos kp cp ck,it=.Call (.Name "enumerate" p) [e] [⟨some "start",.Constant (.int 1) ck cp,kp⟩] pos/\Gl X "enumerate"/\X.mg "enumerate"=none:=by
 unfold X9 at h;split at h
 ·refine Xj h fun hc h2=>?_
  obtain⟨rfl,rfl,hg,hb⟩:=hc;cases h2;refine⟨_,_,_,_,_,rfl,K.glb _ hg,?_⟩;unfold U0 at hb;split at hb
  ·rename_i q;exact K.gl _ _ q
  ·cases hb
 ·exact Zb h
theorem UM(K:Cxt X G F sc N)(h:WT G sc it=some as):∃ p pos a b,it=.Call (.Name "zip" p) [a,b] [] pos/\as=[a,b]/\Gl X "zip"/\X.mg "zip"=none:=by
 obtain⟨bs,h1,h2⟩:=dF.mp h;obtain⟨p,pos,rfl,hg,hm⟩:=Zat K h1;refine Xj h2 fun hl h3=>?_
 cases h3;cases as with
 |nil=>cases hl
 |cons a as=>cases as with
  |nil=>cases hl
  |cons b as=>cases as with
   |nil=>exact⟨p,pos,_,_,rfl,rfl,hg,hm⟩
   |cons _ _=>cases hl
theorem ZhT(ihA:Y6 G F n)(ihS:Z7 G F n)(K:CxtS X G F sc N){c:CS}{x y:Str}{b:Li Stmt}{p:Pos}(hi:N.idxOf? x=some i)(hj:N.idxOf? y=some j)(hz:WT G sc it=some as)(h:o2 (CS.forP i j) (cEs G n sc N as) (cSs G n sc N b)=some c):PS X (.For (.Tuple [.Name x p,.Name y p2] ctx tp) it b [] pos) (tS X.K (ex F c)):=by
 refine Yf (P:=fun c=>PS X _ (tS X.K (ex F c))) h fun ci cb hc hb=>?_
 obtain⟨p1,p3,a,b',rfl,rfl,hg,hm⟩:=UM K.toCxt hz;obtain⟨A,_,pl,_⟩:=ihA X sc N K.toCxt _ ci hc;exact ZU (ps_for (Wy K) K.calm (Ze9 hg hm A pl) (pg_tup K.calm (pgs_cons (Xl K hi) (pgs_cons (Xl K hj) pgs_nil))) (ihS X sc N K _ cb hb) (Z9 rfl)) Zej
theorem ZhS(ihE:ZC G F n)(ihS:Z7 G F n)(K:CxtS X G F sc N){c:CS}{x y:Str}{b:Li Stmt}{p:Pos}(hi:N.idxOf? x=some i)(hj:N.idxOf? y=some j)(hz:X9 G sc it=some e)(h:o2 (CS.forE i j) (cE G n sc N e) (cSs G n sc N b)=some c):PS X (.For (.Tuple [.Name x p,.Name y p2] ctx tp) it b [] pos) (tS X.K (ex F c)):=by
 refine Yf (P:=fun c=>PS X _ (tS X.K (ex F c))) h fun ci cb hc hb=>?_
 obtain⟨p3,p4,p5,p6,ck,rfl,hg,hm⟩:=Zaq K.toCxt hz;exact ZU (ps_for (Wy K) K.calm (Zho hg hm (Zj hc) (ihE X sc N K.toCxt _ ci hc).pe) (pg_tup K.calm (pgs_cons (Xl K hi) (pgs_cons (Xl K hj) pgs_nil))) (ihS X sc N K _ cb hb) (Z9 rfl)) Zeh
theorem ZhQ(ihE:ZC G F n)(ihS:Z7 G F n)(K:CxtS X G F sc N){c:CS}{x y z:Str}{b:Li Stmt}{p p3:Pos}(h:o3 (fun(p:Nat×Nat) (q:Nat×CE) b=>CS.for4 p.1 p.2 q.1 q.2 b) (o2 Prod.mk (N.idxOf? x) (N.idxOf? y)) (o2 Prod.mk (N.idxOf? z) (cE G n sc N it)) (cSs G n sc N b)=some c):PS X (.For (.Tuple [.Name x p,.Name y p2,.Name z p3] ctx tp) it b [] pos) (tS X.K (ex F c)):=
 UI (P:=fun c=>PS X _ (tS X.K (ex F c))) h fun u v cb hu hv hb=>Yf (P:=fun u:Nat×Nat=>PS X _ (tS X.K (ex F (.for4 u.1 u.2 v.1 v.2 cb)))) hu fun i j hi hj=>Yf (P:=fun v:Nat×CE=>PS X _ (tS X.K (ex F (.for4 i j v.1 v.2 cb)))) hv fun l ci hl hc=>
  fun pQ s σ H D I q=>by
   obtain⟨_,_,_,_,_,_,_,e,_⟩:=Ym q;cases e
theorem ZhO(ihE:ZC G F n)(ihS:Z7 G F n)(K:CxtS X G F sc N){c:CS}{x y:Str}{b:Li Stmt}{p:Pos}(hi:N.idxOf? x=some i)(hj:N.idxOf? y=some j)(h:o2 (CS.for2 i j) (cE G n sc N it) (cSs G n sc N b)=some c):PS X (.For (.Tuple [.Name x p,.Name y p2] ctx tp) it b [] pos) (tS X.K (ex F c)):=by
 refine Yf (P:=fun c=>PS X _ (tS X.K (ex F c))) h fun ci cb hc hb=>?_
 have A:=(ihE X sc N K.toCxt _ ci hc).pe;have hf:=Z9 (env:=X.env) (Zj hc);exact ZU (Ziz (ps_for (Wy K) K.calm (pi_tup A) (pg_tup K.calm (pgs_cons (Xl K hi) (pgs_cons (Xl K hj) pgs_nil))) (ihS X sc N K _ cb hb) hf) (ps_for (Wy K) K.calm (pi_list A) (pg_tup K.calm (pgs_cons (Xl K hi) (pgs_cons (Xl K hj) pgs_nil))) (ihS X sc N K _ cb hb) hf)) Zeg
theorem Zki(ihE:ZC G F n)(K:CxtS X G F sc N){c:CS}{x:Str}{p:Pos}(h:ZiU sc N x m ap cp (cE G n sc N e)=some c):PS X (.Expr (.Call (.Attribute (.Name x p) m ap) [e] [] cp) pos) (tS X.K (ex F c)):=by
 refine Xj h fun hc h=>?_
 by_cases e1:m = "append"
 ·subst e1
  rw[if_pos rfl]at h;exact Yf (P:=fun c=>PS X _ (tS X.K (ex F c))) h fun i y hi hx=>ZU (ps_expr (pe_bm PySem.F.plainAttrs_list PySem.F.slot_list_append PySem.F.type_list_append mt_append (Ziy K.toCxt hc.1 hi) (pa1 (Zj hx) (ihE X sc N K.toCxt _ y hx).pe) rfl (by rw[Zi (Zj hx)];rfl) hc.2 (Zi (Zj hx)) rfl) rfl) ZgF
 ·rw[if_neg e1]at h
  cases h
theorem ZhL(ihE:ZC G F n)(hA:VL G F n)(K:CxtS X G F sc N){c:CS}(h:ZkQ N tg e (cE G n sc N e)=some c):PS X (.Assign [tg] e pos) (tS X.K (ex F c)):=by
 have no:∀ {P:Prop},(none:Ot CS)=some c->P:=fun z=>nomatch z
 cases tg with
 |Name x p=>exact Zkj ihE hA K h
 |Tuple es ctx tp=>cases es with
  |nil=>exact no h
  |cons a es=>cases a with
   |Name _ _=>cases es with
    |nil=>exact no h
    |cons b es=>cases b with
     |Name _ _=>cases es with
      |nil=>exact ZhV ihE K h
      |cons _ _=>exact no h
     |_=>exact no h
   |_=>exact no h
 |_=>exact no h
theorem ZhR(ihE:ZC G F n)(ihA:Y6 G F n)(ihS:Z7 G F n)(K:CxtS X G F sc N){c:CS}{b:Li Stmt}(h:Zjk G sc N (cE G n sc N) (cEs G n sc N) tg it (cSs G n sc N b)=some c):PS X (.For tg it b [] pos) (tS X.K (ex F c)):=by
 have no:∀ {P:Prop},(none:Ot CS)=some c->P:=fun z=>nomatch z
 cases tg with
 |Name x p=>
  unfold Zjk at h;cases hr:Vd G sc it with
  |some as=>
   rw[hr]at h;exact ZhP ihA ihS K hr h
  |none=>
   rw[hr]at h;exact ZhN ihE ihS K h
 |Tuple es ctx tp=>cases es with
  |nil=>exact no h
  |cons a es=>cases a with
   |Name x p=>cases es with
    |nil=>exact no h
    |cons b2 es=>cases b2 with
     |Name y p2=>cases es with
      |nil=>
       replace h:((o2 (fun i j=>og (i≠j) (some (i,j))) (N.idxOf? x) (N.idxOf? y)).join.bind fun p=>(match WT G sc it with
        |some as=>o2 (CS.forP p.1 p.2) (cEs G n sc N as) (cSs G n sc N b)
        |none=>match X9 G sc it with
         |some e=>o2 (CS.forE p.1 p.2) (cE G n sc N e) (cSs G n sc N b)
         |none=>o2 (CS.for2 p.1 p.2) (cE G n sc N it) (cSs G n sc N b)))=some c:=h
       refine b_e h fun q hq h=>j_e hq fun hq=>Yf (P:=fun o=>o=some q->PS X _ (tS X.K (ex F c))) hq (fun i j hi hj e=>Xj e fun _ e=>?_) rfl
       cases e;cases hz:WT G sc it with
       |some as=>
        rw[hz]at h;exact ZhT ihA ihS K hi hj hz h
       |none=>
        rw[hz]at h;dsimp only at h;cases he:X9 G sc it with
        |some e=>
         rw[he]at h;exact ZhS ihE ihS K hi hj he h
        |none=>
         rw[he]at h;exact ZhO ihE ihS K hi hj h
      |cons c2 es=>cases c2 with
       |Name _ _=>cases es with
        |nil=>exact ZhQ ihE ihS K h
        |cons _ _=>exact no h
       |_=>exact no h
     |_=>exact no h
   |_=>exact no h
 |_=>exact no h
theorem ZhK(ihE:ZC G F n)(K:CxtS X G F sc N){c:CS}{k:Str}{p:Pos}(h:og (m = "append"/\(ap.endLine==cp.line)=true) (o2 CS.app2 (cE G n sc N (.Attribute o k p)) (cE G n sc N e))=some c):PS X (.Expr (.Call (.Attribute (.Attribute o k p) m ap) [e] [] cp) pos) (tS X.K (ex F c)):=by
 refine Xj h fun hc h'=>?_
 obtain⟨e1,hl⟩:=hc;subst e1;exact Yf (P:=fun c=>PS X _ (tS X.K (ex F c))) h' fun z y hz hx=>ZU (ps_expr (pe_bm PySem.F.plainAttrs_list PySem.F.slot_list_append PySem.F.type_list_append mt_append (ihE X sc N K.toCxt _ z hz).pe (pa1 (Zj hx) (ihE X sc N K.toCxt _ y hx).pe) rfl (by rw[Zi (Zj hx)];rfl) hl (Zi (Zj hx)) rfl) rfl) Zec
theorem ZhJ(ihE:ZC G F n)(K:CxtS X G F sc N){c:CS}{v:Expr}(h:ZkO sc N (cE G n sc N) v=some c):PS X (.Expr v pos) (tS X.K (ex F c)):=by
 have no:∀ {P:Prop},(none:Ot CS)=some c->P:=fun z=>nomatch z
 cases v with
 |Call f as kw cp=>cases f with
  |Attribute o m ap=>cases o with
   |Name x p=>
    replace h:(if m = "append"\/m = "extend" then (match (generalizing:=false) as,kw with
     |[e],[]=>ZiU sc N x m ap cp (cE G n sc N e)
     |_,_=>none) else (cE G n sc N (.Call (.Attribute (.Name x p) m ap) as kw cp)).map CS.act)=some c:=h
    split at h
    ·split at h
     ·exact Zki ihE K h
     ·exact no h
    ·obtain⟨ce,hx,rfl⟩:=cV.mp h
     exact ZU (ps_expr (ihE X sc N K.toCxt _ ce hx).pe rfl) Zbo
   |Attribute o k p=>cases as with
    |nil=>exact no h
    |cons e es=>cases es with
     |nil=>cases kw with
      |nil=>exact ZhK ihE K h
      |cons _ _=>exact no h
     |cons _ _=>exact no h
   |_=>exact no h
  |Name f fp=>exact Zkh ihE K h
  |_=>exact no h
 |_=>exact no h
theorem J0(ihE:ZC G F n)(ihA:Y6 G F n)(ihS:Z7 G F n)(hA:VL G F n):Zae G F (n+1):=by
 intro X sc N K s c h;have no:∀ {P:Prop},(none:Ot CS)=some c->P:=fun z=>nomatch z
 cases s with
 |Assign tgs e pos=>cases tgs with
  |nil=>exact no h
  |cons t ts=>cases ts with
   |cons _ _=>cases t with
    |Attribute o k p=>cases o<;>exact no h
    |_=>exact no h
   |nil=>cases t with
    |Subscript o k p=>exact ZhM ihE K h
    |Attribute o k p=>cases o with
     |Name x q=>exact ZhU ihE K h
     |_=>exact no h
    |_=>exact ZhL ihE hA K h
 |Try b hs oe fb pos=>cases hs with
  |nil=>exact no h
  |cons h0 hs=>cases oe with
   |cons _ _=>exact no h
   |nil=>cases fb with
    |cons _ _=>exact no h
    |nil=>exact Zkl ihS K h
 |Return e pos=>cases e with
  |none=>exact no h
  |some e=>exact Zkk ihE K h
 |If e a b pos=>exact ZlN ihE ihS K h
 |For t it b oe pos=>cases oe with
  |cons _ _=>exact no h
  |nil=>exact ZhR ihE ihA ihS K h
 |Expr v pos=>exact ZhJ ihE K h
 |Pass pos=>
  cases (show some CS.skip=some c from h)
  exact ZU ps_pass Jz
 |Break pos=>
  cases (show some CS.brk=some c from h)
  exact ZU ps_break ZgG
 |Raise a b pos=>
  cases (show some CS.stop=some c from h)
  exact fun pQ s σ H D I q=>by
   obtain⟨_,_,_,_,_,_,_,e,_⟩:=Ym q;cases e
 |Continue pos=>
  cases (show some CS.cont=some c from h)
  exact ZU ps_continue Zed
 |_=>exact no h
theorem Q3(ihS:Zae G F n)(ihSs:Z7 G F n):Z7 G F (n+1):=by
 intro X sc N K s c h;cases s with
 |nil=>
  simp only[cSs]at h;cases h;exact ZbK pss_nil Jz
 |cons s r=>
  exact Yf (P:=fun c=>PSs X _ (tS X.K (ex F c))) (show o2 CS.seq (cS G n sc N s) (cSs G n sc N r)=some c from h) fun a b ha hb=>ZbK (pss_cons (ihS X sc N K s a ha) (ihSs X sc N K r b hb)) ZgR
end
variable [ClsTab]
def XE(G:Gs)(F:Nat->Fn):Prop:=∀ n,ZC G F n->(∀ X sc N,Cxt X G F sc N->∀ elt gens sc2 pos c,cE G (n+1) sc N (.ListComp elt gens sc2 pos)=some c->SE X F (.ListComp elt gens sc2 pos) c)/\VL G F (n+1)
theorem Qg{G:Gs}{F:Nat->Fn}(hc:XE G F):∀ n,(ZC G F n/\Y6 G F n/\Qm G F n)/\Zae G F n/\Z7 G F n/\VL G F n
 |0=>⟨⟨fun X sc N K e c h=>(nomatch (show(none:Ot CE)=some c from h)),fun X sc N K e c h=>(nomatch (show(none:Ot CE)=some c from h)),fun X sc N K e c h=>(nomatch (show(none:Ot CE)=some c from h))⟩,fun X sc N K e c h=>(nomatch (show(none:Ot CS)=some c from h)),fun X sc N K e c h=>(nomatch (show(none:Ot CS)=some c from h)),fun X sc N K x i p elt gens sc2 epos pos c _ h=>(nomatch (show(none:Ot CE)=some c from h))⟩
 |n+1=>by
  obtain⟨⟨hE,hA,hO⟩,hS,hSs,hCA⟩:=Qg hc n;exact⟨⟨ZaR hE hA hO (hc n hE).1,JY hE hA,JZ hE⟩,J0 hE hA hSs hCA,Q3 hS hSs,(hc n hE).2⟩
def ZbY(K:Fg)(G:Gs)(T:Nat->Ot FD)(x y:Str)(i:Nat)(f:Ad)(fd:FuncData)(pn N:Li Str):Prop:=∃ (st:Stmt) (oc:vL) (od:Ot Ad) (dV kV doc pm:vL) (an:Ot Ad) (cdv ct:vL) (osl:Array (Ot vL)) (code:CS),
  fd=PySem.W.fnOf x y (defArgs st) (defBody st) (defScope st) dV kV doc pm an cdv ct/\K.lookup f=some ⟨oc,od,.func fd,osl⟩/\PySem.W.codeIn K cdv y=true/\FnScope N pn (defScope st)/\(∀ y∈N,Loc (defScope st) y) /\
  cSs G 60 (defScope st) N (defBody st)=some code/\T i=some ⟨pn.length,N.length,code⟩
def ZfQ(K:Fg)(mg:Str->Ot vL)(G:Gs)(T:Nat->Ot FD)(i:Nat)(f:Ad)(fd:FuncData)(pn:Li Str):Prop:=∀ (P:Program) (w:World) (base:Heap) (n:Nat),(∀ m,m<=n->∀ A,Room (2 * m+1) A->∀ y g,G.lookup y=some g->GOk P w K mg base A (run T m) y g)->FnOk P w K mg base CX0 (2 * (n+1)) f fd pn (spD K (run T (n+1) i))
structure DefOk(K:Fg)(mg:Str->Option Value)(G:Gs)(T:Nat->Option FD)(x:Str)(i:Nat)(ds:List D)(f:Addr)(fd:FuncData)(pn N:List Str):Prop where
 ob:ZbY K G T x x i f fd pn N\/ZfQ K mg G T i f fd pn
 kp:PySem.W.keepIn K (.ref f)=true
 at_:mg x=some (.ref f)
 bn:∀ m,m<=ds.length->∃ dvs us,(∀ ad H,Dens K ad H dvs (ds.drop m))/\Vals dvs us/\Binds K fd pn us
structure MethOk(K:Fg)(G:Gs)(T:Nat->Option FD)(C:Addr)(x y:Str)(i:Nat)(f:Addr)(fd:FuncData)(pn N:List Str):Prop where
 ob:ZbY K G T x y i f fd pn N
 mt:Meth K C x f
 bn:Binds K fd pn []
structure Text(Pm:Params)(K:Fg)(mg:Str->Option Value)(G:Gs)(T:Nat->Option FD):Prop where
 cst:∀ x d,G.lookup x=some (.cst d)->∃ v u,mg x=some u/\RelV v u/\∀ ad H,Den K ad H v d
 blt:∀ x,G.lookup x=some .blt->mg x=none
 dct:∀ x ks ds,G.lookup x=some (.dct ks ds)->Za1 Pm K mg x ks ds
 fn:∀ x i ps ds,G.lookup x=some (.fn i ps ds)->∃ f fd pn N,DefOk K mg G T x i ds f fd pn N
 cls:∀ x i ms subs,G.lookup x=some (.cls i ms subs)->(mg x=some (.ref (ClsTab.ca i))/\NewOk K (ClsTab.ca i)) /\
  ∀ m j ps,ms.lookup m=some (j,ps)->∃ y f fd pn N,MethOk K G T (ClsTab.ca i) m y j f fd pn N
variable{fd:FuncData}{pn:Li Str}
section
variable {P:Program}{w:World}{K:Fg}{mg:Str->Ot vL}{base:Heap}{G:Gs}{T:Nat->Ot FD}
theorem ZfH{x:Str}(h:Wq sc x=true):Vis sc x:=by
 unfold Wq at h;rw[Ba]at h;have h:=h.2;split at h
 ·rename_i q;exact .inl q
 ·rename_i q;exact .inr (.inl q)
 ·rename_i q;exact .inr (.inr q)
 ·cases h
theorem Zbm{x:Str}(h:ZN sc x=true):sc.names.lookup x=some .globalImplicit:=by
 unfold ZN at h;rw[Ba]at h;have h:=h.2;split at h
 ·rename_i q;exact q
 ·cases h
theorem Zbc{x:Str}(h:Ud sc x=true):sc.names.lookup x=some .cell\/sc.names.lookup x=some .free:=by
 unfold Ud at h;split at h
 ·rename_i q;exact .inl q
 ·rename_i q;exact .inr q
 ·cases h
theorem Zcs(h:Dens K ad H vs ds)(hl:ds.length<=N.length):EnvOk K ad H (L2.start N vs) (ds.map some++List.replicate (N.length - ds.length) none):=by
 have e:=h.length;refine⟨by unfold L2.start;simp[e],fun i d q=>?_⟩
 by_cases hi:i < ds.length
 ·rw[aZ (by simpa using hi),aQ,Lg hi]at q
  have q':ds[i]=d:=by simpa using q
  have g:ds[i]?=some d:=by rw[Lg hi,q']
  obtain⟨v,e1,e2⟩:=h.get g;refine⟨v,?_,e2⟩;unfold L2.start;rw[aZ (by simpa[e] using hi),aQ,e1]
  rfl
 ·rw[bF (by simpa using hi),dN]at q
  split at q<;>cases q
theorem ZjL{n:Nat}(hc:∀ n,XE G (run T n))(gl:∀ A,Room (2 * n+1) A->∀ y g,G.lookup y=some g->GOk P w K mg base A (run T n) y g){x y:Str}{f:Ad}(ob:ZbY K G T x y i f fd pn N):FnOk P w K mg base CX0 (2 * (n+1)) f fd pn (spD K (run T (n+1) i)):=by
 obtain⟨st,oc,od,dV,kV,doc,pm,an,cdv,ct,osl,code,rfl,lk,hcd,S,hloc,hcode,hT⟩:=ob;have hrun:run T (n+1) i=fnD (run T n) ⟨pn.length,N.length,code⟩:=by
  show(match T i with|some f=>fnD (run T n) f|none=>fun _ _=>none)=_
  rw[hT]
 refine fn_of (k:=2 * n+1) lk hcd S (fun vs H Q E h=>?_) (fun A outer s H vs Q E hr h=>?_)
 ·obtain⟨ad,es,st,d,st',_,hd,e,_⟩:=h
  rw[hrun]at e;unfold fnD at e;split at e
  ·rename_i hl
   rw[hd.length];exact hl
  ·exact Zb e
 ·obtain⟨ad,es,s0,d,st',S0,hd,e,p⟩:=h
  rw[hrun]at e;unfold fnD at e;split at e
  ·rename_i hl
   have C:CxtS (cxOf CX0 P w K mg base N y (defScope st) f cdv A outer s H E).nox G (run T n) (defScope st) N:={
    hN:=rfl
    vis:=fun y hy=>ZfH hy
    glb:=fun y hy=>Zbm hy
    calm:=rfl
    hu:=hr.units
    gl:=gl _ hr
    cel:=fun y hy=>Zbc hy
    nx:=rfl
    nd:=S.nd
    loc:=hloc
    fn:=fun _=>rfl }
   have B:=(Qg (hc n) 60).2.2.1 _ _ _ C _ _ hcode;have hpl:pn.length<=N.length:=by have:=congrArg List.length S.pre;rw[bJ]at this;omega
   have E0':=Zcs (N:=N) hd (by rw[show es.length=pn.length from hl];exact hpl)
   refine⟨_,B.nox,?_⟩;split at e
   ·rename_i d' st1 q
    cases e;exact Yt E0' S0 q p
   ·rename_i ρ st1 q
    cases e;exact Yt E0' S0 q fun σ1 ad1 H1 x1 S1 E1=>(p.later x1).at S1 .non
   ·exact Zb e
  ·exact Zb e
theorem Zh7{f:Ad}:FnOk P w K mg base CX0 0 f fd pn (spD K (run T 0 i)):=by
 refine⟨fun vs H Q E h=>?_,fun A outer s H args us vs Q E _ _ _ _ h=>?_⟩
 ·obtain⟨_,_,_,_,_,_,_,e,_⟩:=h;cases e
 ·obtain⟨_,_,_,_,_,_,_,e,_⟩:=h;cases e
theorem Zin(X:Text w.params K mg G T)(F1:∀ {x y:Str}{i:Nat}{f:Ad}{fd:FuncData}{pn N:Li Str},ZbY K G T x y i f fd pn N\/ZfQ K mg G T i f fd pn->FnOk P w K mg base CX0 (2 * n) f fd pn (spD K (run T n i)))(A:Around)(hr:Room (2 * n+1) A):∀ y g,G.lookup y=some g->GOk P w K mg base A (run T n) y g:=fun y g hg=>by
 cases g with
 |cst d=>exact X.cst y d hg
 |blt=>exact X.blt y hg
 |dct ks ds=>exact X.dct y ks ds hg
 |fn j qs es=>
  obtain⟨f,fd,pn,N,Dk⟩:=X.fn y j qs es hg;exact⟨2 * n,f,fd,pn,F1 Dk.ob,hr.mono (Nat.le_succ _),Dk.at_,Dk.kp,Dk.bn⟩
 |cls i ms subs=>
  obtain⟨⟨h1,h2⟩,h4⟩:=X.cls y i ms subs hg;refine⟨h1,h2,fun m j ps hm=>?_⟩
  obtain⟨z,f,fd,pn,N,Mk⟩:=h4 m j ps hm;exact⟨2 * n,f,fd,pn,F1 (.inl Mk.ob),hr,Mk.mt,Mk.bn⟩
theorem Zag(hc:∀ n,XE G (run T n))(X:Text w.params K mg G T):∀ (n m:Nat),m<=n->∀ {x y:Str}{i:Nat}{f:Ad}{fd:FuncData}{pn N:Li Str},ZbY K G T x y i f fd pn N\/ZfQ K mg G T i f fd pn->FnOk P w K mg base CX0 (2 * m) f fd pn (spD K (run T m i))
 |n,0,_,_,_,_,_,_,_,_,_=>Zh7
 |n+1,m+1,h,_,_,_,_,_,_,_,.inl ob=>ZjL hc (fun A hr=>Zin X (fun ob=>Zag hc X n m (Nat.le_of_succ_le_succ h) ob) A hr) ob
 |n+1,m+1,h,_,_,_,_,_,_,_,.inr hd=>hd P w base m fun l hl A hr=>Zin X (fun ob=>Zag hc X n l (aF hl (Nat.le_of_succ_le_succ h)) ob) A hr
theorem ZiS(hc:∀ n,XE G (run T n))(X:Text w.params K mg G T)(n:Nat){x y:Str}{f:Ad}(h:ZbY K G T x y i f fd pn N\/ZfQ K mg G T i f fd pn):FnOk P w K mg base CX0 (2 * n) f fd pn (spD K (run T n i)):=Zag hc X n n (aB _) h
end
variable [ClsTab]
section
variable {ad:Li Ad}{H:Hp}{p:Ad}{xs ys:Li V}
theorem QK(hp:H p=some (.lst xs)){a:Ad}:YA H a↔YA (upd H p (.lst ys)) a:=ZaZ (QP hp rfl) rfl
theorem Zaz{K:Fg}(hp:H p=some (.lst xs)):Keeps K ad ad H (upd H p (.lst ys)):=⟨fun h=>h.upd hp (by intro xs z;cases z),fun h=>⟨h,QK hp⟩,fun h n=>⟨by rw[upd_ne (ne_of h hp (by intro z;cases z))];exact h,n⟩⟩
theorem Den.wr{K:Fg}(hp:H p=some (.lst xs)){v:V}(h:Den K ad H v d):Den K ad (upd H p (.lst ys)) v d:=h.map (Zaz hp)
theorem Dens.wr{K:Fg}(hp:H p=some (.lst xs))(h:Dens K ad H vs ds):Dens K ad (upd H p (.lst ys)) vs ds:=h.map (Zaz hp)
theorem EnvOk.wr{K:Fg}(hp:H p=some (.lst xs))(h:EnvOk K ad H σ ρ):EnvOk K ad (upd H p (.lst ys)) σ ρ:=⟨h.len,fun i d e=>let ⟨v,e1,e2⟩:=h.at_ i d e;⟨v,e1,e2.wr hp⟩⟩
theorem StOk.wr{K:Fg}(S:StOk K ad H st)(hp:H p=some (.lst xs))(hn:p∉ad):StOk K ad (upd H p (.lst ys)) st:=
 S.wrG (Zaz hp) hn
theorem Ext.wr{ad0:Li Ad}{H0:Hp}(x:Ext ad0 H0 ad H)(hp:H p=some (.lst xs))(h0:H0 p=none):Ext ad0 H0 ad (upd H p (.lst ys)):=by
 refine⟨x.pre,fun b zs h=>?_,fun b o h n=>?_,x.new,fun i a h=>(x.kd i a h).trans (QK hp)⟩
 ·rw[upd_ne (ne_of_none h h0)];exact x.tup b zs h
 ·rw[upd_ne (ne_of_none h h0)];exact x.keep b o h n
end
theorem Uj{c:Str->NameKind->Bool}:∀ {l:Li (Str×NameKind)}{y:Str},(l.map fun(n,k)=>if c n k=true then (n,NameKind.cell) else (n,k)).lookup y=(l.lookup y).map fun k=>if c y k=true then NameKind.cell else k
 |[],_=>rfl
 | (n,k) :: r,y=>by
  have ih:=@Uj c r y;rw[aM];have e:(if c n k=true then (n,NameKind.cell) else (n,k))=(n,if c n k=true then NameKind.cell else k):=by split<;>rfl
  show List.lookup y ((if c n k=true then (n,NameKind.cell) else (n,k)) :: _)=_
  rw[e,bK,bK];cases q:y==n with
  |true=>rw[beq_iff_eq.mp q];rfl
  |false=>exact ih
theorem Y2{env:PySem.Env}{y:Str}:(relabel sc env).names.lookup y=(sc.names.lookup y).map fun k=>if (k==NameKind.free&&env.scope.kind==.function&&env.kindOf y==some .cell)=true then NameKind.cell else k:=
 Uj (c:=fun n k=>k==NameKind.free&&env.scope.kind==.function&&env.kindOf n==some .cell)
theorem Xa{y:Str}{k:NameKind}(h:sc.names.lookup y=some k)(hk:k≠.free):(relabel sc env).names.lookup y=some k:=by
 rw[Y2,h];have:(k==NameKind.free)=false:=by simpa using hk
 show some (if (k==NameKind.free&&_&&_)=true then NameKind.cell else k)=some k
 rw[this,Bool.false_and,Bool.false_and,if_neg Bf]
theorem Xx{y:Str}(h:sc.names.lookup y=some .free):(relabel sc env).names.lookup y=some .cell\/(relabel sc env).names.lookup y=some .free:=by
 rw[Y2,h];show(some (if _ then NameKind.cell else NameKind.free))=_\/(some (if _ then NameKind.cell else NameKind.free))=_
 split
 ·exact .inl rfl
 ·exact .inr rfl
theorem QY{sc:Scope}{y:Str}(hc:∀ p∈sc.names,p.2≠.cell)(h:(relabel sc env).names.lookup y=some .cell\/(relabel sc env).names.lookup y=some .free):sc.names.lookup y=some .free:=by
 rw[Y2]at h;cases q:sc.names.lookup y with
 |none=>rw[q]at h;rcases h with h|h<;>cases h
 |some k=>
  rw[q]at h;cases k with
  |free=>rfl
  |cell=>
   have:∀ {l:Li (Str×NameKind)},l.lookup y=some .cell->∃ p∈l,p.2=.cell:=fun {l} e=>by
    induction l with
    |nil=>exact Zb e
    |cons a l ih=>
     obtain⟨n,k⟩:=a;rw[bK]at e;split at e
     ·cases e;exact⟨_,Ls,rfl⟩
     ·obtain⟨p,hp,e'⟩:=ih e;exact⟨p,Lm _ hp,e'⟩
   obtain⟨p,hp,e⟩:=this q;exact absurd e (hc p hp)
  |_=>rcases h with h|h<;>simp at h
theorem Wu{env:PySem.Env}:∀ (l:Li (Str×NameKind)) (acc:Li (Str×Ad)),(∀ p∈l,p.2=.free->∃ c,env.cells.lookup p.1=some c)->
  ∃ cl,(forIn l acc fun(x:Str×NameKind) (r:Li (Str×Ad))=>(do
   if (x.2==NameKind.free)=true then
    let a <-cellOf env x.1
    pure (ForInStep.yield ((x.1,a) :: r))
   else pure (ForInStep.yield r):Sem (ForInStep (Li (Str×Ad)))))=pure cl /\
   (∀ y c,cl.lookup y=some c->acc.lookup y=some c\/((y,NameKind.free)∈l/\env.cells.lookup y=some c))/\(∀ y,(y,NameKind.free)∈l\/(acc.lookup y).isSome->(cl.lookup y).isSome)
 |[],acc,_=>⟨acc,by simp only[List.forIn_nil],fun y c h=>.inl h,fun y h=>by simpa using h⟩
 | (n,k) :: l,acc,h=>by
  by_cases hk:k=.free
  ·subst hk
   obtain⟨c0,hc0⟩:=h (n,.free) Ls rfl;obtain⟨cl,e,h1,h2⟩:=Wu (env:=env) l ((n,c0) :: acc) fun p hp=>h p (Lm _ hp)
   refine⟨cl,?_,fun y c q=>?_,fun y q=>?_⟩
   ·rw[dS]
    simp only[beq_self_eq_true,if_true];have:cellOf env n=pure c0:=by unfold cellOf;rw[hc0]
    simp only[this,pure_bind];exact e
   ·rcases h1 y c q with z|⟨z1,z2⟩
    ·rw[bK]at z
     split at z
     ·rename_i hy
      cases z;rw[beq_iff_eq.mp hy];exact .inr ⟨Ls,hc0⟩
     ·exact .inl z
    ·exact .inr ⟨Lm _ z1,z2⟩
   ·refine h2 y ?_
    rcases q with q|q
    ·rcases aJ.mp q with z|z
     ·cases z
      exact .inr (by rw[bK];simp)
     ·exact .inl z
    ·refine .inr ?_
     rw[bK];split
     ·rfl
     ·exact q
  ·obtain⟨cl,e,h1,h2⟩:=Wu (env:=env) l acc fun p hp=>h p (Lm _ hp)
   refine⟨cl,?_,fun y c q=>?_,fun y q=>?_⟩
   ·rw[dS]
    have:(k==NameKind.free)=false:=by simpa using hk
    simp only[this,Bool.false_eq_true,if_false,pure_bind];exact e
   ·rcases h1 y c q with z|⟨z1,z2⟩
    ·exact .inl z
    ·exact .inr ⟨Lm _ z1,z2⟩
   ·refine h2 y ?_
    rcases q with q|q
    ·rcases aJ.mp q with z|z
     ·cases z;exact absurd rfl hk
     ·exact .inl z
    ·exact .inr q
theorem Ji{sc:Scope}(h:∀ p∈sc.names,p.2=.free->∃ c,env.cells.lookup p.1=some c):∃ cl,closureFor sc env=pure cl/\(∀ y c,cl.lookup y=some c->env.cells.lookup y=some c)/\∀ y,(y,NameKind.free)∈sc.names->(cl.lookup y).isSome:=by
 obtain⟨cl,e,h1,h2⟩:=Wu (env:=env) sc.names [] h;refine⟨cl,?_,fun y c q=>?_,fun y q=>h2 y (.inl q)⟩
 ·unfold closureFor
  rw[show(fun(x:Str×NameKind) (r:Li (Str×Ad))=>_)=_ from rfl]at e
  first|exact(by simp only[e,pure_bind]) | (simp only[bind_pure]at *;exact e)|exact e
 ·rcases h1 y c q with z|⟨_,z⟩
  ·exact Zb z
  ·exact z
variable [ClsTab]
variable{R:Result->Sd->Prop}{iter:Expr}{ifs:Li Expr}
theorem Jj{s:Sd}{target:Expr}{scope:Scope}{it acc:vL}(I:Nat->Sd->Prop)(turn:∀ n s,I n s->wpAny (model prog w) A (pyNext it) (fun r s₁=>match r with
   |none=>R (.ok .next) s₁
   |some v=>wpAny (model prog w) A (letOwnedTupleGo target it v) (fun _ s₁'=>wpAny (model prog w) A (assign target env v) (fun _ s₂=>
     wpAny (model prog w) A (forIn ifs true fun c r=>if r=true then do let ok <-isTrue c env (eval c env);pure (ForInStep.yield ok) else pure (ForInStep.yield r)) (fun ok s₃=>
      if ok=true then wpAny (model prog w) A (eval elt env) (fun x s₄=>
       wpAny (model prog w) A (call (.builtin "list.append") [acc,x]) (fun _ s₅=>∃ m,m < n/\I m s₅) (notedBy (model prog w) A env fun e s'=>R (.error e) s') s₄) (notedBy (model prog w) A env fun e s'=>R (.error e) s') s₃
      else ∃ m,m < n/\I m s₃) (notedBy (model prog w) A env fun e s'=>R (.error e) s') s₂) (notedBy (model prog w) A env fun e s'=>R (.error e) s') s₁') (notedBy (model prog w) A env fun e s'=>R (.error e) s') s₁) (notedBy (model prog w) A env fun e s'=>R (.error e) s') s)(n:Nat)(h:I n s):codeAny (model prog w) A (.compLoop (.ListComp elt [⟨target,iter,ifs,0⟩] scope pos) 0 it acc env) R s:=by
 refine codeAny_loop rfl I (fun n s hI=>?_) n h
 show wpAny _ A ((compTurn (.ListComp elt [⟨target,iter,ifs,0⟩] scope pos) 0 it acc env).onRaise (fun x=>do noteFrame x env;theTreesLotGoes x)) _ _ s
 refine wpAny_noted ?_;rw[compTurn_list];refine aA (wpAny_standAt (aA (bC (turn n s hI) (fun r s₁ h₁=>?_) fun _ _ h'=>h')))
 cases r with
 |none=>exact aE h₁
 |some v=>
  refine aA (bC h₁ (fun _ s₁' h₁=>?_) fun _ _ h'=>h')
  refine aA (bC h₁ (fun _ s₂ h₂=>aA (bC h₂ (fun ok s₃ h₃=>?_) fun _ _ h'=>h')) fun _ _ h'=>h')
  cases ok with
  |false=>exact aE ⟨rfl,h₃⟩
  |true=>
   exact aA (aA (bC h₃ (fun x s₄ h₄=>aA (bC h₄ (fun _ s₅ h₅=>aE (aE ⟨rfl,h₅⟩)) fun _ _ h'=>h')) fun _ _ h'=>h'))
noncomputable def cxC(X:Cx)(N:Li Str)(env:PySem.Env)(s3:Sd)(H3:Hp)(fp:Li Ad)(pQ:Li (Ad×Obj)):Cx:=
 { X with N:=N,s₀:=s3,H₀:=H3,env:=env,outer:=X.stack,ex:=fp,fn:=fun _=>false,pn:=X.pn++pQ,xe:=fun _ _=>False }
variable{m0:Str->Ot vL}{tk:Nat}{σ':L2.St}
section
variable {X:Cx}{pQ:Li (Ad×Obj)}{σ:L2.St}{H H3:Hp}{s3:Sd}{sc2:Scope}{cl:Li (Str×Ad)}{fp:Li Ad}{N:Li Str}
theorem Zey(I3:L2.Inv X pQ σ H3 s3){h4:Heap}(hk:sc2.kind=.function)(hcell:∀ p∈sc2.names,p.2≠.cell)(hns:h4.Ns s3.heap.objs.size m0)(up:∀ b u,s3.heap.get? b=some u->h4.get? b=some u)(c1:∀ y c,cl.lookup y=some c->X.env.cells.lookup y=some c)(c2:∀ y,sc2.names.lookup y=some .free->(cl.lookup y).isSome)(f3:∀ b∈fp,FpOk X pQ H3 b)(fb:∀ b∈fp,b < s3.heap.objs.size)(hσ:∀ (i:Nat) (y:Str) (v:V),N[i]?=some y->σ'[i]?=some (some v)->∃ j:Nat,X.N[j]?=some y/\σ[j]?=some (some v)/\sc2.names.lookup y=some .free/\(X.env.scope.names.lookup y=some .cell\/X.env.scope.names.lookup y=some .free))(hl:σ'.length=N.length) :
  L2.Inv (cxC X N (compEnvC sc2 cl s3.heap.objs.size X.env) s3 H3 fp pQ) [] σ' H3 { s3 with heap:=h4,toks:=tk } where
 ok:={
  mod:=I3.ok.mod
  kind:=hk
  glob:=I3.ok.glob
  blt:=I3.ok.blt
  above:=aB _
  inj:=fun x y c e e'=>I3.ok.inj x y c (c1 _ _ e) (c1 _ _ e')
  has:=fun x h=>by
   have e:=QY (env:=X.env) hcell h;have:=c2 x e;cases q:cl.lookup x with
   |none=>rw[q]at this;cases this
   |some c=>exact⟨c,q⟩
  cab:=fun x c h=>nomatch h
  hd:=I3.ok.hd
  frames:=I3.ok.frames
  stk:=.inl rfl
  exf:=fun b hb=>⟨aX (fb b hb),fun x c e=>(f3 b hb).2.2.2.2.1 x c (c1 _ _ e)⟩
  bs:=I3.bs
  bsz:=aF I3.ok.bsz I3.sz
  noex:=fun b o e hb=>by
   rcases (f3 b hb).2.2.2.1 with z|z
   ·exact I3.ok.noex b o e z
   ·exact absurd (aP (aG e) (aF I3.ok.bsz z)) (bW _)
  exfs:=fun b hb hs=>by
   rcases aJ.mp (I3.stkSub b hs) with z|z
   ·exact(f3 b hb).2.1 z
   ·exact(f3 b hb).2.2.1 z
  funs:=I3.stack
  frf:=I3.stkFree }
 os:=rfl
 bare:=I3.bare
 base:=Un.kept up
 loc:=⟨m0,hns,fun i y v e1 e2 e3=>by
  obtain⟨j,g1,g2,g3,g4⟩:=hσ i y v e1 e2;obtain⟨m,hn,hl'⟩:=I3.loc;obtain⟨u,r,l⟩:=hl' j y v g1 g2 (.inr g4);refine⟨u,r,.inr ⟨Xx g3,?_⟩⟩;rcases l with⟨z,_⟩|⟨_,c,e,z⟩
  ·have z':X.env.scope.names.lookup y=some .local:=z
   rcases g4 with w|w<;>(rw[z']at w;cases w)
  ·have q:=c2 y g3
   cases q':cl.lookup y with
   |none=>rw[q']at q;cases q
   |some c'=>
    have:=c1 _ _ q';rw[e]at this;cases this
    obtain⟨o,ho,hd⟩:=z;exact⟨c,q',o,up c o ho,hd⟩⟩
 cell:=fun y c e=>by
  obtain⟨v,o,ho,hd⟩:=I3.cell y c (c1 _ _ e);exact⟨v,o,up c o ho,hd⟩
 free:=I3.hok.fresh (aB _)
 freeC:=fun y c e=>I3.freeC y c (c1 _ _ e)
 pin:=fun p hp=>by
  have hp':p∈X.pn++pQ:=by simpa[cxC] using hp
  obtain⟨e,n,ne,nf,d⟩:=I3.pin p hp';refine⟨up _ _ e,n,aX (aG e),fun hs=>?_,d⟩
  rcases aJ.mp (I3.stkSub _ hs) with z|z
  ·exact ne z
  ·exact nf z
 hok:=I3.hok.kept up
 len:=hl
theorem Zex(I3:L2.Inv X pQ σ H3 s3){pins':Li (Ad×Obj)}{H':Hp}{s':Sd}(hC:env.locals=s3.heap.objs.size)(I':L2.Inv (cxC X N env s3 H3 fp pQ) pins' σ' H' s')(sb:Heap.SameBut s3.heap.objs.size s'.heap h')(f3:∀ b∈fp,FpOk X pQ H3 b):L2.Inv X pQ σ H' { s' with heap:=h' }:=by
 have u:Un (frs X.stack) fp H3 H' s3.heap s'.heap:=I'.base;have ne:∀ b o,s3.heap.get? b=some o->b≠s3.heap.objs.size:=fun b o e=>aX (aG e)
 have fr:H' s3.heap.objs.size=none:=by have:=I'.free;rw[show(cxC X N env s3 H3 fp pQ).env.locals=s3.heap.objs.size from hC]at this;exact this
 refine I3.call' (s':={ s' with heap:=h' }) (ch:=fp) I'.os ⟨fun b o e n hb hx=>?_,fun b o e n hb hx=>?_,u.free,fun b o e hx=>?_,u.tups,u.frzs,u.tbls⟩ (fun b ob e=>?_) I'.bare (fun b hb=>?_)
 ·exact(sb.2 b (ne b o e)).trans (u.keep b o e n hb hx)
 ·obtain⟨sl,e1⟩:=u.slot b o e n hb hx
  exact⟨sl,(sb.2 b (ne b o e)).trans e1⟩
 ·obtain⟨o',e1⟩:=u.there b o e hx
  exact⟨o',(sb.2 b (ne b o e)).trans e1⟩
 ·refine(I'.hok b ob e).stay (fun c w' hc q=>(sb.2 c ?_).trans q) (fun _ q=>q) fun _ _ q=>q
  rintro rfl
  rcases hc with rfl|hc
  ·rw[fr]at e;cases e
  ·rw[fr]at hc;cases hc
 ·exact⟨(f3 b hb).2.2.2.1,(f3 b hb).2.1,(f3 b hb).2.2.2.2.1,(f3 b hb).2.2.2.2.2⟩
end
variable [ClsTab]
theorem Uo{N:Li Str}:∀ {l:Li Str}{fr:Li Nat},XX N l=some fr->fr.length=l.length/\∀ (i:Nat) (k:Nat),fr[i]?=some k->∃ y,l[i]?=some y/\N[k]?=some y
 |[],fr,h=>by cases h;exact⟨rfl,fun i k e=>by simp at e⟩
 |x :: r,fr,h=>by
  unfold XX at h;split at h
  ·rename_i a as e1 e2
   cases h;obtain⟨h1,h2⟩:=Uo e2;refine⟨by simp[h1],fun i k e=>?_⟩
   cases i with
   |zero=>simp at e;subst e;exact⟨x,rfl,Ww e1⟩
   |succ i=>exact h2 i k (by simpa using e)
  ·exact Zb h
theorem StOk.lt{a:Ad}(I:L2.Inv X pQ σ H s)(S:StOk X.K ad H st)(h:a∈ad):a < s.heap.objs.size:=by
 obtain⟨i,hi,e⟩:=List.getElem_of_mem h;rcases S.has (show ad[i]?=some a by rw[Lg hi,e]) with⟨o,q⟩|⟨o,q⟩
 ·exact I.hok.lt q
 ·exact aG (I.kIn a o q)
variable{fr:Li Nat}
theorem ZdX{K:Fg}{bs:L2.St}{b:D->Li (Ot D)}(E:EnvOk K ad H σ ρ)(hd:EnvOk K ad H bs (b d)):EnvOk K ad H (bs++fr.map fun i=>(σ[i]?).join) (Y8 b ρ fr d):=by
 refine⟨by simp[Y8,hd.len],fun i e h=>?_⟩
 unfold Y8 at h;by_cases hi:i < (b d).length
 ·rw[aZ hi]at h
  rw[aZ (by rw[hd.len];exact hi)]
  exact hd.at_ i e h
 ·have hi:(b d).length<=i:=dA hi
  rw[bF hi,aQ]at h;rw[bF (by rw[hd.len];exact hi),aQ,hd.len]
  cases q:fr[i - (b d).length]? with
  |none=>rw[q]at h;cases h
  |some k=>
   rw[q]at h;have h:(ρ[k]?).join=some e:=by simpa using h
   have h2:ρ[k]?=some (some e):=by
    cases z:ρ[k]? with
    |none=>rw[z]at h;cases h
    |some o=>rw[z]at h;rw[show o=some e from h]
   obtain⟨w,e1,e2⟩:=E.at_ k e h2;exact⟨w,by simp[e1],e2⟩
def WU(K:Fg)(tg:Expr)(xs:Li Str)(b:D->Li (Ot D))(ds:Li D):Prop:=
 ∀ X:Cx,X.K=K->X.calm=true->X.N.Nodup->(∀ (i:Nat) x,xs[i]?=some x->X.N[i]?=some x)->(∀ y∈xs,X.env.scope.names.lookup y=some .local)->∀ (pQ:Li (Ad×Obj)) (s:Sd) (os fv:L2.St) (H:Hp) (ad:Li Ad) (v:V) (u:vL) (d:D),os.length=xs.length->L2.Inv X pQ (os++fv) H s->RelV v u->Den K ad H v d->d∈ds->
  wpAny (model X.prog X.w) X.A (assign tg X.env u) (fun _ s'=>∃ bs,bs.length=xs.length/\EnvOk K ad H bs (b d)/\L2.Inv X pQ (bs++fv) H s') X.xe s
theorem Jc{K:Fg}{x:Str}{px:Pos}:WU K (.Name x px) [x] one ds:=by
 intro X hK hc hN hx hl pQ s os fv H ad v u d ho I r dv _;obtain⟨o,rfl⟩:∃ o,os=[o]:=by match os,ho with|[o],_=>exact⟨o,rfl⟩
 have lx:=hl x Ls;have pg:PG X (.Name x px) (gName 0):=pg_name hN (hx 0 x rfl) (.inl lx) (.inr lx);refine thn (pg pQ s _ H v u (fun σ' H'=>σ'=[some v]++fv/\H'=H) I r ⟨rfl,rfl⟩) fun _ s' ⟨σ',H',I',e,e'⟩=>?_
 subst e;subst e'
 exact⟨[some v],rfl,⟨rfl,fun i e h=>by
  cases i with
  |zero=>cases h;exact⟨v,rfl,dv⟩
  |succ i=>exact nomatch (show(none:Ot (Ot D))=some (some e) from h)⟩,I'⟩
theorem Zdq{K:Fg}{x y:Str}{px py:Pos}{k:Nat}{ds:Li D}(hds:∀ d∈ds,∃ a b,d=.tup [a,b]):WU K (.Tuple [.Name x px,.Name y py] k tp) [x,y] two ds:=by
 intro X hK hc hN hx hl pQ s os fv H ad v u d ho I r dv hd;obtain⟨o,o',rfl⟩:∃ o o',os=[o,o']:=by match os,ho with|[o,o'],_=>exact⟨o,o',rfl⟩
 obtain⟨a,b,rfl⟩:=hds d hd;have lx:=hl x Ls;have ly:=hl y (Lm _ Ls);have g1:PG X (.Name x px) (gName 0):=pg_name hN (hx 0 x rfl) (.inl lx) (.inr lx);have g2:PG X (.Name y py) (gName 1):=pg_name hN (hx 1 y rfl) (.inl ly) (.inr ly);have pg:PG X (.Tuple [.Name x px,.Name y py] k tp) _:=pg_tup hc (pgs_cons g1 (pgs_cons g2 pgs_nil))
 obtain⟨p,vs,rfl,ha,rv⟩:=dv.ofTup;cases rv with
 |cons da rv=>cases rv with
  |cons db rv=>
   cases rv;rename_i va vb;refine thn (pg pQ s _ H _ u (fun σ' H'=>σ'=[some va,some vb]++fv/\H'=H) I r ⟨p,[va,vb],rfl,by rw[hK];exact ha.sq,rfl,va,[vb],rfl,vb,[],rfl,rfl,rfl,rfl⟩) fun _ s' ⟨σ',H',I',e,e'⟩=>?_
   subst e;subst e'
   exact⟨[some va,some vb],rfl,⟨rfl,fun i e h=>by
    cases i with
    |zero=>cases h;exact⟨va,rfl,da⟩
    |succ i=>cases i with
     |zero=>cases h;exact⟨vb,rfl,db⟩
     |succ i=>exact nomatch (show(none:Ot (Ot D))=some (some e) from h)⟩,I'⟩
variable{cl:Li (Str×Ad)}{ce cc:CE}{bd:D->Li (Ot D)}{J:It}{tn:Nat->Heap->Prop}{Good:Li Ad->Hp->Prop}{ad2:Li Ad}{H2:Hp}{use:Ot (vL->Sem Unit)}{R0:vL->Sd->Prop}{st1:Za}
section
variable {X:Cx}{G:Gs}{F:Nat->Fn}{sc sc2:Scope}{N xs:Li Str}
theorem YO(h:XM sc sc2 xs=true):sc2.kind=.function/\(∀ p∈sc2.names,p.2≠.cell)/\(∀ x∈xs,sc2.names.lookup x=some .local)/\(∀ p∈sc2.names,p.2=.local->sc2.names.lookup p.1=some .local)/\(xs++ZZ sc2).Nodup/\∀ y∈ZZ sc2,Ud sc y=true/\sc2.names.lookup y=some .free:=by
 unfold XM at h;simp only[Ba,aS,aW,cB,cT,decide_eq_false_iff_not]at h;obtain⟨⟨⟨⟨⟨h1,h2⟩,h3⟩,h4⟩,h5⟩,h6⟩:=h;exact⟨h1,h2,h3,fun p hp e=>(h4 p hp).elim (fun z=>absurd e z) id,h5,h6⟩
theorem mem_frees{y:Str}:y∈ZZ sc2↔(y,NameKind.free)∈sc2.names:=by
 unfold ZZ;rw[aT];constructor
 ·rintro⟨⟨n,k⟩,h,rfl⟩
  rw[cW]at h;have:k=.free:=of_decide_eq_true h.2;rw[<-this];exact h.1
 ·intro h
  exact⟨(y,.free),cW.mpr ⟨h,by simp⟩,rfl⟩
theorem mem_of_lookup{y:Str}{k:NameKind}:∀ {l:Li (Str×NameKind)},l.lookup y=some k->(y,k)∈l
 |[],h=>by cases h
 | (n,q) :: l,h=>by
  rw[bK]at h;split at h
  ·rename_i e
   cases h;rw[beq_iff_eq.mp e];exact Ls
  ·exact Lm _ (mem_of_lookup h)
theorem ZdS(Kx:Cxt X G F sc N)(hsc:XM sc sc2 xs=true){C:Ad}{s3:Sd}{H3:Hp}{fp:Li Ad}:Cxt (cxC X (xs++ZZ sc2) (compEnvC sc2 cl C X.env) s3 H3 fp pQ) G F sc2 (xs++ZZ sc2):=by
 obtain⟨h1,h2,h3,h4,h5,h6⟩:=YO hsc;exact {
  hN:=rfl
  vis:=fun y hy=>by
   rcases ZfH hy with z|z|z
   ·exact .inl (Xa z (by intro q;cases q))
   ·exact absurd rfl (h2 _ (mem_of_lookup z))
   ·rcases Xx (env:=X.env) z with w|w
    ·exact .inr (.inl w)
    ·exact .inr (.inr w)
  glb:=fun y hy=>Xa (Zbm hy) (by intro q;cases q)
  calm:=Kx.calm
  hu:=Kx.hu
  gl:=Kx.gl
  cel:=fun y hy=>by
   rcases Zbc hy with z|z
   ·exact absurd rfl (h2 _ (mem_of_lookup z))
   ·exact Xx z
  nx:=rfl }
theorem ZdL{ok:Za->Prop}{f c:D->Za->Res}{xs:Li D}{r:Li D×Za}(h:YE ok f c xs st=some r):ok st:=by
 unfold YE at h;split at h
 ·split at h
  ·assumption
  ·exact Zb h
 ·split at h
  ·assumption
  ·exact Zb h
noncomputable def evB(F:Nat->Fn)(c:CE)(b:D->Li (Ot D))(ρ:Env)(fr:Li Nat):D->Za->Res:=fun d s=>ev F c (Y8 b ρ fr d) s
inductive CI(X:Cx)(tn:Nat->Heap->Prop)(fp:List Addr)(fv σ:L2.St)(ρ:Env)(w:Nat)(ds:List D)(go:List D->Za->Option (List D×Za))(Good:List Addr->Hp->Prop)(dd:Addr)(ad2:List Addr)(H2:Hp)(st':Za)(ys:List D)(m:Nat)(s:Shared):Prop
 |mk (i:Nat) (o0:L2.St) (H:Hp) (ad:List Addr) (st:Za) (vs:List V) (es zs:List D) (him:i+m=ds.length) (hol:o0.length=w) (I:L2.Inv X [] (o0++fv) H s) (ti:tn i s.heap) (fi:∀ b∈fp,H b=none) (En:EnvOk X.K ad H σ ρ) (S:StOk X.K ad H st) (Gd:Good ad H) (nd:dd∉ad) (hv:H dd=some (.lst vs)) (rv:Dens X.K ad H vs es) (hel:es.length<=i)
  (hcp:go (ds.drop i) st=some (zs,st')) (hys:es++zs=ys) (ex:Ext ad2 H2 ad H):CI X tn fp fv σ ρ w ds go Good dd ad2 H2 st' ys m s
theorem Zck(Kx:Cxt X G F sc2 N)(ihE:ZC G F n)(hce:cE G n sc2 N elt=some ce)(hcc:(ifs=[]/\cc=.cst (.bl true))\/∃ e,ifs=[e]/\cE G n sc2 N e=some cc){fp:Li Ad}{it:Ad}{ok:Za->Prop}(gm:∀ ad H ad' H',Ext ad H ad' H'->Good ad H->Good ad' H')(gw:∀ ad H p xs ys,H p=some (.lst xs)->Good ad H->Good ad (upd H p (.lst ys)))(go:∀ i ad H st,Good ad H->StOk X.K ad H st->ok st->i < ds.length->J.go i H)(stop:∀ i ad H st,Good ad H->StOk X.K ad H st->ok st->ds.length=i->J.stop i H)(yl:∀ i ad H st v H',Good ad H->StOk X.K ad H st->ok st->J.yld i H v H'->i < ds.length->Ext ad H ad H'/\StOk X.K ad H' st/\∃ d,ds[i]?=some d/\Den X.K ad H' v d)(T:Turn X.prog X.w X.K tg J fp it tn)(B:WU X.K tg xs bd ds)(hN:X.N.Nodup)(hx:∀ (i:Nat) x,xs[i]?=some x->X.N[i]?=some x)(hl:∀ y∈xs,X.env.scope.names.lookup y=some .local)(exx:X.xe=fun _ _=>False)(fpk:∀ {H:Hp},(∀ b∈fp,H b=none)->∀ b∈fp,FpOk X [] H b){fv:L2.St}(ec:∀ {ad H bs d},EnvOk X.K ad H σ ρ->EnvOk X.K ad H bs (bd d)->EnvOk X.K ad H (bs++fv) (Y8 bd ρ fr d)){dd:Ad}{ys:Li D}(D0:H2 dd=none)(hz:ds.length<=1000)(done:∀ s5 σ5 H ad vs,L2.Inv X [] σ5 H s5->StOk X.K ad H st'->dd∉ad->H dd=some (.lst vs)->Dens X.K ad H vs ys->Ext ad2 H2 ad H->R (.ok .next) s5){m:Nat}(h0:CI X tn fp fv σ ρ xs.length ds (YE ok (evB F ce bd ρ fr) (evB F cc bd ρ fr)) Good dd ad2 H2 st' ys m s) :
  codeAny (model X.prog X.w) X.A (.compLoop (.ListComp elt [⟨tg,iter,ifs,0⟩] sc2 pos) 0 (.ref it) (.ref dd) X.env) R s:=by
 refine Jj _ (fun m s h=>?_) m h0
 cases h with
 |mk i o0 H ad st vs es zs him hol I ti fi En S Gd nd hv rv hel hcp hys ex=>
 have oks:=ZdL hcp;have none_of:∀ {E:vL->Sd->Prop}{α:Type}{t:Sem α}{R:α->Sd->Prop}{s0:Sd},wpAny (model X.prog X.w) X.A t R X.xe s0->wpAny (model X.prog X.w) X.A t R E s0:=fun h=>by
  rw[exx]at h;exact bC h (fun _ _ q=>q) fun _ _ q=>q.elim
 by_cases hi:i < ds.length
 ·refine thn (T.item X rfl rfl rfl Kx.calm i [] s _ H _ I (fpk fi) ti (go i ad H st Gd S oks hi)) fun r s5 ⟨u,hr,h5'⟩=>?_
  subst hr;refine thn h5' fun _ s6 ⟨v,H',I6,r6,y6,t6,f6⟩=>?_
  obtain⟨x6,S6,d,ed,dv⟩:=yl i ad H st v H' Gd S oks y6 hi;have hd:ds.drop i=d :: ds.drop (i+1):=by
   rw[cR hi];rw[Lg hi]at ed;cases ed;rfl
  refine thn (none_of (B X rfl Kx.calm hN hx hl _ s6 o0 _ H' ad v u _ hol (I6.pinned (fpk f6) (T.obj _ _ t6)) r6 dv (bG ed))) fun _ s7 ⟨bs,lb,Eb,I7⟩=>?_
  have En6:=En.mono x6;have En7:=ec En6 Eb
  -- behind the item's turn
  have again:∀ {H9:Hp}{s9:Sd}{ad9:Li Ad}{st9:Za}{vs9:Li V}{es9 zs9:Li D},L2.Inv X ([]++pinsAt fp s6.heap) (bs++fv) H9 s9->StOk X.K ad9 H9 st9->Good ad9 H9->dd∉ad9->H9 dd=some (.lst vs9)->Dens X.K ad9 H9 vs9 es9->es9.length<=i+1->
    YE ok (evB F ce bd ρ fr) (evB F cc bd ρ fr) (ds.drop (i+1)) st9=some (zs9,st')->es9++zs9=ys->Ext ad2 H2 ad9 H9->EnvOk X.K ad9 H9 σ ρ->
    ∃ m',m' < m/\CI X tn fp fv σ ρ xs.length ds (YE ok (evB F ce bd ρ fr) (evB F cc bd ρ fr)) Good dd ad2 H2 st' ys m' s9:=
   fun I9 S9 G9 n9 v9 r9 l9 c9 y9 x9 e9=>
    have pk:=fun b hb o e=>I9.pin (b,o) (cD _ (cD _ (mem_pinsAt hb e)))
    ⟨m - 1,by omega,.mk (i+1) bs _ _ _ _ _ _ (by omega) lb I9.unpinned (T.keep _ _ _ t6 fun b hb o e=>(pk b hb o e).1) (fun b hb=>let ⟨o,e,_⟩:=T.obj _ _ t6 b hb;(pk b hb o e).2.1) e9 S9 G9 n9 v9 r9 l9 c9 y9 x9⟩
  -- the tests
  have tests:∀ {k:Bool}{st2:Za},evB F cc bd ρ fr d st=some (.bl k,st2)->∀ {R:Bool->Sd->Prop}{E:vL->Sd->Prop},(∀ s8 H8 ad8,L2.Inv X ([]++pinsAt fp s6.heap) (bs++fv) H8 s8->Ext ad H' ad8 H8->StOk X.K ad8 H8 st2->R k s8)->
    wpAny (model X.prog X.w) X.A (forIn ifs true fun c r=>if r=true then do let ok <-isTrue c X.env (eval c X.env);pure (ForInStep.yield ok) else pure (ForInStep.yield r)) R E s7:=fun {k st2} q {R E} hR=>by
   rcases hcc with⟨rfl,rfl⟩|⟨e,rfl,he⟩
   ·cases q
    exact wpAny_tests_nil (hR s7 H' ad I7 (Ext.refl _ _) S6)
   ·refine wpAny_tests_one (thn (none_of ((ihE X sc2 _ Kx e cc he).pt _ s7 _ H' (fun k' H8=>k'=k/\∃ ad8,Ext ad H' ad8 H8/\StOk X.K ad8 H8 st2) I7 ⟨ad,Y8 bd ρ fr d,st,k,st2,En7,S6,q,fun ad' H' x S'=>⟨rfl,ad',x,S'⟩⟩)) fun k' s8 ⟨H8,I8,e8,ad8,x8,S8⟩=>?_)
    subst e8;exact hR s8 H8 ad8 I8 x8 S8
  have n8:∀ {ad8 H8},Ext ad H' ad8 H8->dd∉ad8:=fun x8 z=>((x6.trans x8).new dd z).elim nd fun w=>by rw[hv]at w;cases w
  have v8:∀ {ad8 H8},Ext ad H' ad8 H8->H8 dd=some (.lst vs):=fun x8=>(x6.trans x8).keep dd _ hv nd
  have rv6:=rv.mono x6;have ex6:=ex.trans x6;have G6:=gm _ _ _ _ x6 Gd;clear x6 En Eb ex Gd S I hv rv;rw[hd]at hcp;unfold YE at hcp;rw[if_pos oks]at hcp;split at hcp
  ·rename_i st2 q1
   split at hcp
   ·rename_i y st3 q2
    split at hcp
    ·rename_i zs' st4 q3
     cases hcp;refine tests q1 fun s8 H8 ad8 I8 x8 S8=>?_
     rw[if_pos rfl];refine thn (none_of ((ihE X sc2 _ Kx elt ce hce).pe _ s8 _ H8 (fun v8 H9=>∃ ad9,Ext ad8 H8 ad9 H9/\StOk X.K ad9 H9 st3/\Den X.K ad9 H9 v8 y) I8 ⟨ad8,Y8 bd ρ fr d,st2,y,st3,En7.mono x8,S8,q2,fun v8 ad' H' x S' dn=>⟨ad',x,S',dn⟩⟩)) fun u9 s9 ⟨v9,H9,I9,r9,ad9,x9,S9,d9⟩=>?_
     have x89:=x8.trans x9;have hv9:=v8 x89;have hlen:vs.length=es.length:=rv6.length;refine thn (none_of (mt_append (X:=X) _ s9 _ H9 (.ref dd) [v9] (.ref dd) [u9] (fun _ H10=>H10=upd H9 dd (.lst (vs++[v9]))) I9 rfl (.cons r9 .nil) ⟨dd,vs,v9,rfl,rfl,hv9,Nat.lt_of_le_of_lt (show vs.length<=1000 by omega) (by decide),rfl⟩)) fun u10 s10 ⟨v10,H10,I10,r10,e10⟩=>?_
     subst e10;have nd9:=n8 x89;exact again (vs9:=vs++[v9]) (es9:=es++[y]) (zs9:=zs') I10 (S9.wr hv9 nd9) (gw _ _ _ _ _ hv9 (gm _ _ _ _ x89 G6)) nd9 upd_same (((rv6.mono x89).append (.cons d9 .nil)).wr hv9) (by rw[aH,cI];omega) q3 (by rw[<-hys,bN];rfl) ((ex6.trans x89).wr hv9 D0) ((En6.mono x89).wr hv9)
    ·exact Zb hcp
   ·exact Zb hcp
  ·rename_i st2 q1
   refine tests q1 fun s8 H8 ad8 I8 x8 S8=>?_
   rw[if_neg Bf];exact again I8 S8 (gm _ _ _ _ x8 G6) (n8 x8) (v8 x8) (rv6.mono x8) (by omega) hcp hys (ex6.trans x8) (En6.mono x8)
  ·exact Zb hcp
 ·refine thn (T.done X rfl rfl rfl Kx.calm i [] s _ H _ I (fpk fi) ti (stop i ad H st Gd S oks (by omega))) fun r s5 ⟨hr,I5⟩=>?_
  subst hr;rw[dY (dA hi)]at hcp;unfold YE at hcp;rw[if_pos oks]at hcp;cases hcp;rw[bE]at hys;subst hys;exact done s5 _ H ad vs I5 S nd hv rv ex
theorem Zao(Kx:Cxt X G F sc N)(ihE:ZC G F n)(hsc:XM sc sc2 xs=true)(hfr:XX N (ZZ sc2)=some fr)(hce:cE G n sc2 (xs++ZZ sc2) elt=some ce)(hcc:(ifs=[]/\cc=.cst (.bl true))\/∃ e,ifs=[e]/\cE G n sc2 (xs++ZZ sc2) e=some cc)(c1:∀ y c,cl.lookup y=some c->X.env.cells.lookup y=some c)(c2:∀ y,(y,NameKind.free)∈sc2.names->(cl.lookup y).isSome){fp:Li Ad}{it:Ad}{ok:Za->Prop}(gm:∀ ad H ad' H',Ext ad H ad' H'->Good ad H->Good ad' H')(gw:∀ ad H p xs ys,H p=some (.lst xs)->Good ad H->Good ad (upd H p (.lst ys)))(go:∀ i ad H st,Good ad H->StOk X.K ad H st->ok st->i < ds.length->J.go i H)(stop:∀ i ad H st,Good ad H->StOk X.K ad H st->ok st->ds.length=i->J.stop i H)(yl:∀ i ad H st v H',Good ad H->StOk X.K ad H st->ok st->J.yld i H v H'->i < ds.length->Ext ad H ad H'/\StOk X.K ad H' st/\∃ d,ds[i]?=some d/\Den X.K ad H' v d){s2 s3:Sd}{dd:Ad}{h₁:Heap}{ys:Li D}(B:WU X.K tg xs bd ds)(T:Turn X.prog X.w X.K tg J fp it tn)(t2:tn 0 s2.heap)(f2:∀ b∈fp,FpOk X pQ H2 b)(fb:∀ b∈fp,b < dd)(E2:EnvOk X.K ad2 H2 σ ρ)(S2:StOk X.K ad2 H2 st1)(g2:Good ad2 H2)(hcomp:YE ok (fun d s=>ev F ce (Y8 bd ρ fr d) s) (fun d s=>ev F cc (Y8 bd ρ fr d) s) ds st1=some (ys,st'))(hz:ds.length<=1000)(hp:Post X.K ad2 H2 (.lst st'.length) (st'++[(true,ys)]) Q)(hend:∀ C dd s5 H5 m',s5.heap.Ns C m'->(∀ h',Heap.SameBut C s5.heap h'->L2.Inv X pQ σ H5 { s5 with heap:=h' })->FpOk X pQ H5 C->Q (.ref dd) H5->compPost (model X.prog X.w) X.A X.xe use R0 (.ref dd) C (.ok .next) s5)  (D0:H2 dd=none) (I3:L2.Inv X pQ σ (upd H2 dd (.lst [])) s3) (z3:s3.heap.objs.size=dd+1) (nad:dd∉ad2) (hns₁:h₁.Ns s3.heap.objs.size m0) (up:∀ b u,s3.heap.get? b=some u->h₁.get? b=some u) (up0:∀ b u,s2.heap.get? b=some u->s3.heap.get? b=some u) :
  codeAny (model X.prog X.w) X.A (.compStart (.ListComp elt [⟨tg,iter,ifs,0⟩] sc2 pos) 0 (.ref it) (.ref dd) (compEnvC sc2 cl s3.heap.objs.size X.env)) (compPost (model X.prog X.w) X.A X.xe use R0 (.ref dd) s3.heap.objs.size) { s3 with heap:=h₁,toks:=tk }:=by
 obtain⟨h1,h2,h3,h4,h5,h6⟩:=YO hsc;have f3:∀ b∈fp,FpOk X pQ (upd H2 dd (.lst [])) b:=fun b hb=>⟨by rw[upd_ne (aX (fb b hb))];exact(f2 b hb).1,(f2 b hb).2⟩
 obtain⟨fl,fg⟩:=Uo hfr;have I4:=Zey (N:=xs++ZZ sc2) (cl:=cl) (fp:=fp) (tk:=tk) (σ':=List.replicate xs.length none++fr.map fun i=>(σ[i]?).join) I3 h1 h2 hns₁ up c1 (fun y e=>c2 y (mem_of_lookup e)) f3 (fun b hb=>by rw[z3];exact Nat.lt_succ_of_lt (fb b hb)) (fun i y v e1 e2=>by
  by_cases hi:i < xs.length
  ·rw[aZ (by simpa using hi),dN,if_pos hi]at e2;cases e2
  ·have hi:xs.length<=i:=dA hi
   rw[bF (by simpa using hi),aQ,cY]at e2
   rw[bF hi]at e1;cases q:fr[i - xs.length]? with
   |none=>rw[q]at e2;cases e2
   |some k=>
    rw[q]at e2;have e2:(σ[k]?).join=some v:=by simpa using e2
    have e3:σ[k]?=some (some v):=by
     cases w:σ[k]? with
     |none=>rw[w]at e2;cases e2
     |some o=>rw[w]at e2;rw[show o=some v from e2]
    obtain⟨y',g1,g2⟩:=fg _ k q;rw[e1]at g1;cases g1
    obtain⟨k1,k2⟩:=h6 y (bG e1);exact⟨k,by rw[Kx.hN];exact g2,e3,k2,Kx.cel y k1⟩) (by simp[fl])
 have K':=ZdS (cl:=cl) (C:=s3.heap.objs.size) (s3:=s3) (H3:=upd H2 dd (.lst [])) (fp:=fp) (pQ:=pQ) Kx hsc;have loop:=Zck (R:=compPost (model X.prog X.w) X.A X.xe use R0 (.ref dd) s3.heap.objs.size) (pos:=pos) (iter:=iter) K' ihE hce hcc gm gw go stop yl T B h5 (fun i x e=>by show(xs++ZZ sc2)[i]?=some x;rw[aZ (bI.mp e).1];exact e) (fun y hy=>Xa (h3 y hy) (by intro q;cases q)) rfl (fun {H} hn b hb=>⟨hn b hb,by
  show b≠s3.heap.objs.size;rw[z3];exact aX (Nat.lt_succ_of_lt (fb b hb)),fun hs=>(aJ.mp (I3.stkSub b hs)).elim (f2 b hb).2.1 (f2 b hb).2.2.1,.inl hb,fun y c e=>(f2 b hb).2.2.2.2.1 y c (c1 _ _ e),fun p hp=>(f2 b hb).2.2.2.2.2 p (by simpa[cxC] using hp)⟩) (σ:=σ) (ρ:=ρ) (fr:=fr) (fun a b=>ZdX a b) (dd:=dd) (ad2:=ad2) (H2:=H2) (st':=st') (ys:=ys) D0 hz (fun s5 σ5 H ad vs I5 S nd hv rv ex=>by
   obtain⟨m',hn,_⟩:=I5.loc;refine hend s3.heap.objs.size dd s5 H m' hn (fun h' sb=>Zex I3 rfl I5 sb f3) (I3.fpOk (aB _) I5.free) (hp (.ref dd) (ad++[dd]) H ⟨fun j a e=>X3 (ex.pre j a e),ex.tup,ex.keep,fun b hb=>?_,ex.kd⟩ (S.adopt hv nd rv) (.lst ⟨by rw[<-S.len];exact ZO,QP hv rfl⟩))
   rcases aR.mp hb with z|z
   ·exact ex.new b z
   ·rw[bH.mp z];exact .inr D0)
  (.mk 0 (List.replicate xs.length none) (upd H2 dd (.lst [])) ad2 st1 [] [] ys (Nat.zero_add _) (cY ..) I4 (T.keep _ _ _ t2 fun b _ o e=>up b o (up0 b o e)) (fun b hb=>(f3 b hb).1) (E2.mono (Ext.laid D0)) (S2.laid D0) (gm _ _ _ _ (Ext.laid D0) g2) nad upd_same .nil (aB _) hcomp rfl (Ext.laid D0))
 exact codeAny_compStart_list loop (T.self X.A 0 _ _ _ (T.keep _ _ _ t2 fun b _ o e=>up b o (up0 b o e)) loop)
theorem Zcj(Kx:Cxt X G F sc N)(ihE:ZC G F n)(hsc:XM sc sc2 xs=true)(hfr:XX N (ZZ sc2)=some fr)(hce:cE G n sc2 (xs++ZZ sc2) elt=some ce)(hcc:(ifs=[]/\cc=.cst (.bl true))\/∃ e,ifs=[e]/\cE G n sc2 (xs++ZZ sc2) e=some cc)(c1:∀ y c,cl.lookup y=some c->X.env.cells.lookup y=some c)(c2:∀ y,(y,NameKind.free)∈sc2.names->(cl.lookup y).isSome){fp:Li Ad}{it:Ad}{ok:Za->Prop}(Good:Li Ad->Hp->Prop)(gm:∀ ad H ad' H',Ext ad H ad' H'->Good ad H->Good ad' H')(gw:∀ ad H p xs ys,H p=some (.lst xs)->Good ad H->Good ad (upd H p (.lst ys)))(go:∀ i ad H st,Good ad H->StOk X.K ad H st->ok st->i < ds.length->J.go i H)(stop:∀ i ad H st,Good ad H->StOk X.K ad H st->ok st->ds.length=i->J.stop i H)(yl:∀ i ad H st v H',Good ad H->StOk X.K ad H st->ok st->J.yld i H v H'->i < ds.length->Ext ad H ad H'/\StOk X.K ad H' st/\∃ d,ds[i]?=some d/\Den X.K ad H' v d){s2:Sd}{ys:Li D}(I2:L2.Inv X pQ σ H2 s2)(B:WU X.K tg xs bd ds)(T:Turn X.prog X.w X.K tg J fp it tn)(t2:tn 0 s2.heap)(f2:∀ b∈fp,FpOk X pQ H2 b)(E2:EnvOk X.K ad2 H2 σ ρ)(S2:StOk X.K ad2 H2 st1)(g2:Good ad2 H2)(hcomp:YE ok (fun d s=>ev F ce (Y8 bd ρ fr d) s) (fun d s=>ev F cc (Y8 bd ρ fr d) s) ds st1=some (ys,st'))(hz:ds.length<=1000)(hp:Post X.K ad2 H2 (.lst st'.length) (st'++[(true,ys)]) Q)(hend:∀ C dd s5 H5 m',s5.heap.Ns C m'->(∀ h',Heap.SameBut C s5.heap h'->L2.Inv X pQ σ H5 { s5 with heap:=h' })->FpOk X pQ H5 C->Q (.ref dd) H5->compPost (model X.prog X.w) X.A X.xe use R0 (.ref dd) C (.ok .next) s5) :
  wpAny (model X.prog X.w) X.A (newList []) (fun acc s₃=>wpAny (model X.prog X.w) X.A (newFunctionEnv sc2 X.env.globals cl [] X.env.qual none .none (some X.env)) (fun cenv s₄=>
   codeAny (model X.prog X.w) X.A (.compStart (.ListComp elt [⟨tg,iter,ifs,0⟩] sc2 pos) 0 (.ref it) acc { cenv with scope:=relabel sc2 X.env }) (compPost (model X.prog X.w) X.A X.xe use R0 acc cenv.locals) s₄) X.xe s₃) X.xe s2:=by
 obtain⟨h1,h2,h3,h4,h5,h6⟩:=YO hsc;have fb:∀ b∈fp,b < s2.heap.objs.size:=fun b hb=>let ⟨o,e,_⟩:=T.obj 0 _ t2 b hb;aG e
 refine wpAny_newObj_type (wpAny_newFunctionEnv h2 (by intro y hy;simp at hy) (fun h₁ hns₁ hsb₁=>?_) h1)
 dsimp only at hns₁ hsb₁ ⊢;have I3:L2.Inv X pQ σ (upd H2 s2.heap.objs.size (.lst [])) { s2 with heap:=s2.heap.push { cls:=.type "list",dict:=none,data:=.seq ([]:Li vL).toArray } }:=I2.lnew (its:=[]) (t':=s2.toks) .nil (bX _)
 have e3:s2.heap.push { cls:=.type "list",dict:=none,data:=.seq ([]:Li vL).toArray }=({ s2 with heap:=s2.heap.push { cls:=.type "list",dict:=none,data:=.seq ([]:Li vL).toArray } }:Sd).heap:=rfl
 exact Zao Kx ihE hsc hfr hce hcc c1 c2 gm gw go stop yl B T t2 f2 fb E2 S2 g2 hcomp hz hp hend (I2.hok.fresh (aB _)) I3 (Heap.size_push ..) (fun z=>absurd (S2.lt I2 z) (bW _)) hns₁ (fun b u e=>hsb₁.extBut b u (aX (aG e)) (aL _ e)) (fun b u e=>aL _ e)
end
variable [ClsTab]
def ZbX(X:Cx)(σ:L2.St)(ρ:Env)(ds:Li D)(ok:Za->Prop)(st1 st2:Za)(ys:Li D)(Q:VK)(J:It)(H1:Hp):Prop:=
 ∃ (ad1:Li Ad) (Good:Li Ad->Hp->Prop),(∀ ad H ad' H',Ext ad H ad' H'->Good ad H->Good ad' H')/\(∀ ad H p xs ys,H p=some (.lst xs)->Good ad H->Good ad (upd H p (.lst ys))) /\
  (∀ i ad H st,Good ad H->StOk X.K ad H st->ok st->i < ds.length->J.go i H)/\(∀ i ad H st,Good ad H->StOk X.K ad H st->ok st->ds.length=i->J.stop i H)/\(∀ i ad H st v H',Good ad H->StOk X.K ad H st->ok st->J.yld i H v H'->i < ds.length->Ext ad H ad H'/\StOk X.K ad H' st/\∃ d,ds[i]?=some d/\Den X.K ad H' v d) /\
  EnvOk X.K ad1 H1 σ ρ/\StOk X.K ad1 H1 st1/\Good ad1 H1/\Post X.K ad1 H1 (.lst st2.length) (st2++[(true,ys)]) Q
variable{st2:Za}
theorem ZdG{ys:Li D}{f:Ev}(E:EnvOk X.K ad H σ ρ)(S:StOk X.K ad H st)(q:f ρ st=some (.tup ds,st1))(p:Post X.K ad H (.lst st2.length) (st2++[(true,ys)]) Q) :
  iTup X.K (tE X.K f) σ H (ZbX X σ ρ ds (fun _=>True) st1 st2 ys Q):=by
 refine⟨ad,ρ,st,.tup ds,st1,E,S,q,fun v ad1 H1 x1 S1 d1=>?_⟩
 obtain⟨a,vs,rfl,ha,rv⟩:=d1.ofTup;refine⟨a,rfl,⟨vs,(ha).sq⟩,ad1,fun ad H=>TupAt X.K H a vs/\Dens X.K ad H vs ds,fun _ _ _ _ x g=>⟨g.1.mono x,g.2.mono x⟩,fun _ H p xs ys hp g=>⟨g.1.upd hp (by intro xs z;cases z),g.2.wr hp⟩,fun i ad H st g _ _ hi=>?_,fun i ad H st g _ _ hi=>⟨vs,(g.1).sq,by rw[g.2.length];exact cP hi⟩,
  fun i ad H st v H' g S _ y hi=>?_,E.mono x1,S1,⟨ha,rv⟩,p.later x1⟩
 ·obtain⟨v,e,_⟩:=g.2.get (Lg hi)
  exact⟨vs,v,(g.1).sq,e⟩
 ·obtain⟨w,e,dw⟩:=g.2.get (Lg hi)
  have:=y.2 vs ((g.1).sq);rw[e]at this;cases this
  cases y.1;exact⟨Ext.refl _ _,S,_,Lg hi,dw⟩
theorem ZdE{n:Int}{ys:Li D}{f:Ev}(hn:n < 2 ^ 62/\-(2 ^ 62)<=n)(E:EnvOk X.K ad H σ ρ)(S:StOk X.K ad H st)(q:f ρ st=some (.int n,st1))(p:Post X.K ad H (.lst st2.length) (st2++[(true,ys)]) Q) :
  iRng1 (tCons (tE X.K f) tNil) σ H (ZbX X σ ρ ((List.range n.toNat).map fun(k:Nat)=>D.int (k:Int)) (fun _=>True) st1 st2 ys Q):=by
 refine⟨ad,ρ,st,.int n,st1,E,S,q,fun v ad1 H1 x1 S1 d1=>?_⟩
 cases d1.ofInt;refine⟨n,rfl,hn.2,hn.1,ad1,fun _ _=>True,fun _ _ _ _ _ _=>trivial,fun _ _ _ _ _ _ _=>trivial,fun i ad H st _ _ _ hi=>(show i < n.toNat by simpa using hi),fun i ad H st _ _ _ hi=>(show n.toNat<=i by simpa using cP hi),fun i ad H st v H' _ S _ y hi=>?_,E.mono x1,S1,trivial,p.later x1⟩
 cases y.1;have hi':i < n.toNat:=by simpa using hi
 refine⟨Ext.refl _ _,S,.int (i:Int),?_,?_⟩
 ·rw[aQ,dH hi'];rfl
 ·rw[y.2,Int.zero_add];exact .int _
theorem ZdD{c:YU}{ys:Li D}{f:Ev}(E:EnvOk X.K ad H σ ρ)(S:StOk X.K ad H st)(q:f ρ st=some (.lst l,st1))(hc:st1[l]?=some c)(p:Post X.K ad H (.lst st2.length) (st2++[(true,ys)]) Q) :
  iList X.K (tE X.K f) σ H (ZbX X σ ρ c.2 (fun s=>s[l]?=some c) st1 st2 ys Q):=by
 refine⟨ad,ρ,st,.lst l,st1,E,S,q,fun v ad1 H1 x1 S1 d1=>?_⟩
 obtain⟨a,rfl,ha⟩:=d1.ofLst;obtain⟨vs,rv,sq⟩:=S1.list ha (show st1[l]?=some (c.1,c.2) from hc);refine⟨a,rfl,⟨vs,sq⟩,ad1,fun ad H=>LA ad H l a,fun _ _ _ _ x g=>g.mono x,fun _ _ _ _ _ e g=>⟨g.1,fun z=>g.2 ((QK e).mpr z)⟩,fun i ad H st g S e hi=>?_,fun i ad H st g S e hi=>?_,fun i ad H st v H' g S e y hi=>?_,E.mono x1,S1,ha,p.later x1⟩
 ·obtain⟨vs,rv,sq⟩:=S.list g (show st[l]?=some (c.1,c.2) from e)
  obtain⟨v,e,_⟩:=rv.get (Lg hi);exact⟨vs,v,sq,e⟩
 ·obtain⟨vs,rv,sq⟩:=S.list g (show st[l]?=some (c.1,c.2) from e)
  exact⟨vs,sq,by rw[rv.length];exact cP hi⟩
 ·obtain⟨vs,rv,sq⟩:=S.list g (show st[l]?=some (c.1,c.2) from e)
  obtain⟨w,e,dw⟩:=rv.get (Lg hi);have:=y.2 vs sq;rw[e]at this;cases this
  cases y.1;exact⟨Ext.refl _ _,S,_,Lg hi,dw⟩
theorem ZdF{z:Str}{ys:Li D}{f:Ev}(ha:z.cps.all (fun c=>decide (c < 128))=true)(E:EnvOk X.K ad H σ ρ)(S:StOk X.K ad H st)(q:f ρ st=some (.str z,st1))(p:Post X.K ad H (.lst st2.length) (st2++[(true,ys)]) Q) :
  Zlc (tE X.K f) σ H (ZbX X σ ρ ((chS z).map D.str) (fun _=>True) st1 st2 ys Q):=by
 refine⟨ad,ρ,st,.str z,st1,E,S,q,fun v ad1 H1 x1 S1 d1=>?_⟩
 cases d1;have hl:((chS z).map D.str).length=z.cps.size:=by simp[chS]
 refine⟨z,rfl,ha,ad1,fun _ _=>True,fun _ _ _ _ _ _=>trivial,fun _ _ _ _ _ _ _=>trivial,fun i ad H st _ _ _ hi=>(show i < z.cps.size by omega),fun i ad H st _ _ _ hi=>(show z.cps.size<=i by omega),fun i ad H st v H' _ S _ y hi=>?_,E.mono x1,S1,trivial,p.later x1⟩
 obtain⟨rfl,c,hc,rfl⟩:=y;refine⟨Ext.refl _ _,S,.str ⟨#[c]⟩,?_,.str _⟩;unfold chS;rw[aQ,aQ,Array.getElem?_toList,hc];rfl
theorem J9{xs ys:Li D}(h:i < (J8 xs ys).length):∃ a b,xs[i]?=some a/\ys[i]?=some b/\(J8 xs ys)[i]?=some (.tup [a,b]):=by
 unfold J8 at h ⊢
 rw[aD,cJ]at h;have h1:i < xs.length:=by omega
 have h2:i < ys.length:=by omega
 refine⟨xs[i],ys[i],Lg h1,Lg h2,?_⟩;rw[aQ,Lg (by rw[cJ];omega),List.getElem_zip]
 rfl
theorem ZfL{xs ys:Li D}:∀ d∈J8 xs ys,∃ a b,d=.tup [a,b]:=fun d h=>by
 obtain⟨p,_,rfl⟩:=aT.mp h;exact⟨_,_,rfl⟩
theorem ZdH{x:D}{ok:Za->Prop}{ys:Li D}{f:Ev}(E:EnvOk X.K ad H σ ρ)(S:StOk X.K ad H st)(q:f ρ st=some (x,st1))(hw:Uz x st1=some (ds,ok))(p:Post X.K ad H (.lst st2.length) (st2++[(true,ys)]) Q) :
  Zjl X.K (tA X.K f) σ H (ZbX X σ ρ ds ok st1 st2 ys Q):=by
 unfold Uz at hw;split at hw
 ·rename_i l zs
  split at hw
  ·rename_i c hc
   cases hw;refine⟨ad,ρ,st,_,st1,E,S,q,fun vs ad1 H1 x1 S1 d1=>?_⟩
   obtain⟨v1,v2,rfl,dv1,dv2⟩:∃ v1 v2,vs=[v1,v2]/\Den X.K ad1 H1 v1 (.lst l)/\Den X.K ad1 H1 v2 (.tup zs):=by
    cases d1 with
    |cons h1 d1=>
     cases d1 with
     |cons h2 d1=>cases d1;exact⟨_,_,rfl,h1,h2⟩
   obtain⟨a,rfl,ha⟩:=dv1.ofLst;obtain⟨b,ws,rfl,hb,rw0⟩:=dv2.ofTup;obtain⟨us,ru,squ⟩:=S1.list ha (show st1[l]?=some (c.1,c.2) from hc);refine⟨a,b,rfl,⟨us,squ⟩,⟨ws,hb.sq⟩,ad1,fun ad H=>LA ad H l a/\TupAt X.K H b ws/\Dens X.K ad H ws zs,fun _ _ _ _ x g=>⟨g.1.mono x,g.2.1.mono x,g.2.2.mono x⟩,fun _ _ _ _ _ e g=>⟨⟨g.1.1,fun z=>g.1.2 ((QK e).mpr z)⟩,g.2.1.upd e (by intro xs z;cases z),g.2.2.wr e⟩,fun i ad H st g S e hi=>?_,fun i ad H st g S e hi=>?_,fun i ad H st v H' g S e y hi=>?_,E.mono x1,S1,⟨ha,hb,rw0⟩,p.later x1⟩
   ·obtain⟨us,ru,squ⟩:=S.list g.1 (show st[l]?=some (c.1,c.2) from e)
    obtain⟨p1,p2,e1,e2,_⟩:=J9 hi;obtain⟨w1,f1,_⟩:=ru.get e1;obtain⟨w2,f2,_⟩:=g.2.2.get e2;exact⟨us,ws,w1,w2,squ,g.2.1.sq,f1,f2⟩
   ·obtain⟨us,ru,squ⟩:=S.list g.1 (show st[l]?=some (c.1,c.2) from e)
    refine⟨us,ws,squ,g.2.1.sq,?_⟩;rw[ru.length,g.2.2.length,<-hi];unfold J8;rw[aD,cJ];exact aB _
   ·obtain⟨us,ru,squ⟩:=S.list g.1 (show st[l]?=some (c.1,c.2) from e)
    obtain⟨p1,p2,e1,e2,e3⟩:=J9 hi;obtain⟨w1,f1,g1⟩:=ru.get e1;obtain⟨w2,f2,g2⟩:=g.2.2.get e2;obtain⟨T,y1,y2,rfl,hT,rfl,h1,h2⟩:=y;have z:=h1 us squ;rw[f1]at z;cases z
    have z:=h2 ws g.2.1.sq;rw[f2]at z;cases z
    exact⟨Ext.laid hT,S.laid hT,_,e3,.tup (.inl upd_same) (.cons (g1.mono (Ext.laid hT)) (.cons (g2.mono (Ext.laid hT)) .nil))⟩
  ·exact Zb hw
 ·exact Zb hw
theorem Zdb{x:D}{ds:Li D}{ok:Za->Prop}(h:Uz x st=some (ds,ok)):∀ d∈ds,∃ a b,d=.tup [a,b]:=by
 unfold Uz at h;split at h
 ·split at h
  ·cases h;exact ZfL
  ·exact Zb h
 ·exact Zb h
theorem Zc7{xs:Li Str}(h:tgN tg=some xs):(∃ x px,tg=.Name x px/\xs=[x])\/∃ x y px py k tp,tg=.Tuple [.Name x px,.Name y py] k tp/\xs=[x,y]:=by
 unfold tgN at h;split at h
 ·cases h;exact .inl ⟨_,_,rfl,rfl⟩
 ·rename_i es k tp
  have nm:∀ {e:Expr}{x:Str},nmE e=some x->∃ p,e=.Name x p:=fun {e x} h=>by
   unfold nmE at h;split at h
   ·cases h;exact⟨_,rfl⟩
   ·exact Zb h
  cases es with
  |nil=>exact Zb h
  |cons a es=>cases es with
   |nil=>exact Zb h
   |cons b es=>cases es with
    |cons _ _=>exact Zb h
    |nil=>
     refine Yf (P:=fun xs=>_\/∃ x y px py k' tp',Expr.Tuple [a,b] k tp=.Tuple [.Name x px,.Name y py] k' tp'/\xs=[x,y]) h fun x y hx hy=>?_
     obtain⟨px,rfl⟩:=nm hx;obtain⟨py,rfl⟩:=nm hy;exact .inr ⟨x,y,px,py,k,tp,rfl,rfl⟩
 ·exact Zb h
inductive CSh(G:Gs)(n:Nat)(sc:Scope)(N:List Str)(elt:Expr)(sc2:Scope):List Comprehension->CE->Prop
 |mk {tg it:Expr}{ifs:List Expr}{xs:List Str}{fr:List Nat}{r:Option (Option Bool)}{ci ce cc:CE} (htg:tgN tg=some xs) (hsc:XM sc sc2 xs=true) (hfr:XX N (ZZ sc2)=some fr) (hi:itC G sc it (cE G n sc N) xs=some (r,ci)) (hce:cE G n sc2 (xs++ZZ sc2) elt=some ce) (hcc:(ifs=[]/\cc=.cst (.bl true))\/∃ e,ifs=[e]/\cE G n sc2 (xs++ZZ sc2) e=some cc):CSh G n sc N elt sc2 [⟨tg,it,ifs,0⟩] (mkC r fr ci ce cc)
theorem Zgo{G:Gs}(h:cE G (n+1) sc N (.ListComp elt gens sc2 pos)=some c):CSh G n sc N elt sc2 gens c:=by
 replace h:Zii G sc sc2 N (cE G n sc N) (cE G n sc2) elt gens=some c:=h;have no:∀ {P:Prop},(none:Ot CE)=some c->P:=fun z=>nomatch z
 cases gens with
 |nil=>exact no h
 |cons g gs=>
  obtain⟨tg,it,ifs,k⟩:=g;cases k with
  |negSucc _=>cases gs<;>exact no h
  |ofNat m=>cases m with
   |succ _=>cases gs<;>exact no h
   |zero=>cases gs with
    |cons _ _=>exact no h
    |nil=>
     replace h:(match tgN tg with
      |none=>none
      |some xs=>og (XM sc sc2 xs=true) (o3 (fun fr p (q:CE×CE)=>mkC p.1 fr p.2 q.1 q.2) (XX N (ZZ sc2)) (itC G sc it (cE G n sc N) xs) (o2 Prod.mk (cE G n sc2 (xs++ZZ sc2) elt) (ifC (cE G n sc2 (xs++ZZ sc2)) ifs))))=some c:=h
     cases htg:tgN tg with
     |none=>rw[htg]at h;cases h
     |some xs=>
      rw[htg]at h;refine Xj h fun hsc h=>UI (P:=CSh G n sc N elt sc2 _) h fun fr p q hfr hi hq=>Yf (P:=fun q:CE×CE=>CSh G n sc N elt sc2 _ (mkC p.1 fr p.2 q.1 q.2)) hq fun ce cc hce hcc=>.mk htg hsc hfr hi hce ?_
      cases ifs with
      |nil=>cases hcc;exact .inl ⟨rfl,rfl⟩
      |cons a l=>cases l with
       |nil=>exact .inr ⟨a,rfl,hcc⟩
       |cons _ _=>exact Zb hcc
inductive CR(b:D->List (Option D))(w:D->Za->Option (List D×(Za->Prop)))(fr:List Nat)(fi fe fc:Ev)(ρ:Env)(st:Za):D->Za->Prop
 |mk {x:D}{st1 st2:Za}{ds ys:List D}{ok:Za->Prop} (q1:fi ρ st=some (x,st1)) (q2:w x st1=some (ds,ok)) (hz:ds.length<=1000) (q3:YE ok (fun d s=>fe (Y8 b ρ fr d) s) (fun d s=>fc (Y8 b ρ fr d) s) ds st1=some (ys,st2)):CR b w fr fi fe fc ρ st (.lst st2.length) (st2++[(true,ys)])
theorem WZ{b:D->Li (Ot D)}{w:D->Za->Ot (Li D×(Za->Prop))}{fi fe:Ev}(e:VZ b w fr fi fe fc ρ st=some (d,st')):CR b w fr fi fe fc ρ st d st':=by
 unfold VZ at e;split at e
 ·split at e
  ·split at e
   ·split at e
    ·cases e;exact .mk ‹_› ‹_› ‹_› ‹_›
    ·exact Zb e
   ·exact Zb e
  ·exact Zb e
 ·exact Zb e
inductive CIt(X:Cx)(pQ:List (Addr×Obj))(s:Shared)(σ:L2.St)(ρ:Env)(tg it:Expr)(xs:List Str)(F:Nat->Fn)(fr:List Nat)(ce cc:CE)(Q:VK):Prop
 |mk {bd:D->List (Option D)}{ds:List D}{ok:Za->Prop}{st1 st2:Za}{ys:List D} (B:WU X.K tg xs bd ds) (hz:ds.length<=1000) (q3:YE ok (fun d s=>ev F ce (Y8 bd ρ fr d) s) (fun d s=>ev F cc (Y8 bd ρ fr d) s) ds st1=some (ys,st2)) (hp:Zq it=true) (pi:wpAny (model X.prog X.w) X.A (eval it X.env) (fun v s1=>wpAny (model X.prog X.w) X.A (pyIter v) (PIE X pQ σ tg (ZbX X σ ρ ds ok st1 st2 ys Q)) X.xe s1) X.xe s):CIt X pQ s σ ρ tg it xs F fr ce cc Q
theorem QM{f:α->β}{o:Ot α}{b:β}(h:o.map f=some b):∃ a,o=some a/\f a=b:=by
 cases o with
 |none=>exact Zb h
 |some a=>exact⟨a,rfl,by cases h;rfl⟩
variable{F:Nat->Fn}
theorem Zgm{G:Gs}(ihE:ZC G F n)(Kx:Cxt X G F sc N){xs:Li Str}{r:Ot (Ot Bool)}{ci:CE}(htg:tgN tg=some xs)(hi:itC G sc it (cE G n sc N) xs=some (r,ci))(I:L2.Inv X pQ σ H s)(E:EnvOk X.K ad H σ ρ)(S:StOk X.K ad H st)(e:ev F (mkC r fr ci ce cc) ρ st=some (d,st'))(p:Post X.K ad H d st' Q):CIt X pQ s σ ρ tg it xs F fr ce cc Q:=by
 rcases Zc7 htg with⟨x,px,rfl,rfl⟩|⟨x,y,px,py,k,tp,rfl,rfl⟩
 ·replace hi:(match Y1 G sc it with
   |some a=>(cE G n sc N a).map fun c=>(some (some true),c)
   |none=>(cE G n sc N it).map fun c=>(some (some false),c))=some (r,ci):=hi
  split at hi
  ·rename_i a ha
   obtain⟨ca,q,hi⟩:=QM hi;cases hi;obtain⟨hp,pi⟩:=Vs (tg:=.Name x px) Kx ha (Zj q) (ihE X sc N Kx a _ q).pe;cases WZ e with
   |@mk x0 st1 st2 ds ys ok q1 q2 hz q3=>
    refine .mk Jc hz q3 hp (pi pQ s σ H _ I ?_);cases x0 with
    |int k=>
     have q2:(match (if k < 2 ^ 62/\-(2 ^ 62)<=k then some ((List.range k.toNat).map fun(k:Nat)=>D.int (k:Int)) else none) with
      |some xs=>some (xs,fun _=>True)
      |none=>none)=some (ds,ok):=q2
     by_cases hk:k < 2 ^ 62/\-(2 ^ 62)<=k
     ·rw[if_pos hk]at q2
      cases q2;exact ZdE hk E S q1 p
     ·rw[if_neg hk]at q2
      cases q2
    |_=>exact Zb q2
  ·obtain⟨ca,q,hi⟩:=QM hi
   cases hi;cases WZ e with
   |@mk x0 st1 st2 ds ys ok q1 q2 hz q3=>
    refine .mk Jc hz q3 (Zj q) ?_;cases x0 with
    |tup xs=>cases q2;exact pi_tup (ihE X sc N Kx it _ q).pe pQ s σ H _ I (ZdG E S q1 p)
    |lst l=>
     have q2:(match st1[l]? with
      |some c=>some (c.2,fun s=>s[l]?=some c)
      |none=>none)=some (ds,ok):=q2
     cases q4:st1[l]? with
     |none=>rw[q4]at q2;cases q2
     |some c0=>
      rw[q4]at q2;cases q2;exact pi_list (ihE X sc N Kx it _ q).pe pQ s σ H _ I (ZdD E S q1 q4 p)
    |str z=>
     have q2:(if z.cps.all (fun c=>decide (c < 128))=true then some ((chS z).map D.str,fun _=>True) else none)=some (ds,ok):=q2
     by_cases ha:z.cps.all (fun c=>decide (c < 128))=true
     ·rw[if_pos ha]at q2
      cases q2;exact ZjQ (ihE X sc N Kx it _ q).pe pQ s σ H _ I (ZdF ha E S q1 p)
     ·rw[if_neg ha]at q2
      cases q2
    |dct ks vs=>
     have no:∀ {v:V}{ad1:Li Ad}{H1:Hp},Den X.K ad1 H1 v (.dct ks vs)->False:=fun {v ad1 H1} d1=>by cases d1
     exact thn ((ihE X sc N Kx it _ q).pe pQ s σ H (fun _ _=>False) I ⟨ad,ρ,st,_,st1,E,S,q1,fun v ad1 H1 x1 S1 d1=>no d1⟩) fun v s1 ⟨x,H1,I1,r1,z⟩=>z.elim
    |_=>exact Zb q2
 ·replace hi:(match (fnA G sc "zip" it).bind Zkz with
   |some p=>o2 (fun x y=>(some none,CE.aC x (.aC y .aN))) (cE G n sc N p.1) (cE G n sc N p.2)
   |none=>(cE G n sc N it).map fun c=>(none,c))=some (r,ci):=hi
  split at hi
  ·rename_i pr hp2
   refine Yf (P:=fun u:Ot (Ot Bool)×CE=>u=(r,ci)->CIt X pQ s σ ρ (.Tuple [.Name x px,.Name y py] k tp) it [x,y] F fr ce cc Q) hi (fun ca cb qa qb hu=>?_) rfl
   cases hu;obtain⟨as,h1,h2⟩:=dF.mp hp2;obtain⟨pp,pos,rfl,hg,hm⟩:=Zat Kx h1;rw[Zh3 h2];cases WZ e with
   |mk q1 q2 hz q3=>
    have PA0:PA X [pr.1,pr.2] (tA X.K (ev F (.aC ca (.aC cb .aN)))):=Up (pa_cons (ihE X sc N Kx _ _ qa).pe (Up (pa_cons (ihE X sc N Kx _ _ qb).pe (Up pa_nil Uc) (Zi (Zj qb))) W5) (Zi (Zj qa))) W5;exact .mk (Zdq (Zdb q2)) hz q3 rfl (Ze9 hg hm PA0 (by rw[bA,bA,Zj qa,Zj qb];rfl) pQ s σ H _ I (ZdH E S q1 q2 p))
  ·obtain⟨ca,q,hi⟩:=QM hi
   cases hi;cases e
theorem Zbe{G:Gs}(ihE:ZC G F n)(Kx:Cxt X G F sc N)(h:cE G (n+1) sc N (.ListComp elt gens sc2 pos)=some c)(I:L2.Inv X pQ σ H s)(hq:tE X.K (ev F c) σ H Q)(hend:∀ C dd s5 H5 m',s5.heap.Ns C m'->(∀ h',Heap.SameBut C s5.heap h'->L2.Inv X pQ σ H5 { s5 with heap:=h' })->FpOk X pQ H5 C->Q (.ref dd) H5->compPost (model X.prog X.w) X.A X.xe use R0 (.ref dd) C (.ok .next) s5) :
  ∃ tg it ifs,gens=[⟨tg,it,ifs,0⟩]/\∀ pos',wpAny (model X.prog X.w) X.A (comprehension (.ListComp elt [⟨tg,it,ifs,0⟩] sc2 pos) sc2 X.env pos' (newList []) false (eval it X.env) use) R0 X.xe s:=by
 cases Zgo h with
 |@mk tg it ifs xs fr r ci ce cc htg hsc hfr hi hce hcc=>
  obtain⟨h1,h2,h3,h4,h5,h6⟩:=YO hsc;obtain⟨ad,ρ,st,d,st',E,S,e,p⟩:=hq;obtain⟨cl,ec,c1,c2⟩:=Ji (env:=X.env) (sc:=sc2) (fun y hy hf=>by
   have hm:(y.1,NameKind.free)∈sc2.names:=by rw[<-hf];exact hy
   exact I.ok.has y.1 (Kx.cel y.1 (h6 y.1 (mem_frees.mpr hm)).1))
  refine⟨tg,it,ifs,rfl,fun pos'=>?_⟩
  cases Zgm ihE Kx htg hi I E S e p with
  |mk B hz q3 hp pi=>
   refine wpAny_comprehension_free (use:=use) rfl (Z9 hp) ec h1 h4 (thn pi fun v s1 h1'=>thn h1' fun itv s2 h2'=>?_)
   obtain⟨ita,fp,tn,J,H2,rfl,I2,T,t2,f2,ad1,Good,gm,gw,go,stop,yl,E2,S2,g2,p2⟩:=h2';exact Zcj Kx ihE hsc hfr hce hcc c1 c2 Good gm gw go stop yl I2 B T t2 f2 E2 S2 g2 q3 hz p2 hend
theorem Zgn{G:Gs}:XE G F:=by
 intro n ihE;refine⟨fun X sc N Kx elt gens sc2 pos c h=>SE.of ?_,fun X sc N K y i p elt gens sc2 epos pos c hi h hsw=>?_⟩
 ·intro pQ s σ H Q I hq
  obtain⟨tg,it,ifs,rfl,go⟩:=Zbe ihE Kx h I hq (use:=none) (R0:=EP X pQ σ Q) fun C dd s5 H5 m' hn hI _ q=>⟨m',hn,fun h' sb=>⟨.ref dd,H5,hI h' sb,rfl,q⟩⟩
  rw[eval_ListComp];exact go _
 ·intro pQ s σ H D I hq
  obtain⟨tg,it,ifs,rfl,go⟩:=Zbe ihE K.toCxt h I hq (use:=some (assign (.Name y p) X.env)) (R0:=fun _ s'=>SP X pQ D .next s') fun C dd s5 H5 m' hn hI fo q=>by
   have I5:=hI s5.heap (Heap.SameBut.refl _ _);show wpAny _ X.A (assign (.Name y p) X.env (.ref dd)) _ _ s5;refine wpAny_assign_Name (store_ok2 (v:=.ref dd) I5 (by rw[K.hN];exact K.nd) (by rw[K.hN];exact Ww hi) (K.loc _ (QA hi)) rfl (fun s6 I6 ⟨a,sb,ha⟩=>?_) (.inl (K.fn _)))
   have ne:C≠a:=by
    rcases ha with z|z
    ·rw[z];exact fo.2.1
    ·exact fun w=>fo.2.2.2.2.1 _ _ z w.symm
   exact⟨m',hn.sameBut sb ne,fun h3 sb3=>⟨_,H5,I6.turned (t':=s6.toks) (fun b o hb e=>sb3.extBut b o hb e) fo.1 fo.2.1 fo.2.2.2.1 fo.2.2.2.2.1 fo.2.2.2.2.2,q⟩⟩
  rw[exec_Assign_Name_used _ _ _ _ hsw];refine aA (wpAny_standAt (aA ?_));show wpAny _ X.A (do let _ <-comprehension (.ListComp elt [⟨tg,it,ifs,0⟩] sc2 epos) sc2 X.env _ (newList []) false (eval it X.env) (some (assign (.Name y p) X.env))) _ _ s
  exact aA (bC (go _) (fun _ s' hq=>aE (aE hq)) fun _ _ e=>e)
end Dp


namespace Dp
open PySem

inductive P where
 |non|bl (b:Bool)|int (i:Int)|str (x:Str)|tup (xs:List P)|lst (m:Bool) (xs:List P)|dct (ks:List Str) (vs:List P)|obj (i:Nat)|kt (ks:List Str)|dic (m:Bool) (xs:List P)

mutual
noncomputable def noL:P->Bool
 |.tup xs=>UH xs
 |.lst _ _=>false
 |.dic _ _=>false
 |.dct _ vs=>UH vs
 |_=>true
noncomputable def UH:Li P->Bool
 |[]=>true
 |x :: xs=>noL x&&UH xs
end
mutual
noncomputable def ofD:D->Ot P
 |.non=>some .non
 |.bl b=>some (.bl b)
 |.int i=>some (.int i)
 |.str x=>some (.str x)
 |.tup xs=>(Vz xs).map .tup
 |.kt ks=>some (.kt ks)
 |_=>none
noncomputable def Vz:Li D->Ot (Li P)
 |[]=>some []
 |x :: xs=>match ofD x,Vz xs with
  |some y,some ys=>some (y :: ys)
  |_,_=>none
end
mutual
noncomputable def Q9:P->P->Bool
 |.non,.non=>true
 |.bl a,.bl b=>a==b
 |.int a,.int b=>decide (a=b)
 |.str a,.str b=>decide (a=b)
 |.tup a,.tup b=>XG a b
 |_,_=>false
noncomputable def XG:Li P->Li P->Bool
 |[],[]=>true
 |x :: xs,y :: ys=>Q9 x y&&XG xs ys
 |_,_=>false
end
mutual
noncomputable def okP:Nat->P->Bool
 |_,.non=>true
 |_,.int _=>true
 |_,.str _=>true
 |n+1,.tup xs=>UJ n xs
 |_,_=>false
noncomputable def UJ:Nat->Li P->Bool
 |_,[]=>true
 |n,x :: xs=>okP n x&&UJ n xs
end
noncomputable def ZbF(_ _:Li P):Ot Bool:=none
noncomputable def scP:P->Ot Sc
 |.non=>some .non
 |.bl b=>some (.bl b)
 |.int i=>some (.int i)
 |.str x=>some (.str x)
 |_=>none
noncomputable def Zje(xs ys:Li P):Ot Bool:=if (xs.isEmpty||ys.isEmpty)=true then some (xs.isEmpty&&ys.isEmpty) else if UJ 7 xs&&UJ 7 ys then some (XG xs ys) else none
noncomputable def Zms(xs:Li P):P->Ot Bool
 |.tup ys=>if okP 8 (.tup xs)&&okP 8 (.tup ys) then some (XG xs ys) else ZbF xs ys
 |_=>none
noncomputable def Zmr(xs:Li P):P->Ot Bool
 |.lst _ ys=>Zje xs ys
 |_=>none
noncomputable def eqP(x y:P):Ot Bool:=match x with
 |.tup xs=>Zms xs y
 |.lst _ xs=>Zmr xs y
 |x=>(o2 ZdY (scP x) (scP y)).join
noncomputable def Zfn(m:Bool)(xs:Li P)(j:Int):Ot P:=match m,xs with
 |true,[x]=>if j<=1000/\-1000<=j then some (.lst true (List.replicate j.toNat x)) else none
 |_,_=>none
noncomputable def XH(op:Operator)(x y:P):Ot P:=
 match x,y with
 |.int i,.int j=>match Zak op i j with
  |some k=>some (.int k)
  |none=>none
 |.tup xs,.tup ys=>if Xh op=true/\xs.length+ys.length<=Zc then some (.tup (xs++ys)) else none
 |.lst _ xs,.lst _ ys=>if Xh op=true/\xs.length+ys.length<=Zc then some (.lst true (xs++ys)) else none
 |.lst m xs,.int j=>if Uf op=true then Zfn m xs j else none
 |.str x,.str y=>if Xh op=true/\x.length+y.length<=Zc then some (.str (x++y)) else none
 |_,_=>none
noncomputable def Zer:Str->Li P->Ot Bool
 |_,[]=>some false
 |k,.str i :: r=>(Zer k r).map fun b=>decide (i=k)||b
 |_,_=>none
noncomputable def ZcC(k:Str):P->Bool
 |.tup [.str x,_]=>decide (x=k)
 |_=>false
noncomputable def ZlZ:P->Ot P
 |.tup [_,v]=>some v
 |_=>none
noncomputable def W1(xs:Li P)(k:Str):Ot P:=(xs.find? (ZcC k)).bind ZlZ
noncomputable def Zbs:Li P->Bool
 |.int _ :: _=>true
 |_=>false
noncomputable def Zgp(k:Str)(xs:Li P):Ot (Ot P):=if Zbs xs=true then none else some (W1 xs k)
noncomputable def Wr:Li Str->Li P->Str->Ot P
 |k :: ks,v :: vs,x=>if k=x then some v else Wr ks vs x
 |_,_,_=>none
noncomputable def Ze0(f:Int->Int->Bool):P->P->Ot Bool
 |.int i,.int j=>some (f i j)
 |_,_=>none
noncomputable def ltP(x y:P):Ot Bool:=Ze0 (fun i j=>decide (i < j)) x y
noncomputable def Zlo(x y:P):Ot Bool:=ltP x y
noncomputable def Zjp(x y:P):Ot Bool:=match x,y with
 |.str k,.tup xs=>Zer k xs
 |.str k,.kt ks=>some (ks.contains k)
 |.str k,.str x=>some (QT x k)
 |_,_=>none
noncomputable def niP(x y:P):Ot Bool:=match y with
 |.dct _ _=>none
 |y=>(Zjp x y).map not
noncomputable def Zmw:P->Ot Bool
 |.non=>some true
 |.int _=>some false
 |.str _=>some false
 |.bl _=>some false
 |.tup _=>some false
 |.lst _ _=>some false
 |.dct _ _=>none
 |.obj _=>none
 |.kt _=>none
 |.dic _ _=>none
noncomputable def Zmv(b:Bool):P->Ot Bool
 |.bl a=>some (a==b)
 |_=>none
noncomputable def Zjt(x:P):P->Ot Bool
 |.non=>Zmw x
 |.bl b=>Zmv b x
 |_=>none
noncomputable def Zgi(op:CmpOp)(x y:P):Ot Bool:=
 match op with
 |.Lt=>Zlo x y
 |.LtE=>Ze0 (fun i j=>decide (i<=j)) x y
 |.Gt=>Ze0 (fun i j=>decide (j < i)) x y
 |.GtE=>Ze0 (fun i j=>decide (j<=i)) x y
 |.Eq=>eqP x y
 |.NotEq=>(eqP x y).map not
 |.In=>Zjp x y
 |.NotIn=>niP x y
 |.Is=>Zjt x y
 |.IsNot=>(Zjt x y).map not
noncomputable def atP(xs:Li P)(i:Int):Ot P:=(ixN xs.length i).bind fun j=>xs[j]?
noncomputable def ixP:P->P->Ot P
 |.tup xs,.int i=>atP xs i
 |.lst _ xs,.int i=>atP xs i
 |.dct ks vs,.str k=>Wr ks vs k
 |.kt ks,.int i=>atP (ks.map .str) i
 |.dic _ xs,.str k=>(Zgp k xs).join
 |.str x,.int i=>if x.length<=Zc then atP ((chS x).map .str) i else none
 |_,_=>none
noncomputable def Zcm(xs:Li P)(lo hi:Ot Int):Li P:=(xs.drop (sIx xs.length 0 lo)).take (sIx xs.length xs.length hi - sIx xs.length 0 lo)
noncomputable def Ys(x:P)(lo hi:Ot Int):Ot P:=
 match x with
 |.tup xs=>if sIx xs.length 0 lo=0/\sIx xs.length xs.length hi=xs.length then some (.tup xs) else some (.tup (Zcm xs lo hi))
 |.lst _ xs=>some (.lst true (Zcm xs lo hi))
 |.str x=>if x.length<=Zc then some (.str (W0 x lo hi)) else none
 |_=>none
noncomputable def Us:P->P->P->Ot P
 |x,.non,.non=>Ys x none none
 |x,.int i,.non=>Ys x (some i) none
 |x,.non,.int j=>Ys x none (some j)
 |x,.int i,.int j=>Ys x (some i) (some j)
 |_,_,_=>none
noncomputable def QI:P->Ot P
 |.tup xs=>some (.int xs.length)
 |.lst _ xs=>some (.int xs.length)
 |.kt ks=>some (.int ks.length)
 |.str x=>if x.length<=Zc then some (.int x.length) else none
 |_=>none
noncomputable def Zju(T:Ty):P->Ot Bool
 |.int _=>some (decide (T=.int))
 |.bl _=>some (decide (T=.int)||decide (T=.bool))
 |.str _=>some (decide (T=.str))
 |.tup _=>some (decide (T=.tuple))
 |.non=>some false
 |_=>none
noncomputable def Zaw(T:Ty)(p:P):Ot P:=(Zju T p).map .bl
noncomputable def ZcO:P->Ot P
 |.int i=>some (.int (-i))
 |_=>none
noncomputable def ZcP:P->Ot P
 |.bl k=>some (.bl (!k))
 |_=>none
noncomputable def YD(op:CmpOp)(x y:P):Ot P:=(Zgi op x y).map .bl
noncomputable def ZaB:P->Ot P
 |.tup xs=>some (.lst true xs)
 |_=>none
noncomputable def US:P->P->Ot P
 |x,.tup xs=>if xs.length < 1000 then some (.tup (x :: xs)) else none
 |_,_=>none
noncomputable def Qb:P->Ot P
 |.int i=>some (.int i)
 |_=>none

noncomputable def Zh2:P->P->Ot P
 |.str x,.tup [.str y]=>if y.length=1/\x.length<=Zc then some (.lst true ((Vg x y).map .str)) else none
 |_,_=>none

noncomputable def UR(g:Li P->Ot P)(ds:Li D):P->Ot P
 |.tup xs=>match Vz ds with
  |some es=>g (xs++es)
  |none=>none
 |_=>none
noncomputable def Vj:P->Ot P
 |.tup xs=>some (.tup xs)
 |.lst _ xs=>some (.tup xs)
 |_=>none
noncomputable def QE:P->Ot P
 |.int i=>some (.int i)
 |.bl true=>some (.int 1)
 |.bl false=>some (.int 0)
 |.str x=>(match WJ x with
  |some i=>some (.int i)
  |none=>none)
 |_=>none
noncomputable def XC:P->Ot P
 |.int i=>if ZI i=true then some (.str (Str.ofString (toString i))) else none
 |_=>none
noncomputable def Vu:Li P->Ot (Li Str)
 |[]=>some []
 |.str x :: r=>(Vu r).map (x :: ·)
 |_=>none
noncomputable def W7(ps:Li P):Ot P:=match Vu ps with
 |some xs=>if (Vx xs).length<=Zc then some (.str ⟨(Vx xs).toArray⟩) else none
 |none=>none
noncomputable def W6(s:Str)(ps:Li P):Ot P:=match Vu ps with
 |some xs=>if (Ye s xs).length<=Zc then some (.str ⟨(Y3 s xs).toArray⟩) else none
 |none=>none
noncomputable def Ug:P->P->Ot P
 |.str s,.lst _ ps=>if s.length=0 then W7 ps else W6 s ps
 |_,_=>none
noncomputable def Wg:P->P->Ot P
 |.str x,.tup [.str y]=>some (.bl (stW x y))
 |_,_=>none
noncomputable def ZcL:P->P->Ot P
 |.int i,.int j=>some (.int (if j < i then j else i))
 |_,_=>none
noncomputable def ZcK:P->P->Ot P
 |.int i,.int j=>some (.int (if j > i then j else i))
 |_,_=>none
noncomputable def ZaQ:Li P->Ot (Li P)
 |[.int i,.int j]=>some (if j < i then [.int j,.int i] else [.int i,.int j])
 |_=>none
noncomputable def ZcY(k:Bool)(xs:Li P):Ot (Li P):=if k then ZaQ xs else some xs.reverse
noncomputable def rsP(k:Bool):P->Ot P
 |.lst _ xs=>(ZcY k xs).map fun ys=>.lst true ys
 |_=>none
noncomputable def Ui(ks:Li Str)(ds:Li D):P->Ot P
 |.str k=>(ZW ks ds k).bind ofD
 |_=>none
noncomputable def XJ:Li P->Ot (Li Bool)
 |[]=>some []
 |.bl b :: r=>(XJ r).map (b :: ·)
 |_=>none
noncomputable def X2(f:Li Bool->Bool):P->Ot P
 |.lst _ xs=>match XJ xs with
  |some bs=>some (.bl (f bs))
  |none=>none
 |_=>none

noncomputable def Xv(n:Int):Li P:=(List.range n.toNat).map fun(k:Nat)=>P.int (k:Int)
noncomputable def QF(rng:Bool)(x:P):Ot (Li P):=
 match rng,x with
 |true,.int n=>if n < 2 ^ 62/\-(2 ^ 62)<=n then some (Xv n) else none
 |false,.tup xs=>some xs
 |_,_=>none
noncomputable def YF(f c:P->Ot P):Li P->Ot (Li P)
 |[]=>some []
 |x :: xs=>match c x with
  |some (.bl true)=>match f x with
   |some y=>match YF f c xs with
    |some ys=>some (y :: ys)
    |none=>none
   |none=>none
  |some (.bl false)=>YF f c xs
  |_=>none
noncomputable def Xp(rng:Bool)(x:P):Ot (Li P):=match QF rng x with
 |some xs=>some xs
 |none=>match rng,x with
  |false,.lst _ xs=>some xs
  |false,.str x=>if x.cps.all (fun c=>decide (c < 128))=true then some ((chS x).map .str) else none
  |false,.dct [] [.int a,.int b]=>some ((Zfm a b 1).map .int)
  |_,_=>none
noncomputable abbrev Zt:=Li (Ot P)
noncomputable abbrev PEv:=Zt->Ot P
noncomputable def pq1(fa:PEv)(g:P->Ot P):PEv:=fun π=>match fa π with
 |some x=>g x
 |none=>none
noncomputable def pq2(fa fb:PEv)(g:P->P->Ot P):PEv:=fun π=>match fa π with
 |some x=>match fb π with
  |some y=>g x y
  |none=>none
 |none=>none
noncomputable def pq3(fa fb fc:PEv)(g:P->P->P->Ot P):PEv:=fun π=>match fa π with
 |some x=>match fb π with
  |some y=>match fc π with
   |some z=>g x y z
   |none=>none
  |none=>none
 |none=>none
noncomputable def YL(fc ft ff:PEv):PEv:=fun π=>match fc π with
 |some (.bl true)=>ft π
 |some (.bl false)=>ff π
 |_=>none
noncomputable def JR(i:Nat):PEv:=fun π=>match π[i]? with
 |some (some p)=>some p
 |_=>none
noncomputable def Xk(π:Zt)(fr:Li Nat)(p:P):Zt:=some p :: fr.map fun i=>(π[i]?).join
noncomputable def Zfd(p:P):Li (Ot P):=[some p]
noncomputable def QX:P->Li (Ot P)
 |.tup [a,b]=>[some a,some b]
 |_=>[]

noncomputable def ZbU(xs ys:Li P):Li P:=(xs.zip ys).map fun p=>.tup [p.1,p.2]
noncomputable def X7:P->Ot (Li P)
 |.tup [.lst _ xs,.tup ys]=>some (ZbU xs ys)
 |_=>none
noncomputable def YM(b:P->Li (Ot P))(π:Zt)(fr:Li Nat)(p:P):Zt:=b p++fr.map fun i=>(π[i]?).join
noncomputable def Yj(b:P->Li (Ot P))(w:P->Ot (Li P))(fr:Li Nat)(fi fe fc:PEv):PEv:=fun π=>match fi π with
 |some x=>match w x with
  |some xs=>if xs.length<=1000 then
    match YF (fun p=>fe (YM b π fr p)) (fun p=>fc (YM b π fr p)) xs with
    |some ys=>some (.lst true ys)
    |none=>none
   else none
  |none=>none
 |none=>none
noncomputable def pe(F:Nat->Li P->Ot P):CE->PEv
 |.var i=>JR i
 |.cst d=>fun _=>ofD d
 |.bin op a b=>pq2 (pe F a) (pe F b) (XH op)
 |.neg a=>pq1 (pe F a) ZcO
 |.cmp op a b=>pq2 (pe F a) (pe F b) (YD op)
 |.not a=>pq1 (pe F a) ZcP
 |.and a b=>YL (pe F a) (pe F b) (fun _=>some (.bl false))
 |.or a b=>YL (pe F a) (fun _=>some (.bl true)) (pe F b)
 |.ife c a b=>YL (pe F c) (pe F a) (pe F b)
 |.tupE a=>pe F a
 |.lstE a=>pq1 (pe F a) ZaB
 |.aN=>fun _=>some (.tup [])
 |.aC a r=>pq2 (pe F a) (pe F r) US
 |.ix a b=>pq2 (pe F a) (pe F b) ixP
 |.slice a lo hi=>pq3 (pe F a) (pe F lo) (pe F hi) Us
 |.nop=>fun _=>some .non
 |.part a=>pq1 (pe F a) Qb
 |.call f a ds=>pq1 (pe F a) (UR (F f) ds)
 |.len a=>pq1 (pe F a) QI
 |.tOf a=>pq1 (pe F a) Vj
 |.listOf _=>fun _=>none
 |.intOf a=>pq1 (pe F a) QE
 |.min a b=>pq2 (pe F a) (pe F b) ZcL
 |.max a b=>pq2 (pe F a) (pe F b) ZcK
 |.isi T a=>pq1 (pe F a) (Zaw T)
 |.rs k a=>pq1 (pe F a) (rsP k)
 |.inv _=>fun _=>none
 |.tupR _=>fun _=>none
 |.look ks ds a=>pq1 (pe F a) (Ui ks ds)
 |.dget _ _ _=>fun _=>none
 |.inR _ _ _=>fun _=>none
 |.all a=>pq1 (pe F a) (X2 fun l=>l.all id)
 |.any _=>fun _=>none
 |.comp rng fr it elt cnd=>Yj Zfd (Xp rng) fr (pe F it) (pe F elt) (pe F cnd)
 |.comp2 fr it elt cnd=>Yj QX X7 fr (pe F it) (pe F elt) (pe F cnd)
 |.compT _ _ _ _=>fun _=>none
 |.lstR _ _=>fun _=>none
 |.new _=>fun _=>none
 |.meth _ _ _=>fun _=>none
 |.isc _ _=>fun _=>none
 |.tix o a=>pq2 (pe F o) (pe F a) Zh2
 |.dict _ _=>fun _=>none
 |.dnew=>fun _=>none
 |.strOf a=>pq1 (pe F a) XC
 |.joinE a b=>pq2 (pe F a) (pe F b) Ug
 |.starts a b=>pq2 (pe F a) (pe F b) Wg
 |.rng2 _ _=>fun _=>none
 |.srt _=>fun _=>none

noncomputable def noM(M:Li Nat):CE->Bool
 |.var i=>!M.contains i
 |.cst _=>true
 |.bin _ a b=>noM M a&&noM M b
 |.neg a=>noM M a
 |.cmp _ a b=>noM M a&&noM M b
 |.not a=>noM M a
 |.and a b=>noM M a&&noM M b
 |.or a b=>noM M a&&noM M b
 |.ife c a b=>noM M c&&(noM M a&&noM M b)
 |.tupE a=>noM M a
 |.lstE a=>noM M a
 |.aN=>true
 |.aC a r=>noM M a&&noM M r
 |.ix a b=>noM M a&&noM M b
 |.slice a lo hi=>noM M a&&(noM M lo&&noM M hi)
 |.nop=>true
 |.part a=>noM M a
 |.call _ a _=>noM M a
 |.len a=>noM M a
 |.tOf a=>noM M a
 |.listOf a=>noM M a
 |.intOf a=>noM M a
 |.min a b=>noM M a&&noM M b
 |.max a b=>noM M a&&noM M b
 |.isi _ a=>noM M a
 |.rs _ a=>noM M a
 |.inv a=>noM M a
 |.tupR a=>noM M a
 |.look _ _ a=>noM M a
 |.dget a k d=>noM M a&&(noM M k&&noM M d)
 |.inR _ a b=>noM M a&&noM M b
 |.all a=>noM M a
 |.any a=>noM M a
 |.comp _ fr it _ _=>noM M it&&fr.all fun i=>!M.contains i
 |.comp2 fr it _ _=>noM M it&&fr.all fun i=>!M.contains i
 |.compT fr it _ _=>noM M it&&fr.all fun i=>!M.contains i
 |.lstR a b=>noM M a&&noM M b
 |.new _=>true
 |.meth _ o a=>noM M o&&noM M a
 |.isc _ a=>noM M a
 |.tix o a=>noM M o&&noM M a
 |.dict _ a=>noM M a
 |.dnew=>true
 |.strOf a=>noM M a
 |.joinE a b=>noM M a&&noM M b
 |.starts a b=>noM M a&&noM M b
 |.rng2 a b=>noM M a&&noM M b
 |.srt a=>noM M a
noncomputable def U1(_:Nat):Bool:=false
noncomputable def WK:CE->Bool
 |.bin _ _ _=>true
 |.lstE _=>true
 |_=>false
noncomputable def ZR:CS->Li Nat
 |.seq a b=>ZR a++ZR b
 |.app i _=>[i]
 |.ext i _=>[i]
 |.put i _ _=>[i]
 |.dput i _ _ _=>[i]
 |.ite _ a b=>ZR a++ZR b
 |.for1 _ _ _ b=>ZR b
 |.for3 _ _ b=>ZR b
 |.forP _ _ _ b=>ZR b
 |.forE _ _ _ b=>ZR b
 |.for4 _ _ _ _ b=>ZR b
 |.for2 _ _ _ b=>ZR b
 |.whl _ b=>ZR b
 |_=>[]
noncomputable def mvT:CE->Li Nat
 |.var j=>[j]
 |_=>[]
noncomputable def Ya:CS->Li Nat
 |.seq a b=>Ya a++Ya b
 |.app i _=>[i]
 |.ext i _=>[i]
 |.put i _ _=>[i]
 |.dput i _ _ _=>[i]
 |.set i e=>i :: mvT e
 |.set2 i j _=>[i,j]
 |.set3 i j l _=>[i,j,l]
 |.ite _ a b=>Ya a++Ya b
 |.for1 i _ _ b=>i :: Ya b
 |.for3 i _ b=>i :: Ya b
 |.forP i j _ b=>i :: j :: Ya b
 |.forE i j _ b=>i :: j :: Ya b
 |.for4 i j l _ b=>i :: j :: l :: Ya b
 |.for2 i j _ b=>i :: j :: Ya b
 |.whl _ b=>Ya b
 |_=>[]
inductive PFl where
 |nx (π:Zt)|rt (p:P)|bk (π:Zt)|ct (π:Zt)
noncomputable abbrev PEx:=Zt->Ot PFl
noncomputable def ZK(π:Zt)(i:Nat)(p:P):Zt:=π.set i (some p)
noncomputable def Xi(body:P->Zt->Ot PFl):Li P->Zt->Ot PFl
 |[],π=>some (.nx π)
 |d :: ds,π=>match body d π with
  |some (.nx π')=>Xi body ds π'
  |some (.ct π')=>Xi body ds π'
  |some (.bk π')=>some (.nx π')
  |some (.rt v)=>some (.rt v)
  |none=>none
noncomputable def Zff(f g:PEx):PEx:=fun π=>match f π with
 |some (.nx π')=>g π'
 |r=>r
noncomputable def Zfe(f:PEv):PEx:=fun π=>match f π with
 |some d=>some (.rt d)
 |none=>none
noncomputable def ZT(M:Li Nat)(e:CE)(p:P):Bool:=noM M e||noL p

noncomputable def YR(M:Li Nat)(e:CE)(p:P):Bool:=match p with
 |.lst true xs=>WK e&&(noM M e||UH xs)
 |_=>false
noncomputable def ZaJ(M:Li Nat)(i:Nat)(e:CE)(f:PEv):PEx:=fun π=>match f π with
 |some p=>if (if M.contains i then YR M e p else ZT M e p||YR M e p) then some (.nx (ZK π i p)) else none
 |none=>none
noncomputable def JP(M:Li Nat)(i j:Nat)(e:CE)(f:PEv):PEx:=fun π=>match f π with
 |some (.tup [x,y])=>if !M.contains i&&!M.contains j&&ZT M e (.tup [x,y]) then some (.nx (ZK (ZK π i x) j y)) else none
 |_=>none
noncomputable def Ze2(M:Li Nat)(i:Nat)(e:CE)(f:PEv):PEx:=fun π=>match π[i]? with
 |some (some (.lst true xs))=>match f π with
  |some p=>if M.contains i&&ZT M e p&&decide (xs.length < Zc) then some (.nx (ZK π i (.lst true (xs++[p])))) else none
  |none=>none
 |_=>none


noncomputable def Zfb(c:PEv)(f g:PEx):PEx:=fun π=>match c π with
 |some (.bl true)=>f π
 |some (.bl false)=>g π
 |_=>none
noncomputable def Ze8(M T:Li Nat)(i:Nat)(rng:Bool)(e:CE)(it:PEv)(b:PEx):PEx:=fun π=>match it π with
 |some x=>match QF rng x with
  |some xs=>if !M.contains i&&(rng||ZT M e x) then Xi (fun d π=>b (ZK π i d)) xs π else none
  |none=>none
 |none=>none
noncomputable def XA(body:P->P->Zt->Ot PFl):Li (P×P)->Zt->Ot PFl
 |[],π=>some (.nx π)
 |p :: ps,π=>match body p.1 p.2 π with
  |some (.nx π')=>XA body ps π'
  |some (.ct π')=>XA body ps π'
  |some (.bk π')=>some (.nx π')
  |some (.rt v)=>some (.rt v)
  |none=>none
noncomputable def JN(M:Li Nat)(i j:Nat)(e:CE)(it:PEv)(b:PEx):PEx:=fun π=>match it π with
 |some (.tup [.lst _ xs,.tup ys])=>if !M.contains i&&!M.contains j&&noM M e then XA (fun x y π=>b (ZK (ZK π i x) j y)) (xs.zip ys) π else none
 |_=>none


noncomputable def px(F:Nat->Li P->Ot P)(M:Li Nat):CS->PEx
 |.skip=>fun π=>some (.nx π)
 |.seq a b=>Zff (px F M a) (px F M b)
 |.ret e=>Zfe (pe F e)
 |.set i e=>ZaJ M i e (pe F e)
 |.set2 i j e=>JP M i j e (pe F e)
 |.app i e=>Ze2 M i e (pe F e)
 |.ext _ _=>fun _=>none
 |.put _ _ _=>fun _=>none
 |.ite c a b=>Zfb (pe F c) (px F M a) (px F M b)
 |.for1 i rng it b=>Ze8 M (Ya b) i rng it (pe F it) (px F M b)
 |.forP i j it b=>JN M i j it (pe F it) (px F M b)
 |.forE _ _ _ _=>fun _=>none
 |.for3 _ _ _=>fun _=>none
 |.for4 _ _ _ _ _=>fun _=>none
 |.for2 _ _ _ _=>fun _=>none
 |.whl _ _=>fun _=>none
 |.brk=>fun π=>some (.bk π)
 |.cont=>fun π=>some (.ct π)
 |.stop=>fun _=>none
 |.app2 _ _=>fun _=>none
 |.set3 _ _ _ _=>fun _=>none
 |.act _=>fun _=>none
 |.dput _ _ _ _=>fun _=>none
noncomputable def fnP(F:Nat->Li P->Ot P)(f:FD):Li P->Ot P:=fun ds=>
 if ds.length=f.ps/\(ZR f.body).all (fun i=>decide (f.ps<=i))=true then
  match px F (ZR f.body) f.body (ds.map some++List.replicate (f.ns - ds.length) none) with
  |some (.rt d)=>some d
  |some (.nx _)=>some .non
  |_=>none
 else none
noncomputable def XB:CS->Bool
 |.seq a b=>XB a&&XB b
 |.ret _=>false
 |.ite _ a b=>XB a&&XB b
 |.for1 _ _ _ b=>XB b
 |.for3 _ _ b=>XB b
 |.forP _ _ _ b=>XB b
 |.forE _ _ _ b=>XB b
 |.for4 _ _ _ _ b=>XB b
 |.for2 _ _ _ b=>XB b
 |.whl _ b=>XB b
 |_=>true
noncomputable def ZbS(M:Li Nat):CS->Bool
 |.seq (.ret (.var j)) .skip=>M.contains j
 |.seq a b=>XB a&&ZbS M b
 |_=>false
noncomputable def Ul(f:FD):Bool:=ZbS (ZR f.body) f.body
noncomputable def Zh(T:Nat->Ot FD):Nat->Nat->Li P->Ot P
 |0,_=>fun _=>none
 |n+1,i=>match T i with
  |some f=>if (U1 i&&!Ul f)=true then fun _=>none else fnP (Zh T n) f
  |none=>fun _=>none
abbrev Fz:=Nat->Prop
mutual
inductive Rel(fz:Fz)(st:Za):P->D->Prop where
 |non:Rel fz st .non .non
 |bl (b:Bool):Rel fz st (.bl b) (.bl b)
 |int (i:Int):Rel fz st (.int i) (.int i)
 |str (x:Str):Rel fz st (.str x) (.str x)
 |tup {ps:List P}{ds:List D} (r:Rels fz st ps ds):Rel fz st (.tup ps) (.tup ds)
 |lst {j:Nat}{m:Bool}{ps:List P}{ds:List D} (hz:fz j) (h:st[j]?=some (m,ds)) (r:Rels fz st ps ds):Rel fz st (.lst m ps) (.lst j)
 |dct {ks:List Str}{ps:List P}{ds:List D} (r:Rels fz st ps ds):Rel fz st (.dct ks ps) (.dct ks ds)
 |obj (i:Nat):Rel fz st (.obj i) (.obj i)
 |kt (ks:List Str):Rel fz st (.kt ks) (.kt ks)
 |dic {j:Nat}{m:Bool}{ps:List P}{ds:List D} (hz:fz j) (h:st[j]?=some (m,ds)) (r:Rels fz st ps ds):Rel fz st (.dic m ps) (.dic j)
inductive Rels(fz:Fz)(st:Za):List P->List D->Prop where
 |nil:Rels fz st [] []
 |cons {p:P}{d:D}{ps:List P}{ds:List D} (h:Rel fz st p d) (r:Rels fz st ps ds):Rels fz st (p :: ps) (d :: ds)
end
variable{p:P}{d:D}{ps:Li P}{ds:Li D}
section
variable {fz fz':Fz}{st st':Za}
theorem Rel.mono(h1:∀ i,fz i->fz' i)(h2:∀ i,fz i->st'[i]?=st[i]?)(h:Rel fz st p d):Rel fz' st' p d:=
 Rel.rec (motive_1:=fun p d _=>Rel fz' st' p d) (motive_2:=fun ps ds _=>Rels fz' st' ps ds) .non .bl .int .str (fun _ r=>.tup r) (fun hz h _ r=>.lst (h1 _ hz) (by rw[h2 _ hz];exact h) r) (fun _ r=>.dct r) .obj .kt (fun hz h _ r=>.dic (h1 _ hz) (by rw[h2 _ hz];exact h) r) .nil (fun _ _ a b=>.cons a b) h
theorem Rels.mono(h1:∀ i,fz i->fz' i)(h2:∀ i,fz i->st'[i]?=st[i]?)(h:Rels fz st ps ds):Rels fz' st' ps ds:=
 Rels.rec (motive_1:=fun _ _ _=>True) (motive_2:=fun ps ds _=>Rels fz' st' ps ds) trivial (fun _=>trivial) (fun _=>trivial) (fun _=>trivial) (fun _ _=>trivial) (fun _ _ _ _=>trivial) (fun _ _=>trivial) (fun _=>trivial) (fun _=>trivial) (fun _ _ _ _=>trivial) .nil (fun a _ _ b=>.cons (a.mono h1 h2) b) h
theorem Rel.ofNoL(hn:noL p=true)(h:Rel fz st p d):Rel fz' st' p d:=
 Rel.rec (motive_1:=fun p d _=>noL p=true->Rel fz' st' p d) (motive_2:=fun ps ds _=>UH ps=true->Rels fz' st' ps ds) (fun _=>.non) (fun _ _=>.bl _) (fun _ _=>.int _) (fun _ _=>.str _) (fun _ r h=>.tup (r h)) (fun _ _ _ _ h=>by cases h) (fun _ r h=>.dct (r h)) (fun _ _=>.obj _) (fun _ _=>.kt _) (fun _ _ _ _ h=>by cases h) (fun _=>.nil) (fun _ _ a b h=>.cons (a (bR.mp h).1) (b (bR.mp h).2)) h hn
theorem Rels.ofNoL(hn:UH ps=true)(h:Rels fz st ps ds):Rels fz' st' ps ds:=by
 induction ps generalizing ds with
 |nil=>cases h;exact .nil
 |cons p ps ih=>cases h with
  |cons a r=>exact .cons (a.ofNoL (bR.mp hn).1) (ih (bR.mp hn).2 r)
theorem Rels.length:∀ {ps:Li P}{ds:Li D},Rels fz st ps ds->ps.length=ds.length
 |_,_,.nil=>rfl
 |_,_,.cons _ r=>congrArg (·+1) (Rels.length r)
theorem Rels.get:∀ {ps:Li P}{ds:Li D}{i:Nat}{p:P},Rels fz st ps ds->ps[i]?=some p->∃ d,ds[i]?=some d/\Rel fz st p d
 |_,_,_,_,.nil,e=>by simp at e
 |_,_,0,_,.cons h _,e=>by simp at e;subst e;exact⟨_,rfl,h⟩
 |_,_,i+1,p,.cons _ r,e=>by
  obtain⟨v,h1,h2⟩:=Rels.get (i:=i) (p:=p) r (by simpa using e)
  exact⟨v,by simpa using h1,h2⟩
theorem Rels.append:∀ {ps qs:Li P}{ds es:Li D},Rels fz st ps ds->Rels fz st qs es->Rels fz st (ps++qs) (ds++es)
 |_,_,_,_,.nil,s=>s
 |_,_,_,_,.cons h r,s=>.cons h (Rels.append r s)
theorem Rels.take:∀ {ps:Li P}{ds:Li D} (n:Nat),Rels fz st ps ds->Rels fz st (ps.take n) (ds.take n)
 |_,_,0,_=>.nil
 |_,_,_+1,.nil=>.nil
 |_,_,n+1,.cons h r=>.cons h (Rels.take n r)
theorem Rels.drop:∀ {ps:Li P}{ds:Li D} (n:Nat),Rels fz st ps ds->Rels fz st (ps.drop n) (ds.drop n)
 |_,_,0,r=>r
 |_,_,_+1,.nil=>.nil
 |_,_,n+1,.cons _ r=>Rels.drop n r
theorem Rels.rep(h:Rel fz st p d):∀ n:Nat,Rels fz st (List.replicate n p) (List.replicate n d)
 |0=>.nil
 |n+1=>.cons h (Rels.rep h n)
mutual
theorem Rel.ofConst:∀ {d:D}{p:P},ofD d=some p->Rel fz st p d
 |.non,p,h=>by cases h;exact .non
 |.bl b,p,h=>by cases h;exact .bl b
 |.int i,p,h=>by cases h;exact .int i
 |.str x,p,h=>by cases h;exact .str x
 |.tup xs,p,h=>by
  have h:(Vz xs).map P.tup=some p:=h;cases q:Vz xs with
  |none=>rw[q]at h;cases h
  |some ys=>rw[q]at h;cases h;exact .tup (Rels.ofConst q)
 |.lst _,p,h=>by cases h
 |.dct _ _,p,h=>by cases h
 |.obj _,p,h=>by cases h
 |.kt ks,p,h=>by cases h;exact .kt ks
theorem Rels.ofConst:∀ {ds:Li D}{ps:Li P},Vz ds=some ps->Rels fz st ps ds
 |[],ps,h=>by cases h;exact .nil
 |d :: ds,ps,h=>by
  have h:(match ofD d,Vz ds with
   |some y,some ys=>some (y :: ys)
   |_,_=>none)=some ps:=h
  split at h
  ·rename_i y ys h1 h2
   cases h;exact .cons (Rel.ofConst h1) (Rels.ofConst h2)
  ·exact Zb h
end
end
def Bd(fz:Fz)(st:Za):Prop:=∀ i,fz i->i < st.length
structure Next(fz:Fz)(st:Za)(fz':Fz)(st':Za):Prop where
 old:∀ i,i < st.length->st'[i]?=st[i]?
 len:st.length<=st'.length
 sub:∀ i,fz i->fz' i
 new:∀ i,fz' i->fz i\/st.length<=i
 bd:Bd fz' st'
variable{α:Type}{m:Bool}
section
variable {fz fz' fz1 fz2:Fz}{st st' st1 st2:Za}
theorem Next.refl(b:Bd fz st):Next fz st fz st:=⟨fun _ _=>rfl,aB _,fun _ h=>h,fun _ h=>.inl h,b⟩
theorem Next.trans(x:Next fz st fz1 st1)(y:Next fz1 st1 fz2 st2):Next fz st fz2 st2:=
 ⟨fun i h=>(y.old i (aP h x.len)).trans (x.old i h),aF x.len y.len,fun i h=>y.sub i (x.sub i h),fun i h=>(y.new i h).elim (x.new i) fun z=>.inr (aF x.len z),y.bd⟩
theorem Next.small(b:Bd fz st)(x:Next fz1 st fz' st'):Next fz st fz st':=⟨x.old,x.len,fun _ h=>h,fun _ h=>.inl h,fun i h=>aP (b i h) x.len⟩
theorem Rel.next(b:Bd fz st)(x:Next fz st fz' st')(r:Rel fz st p d):Rel fz' st' p d:=r.mono x.sub fun i h=>x.old i (b i h)
theorem Rels.next{p:Li P}{d:Li D}(b:Bd fz st)(x:Next fz st fz' st')(r:Rels fz st p d):Rels fz' st' p d:=r.mono x.sub fun i h=>x.old i (b i h)
theorem ZiC{l:Li α}{x:α}:(l++[x])[l.length]?=some x:=by simp
theorem Zfg(b:Bd fz st):Next fz st fz (st++[(m,ds)]):=
 ⟨fun i h=>by rw[aZ h],by simp,fun _ h=>h,fun _ h=>.inl h,fun i h=>by have:=b i h;simp;omega⟩
theorem ZaK(b:Bd fz st):Next fz st (fun i=>fz i\/i=st.length) (st++[(m,ds)]):=
 ⟨fun i h=>by rw[aZ h],by simp,fun _ h=>.inl h,fun i h=>h.elim .inl fun z=>.inr (by omega),fun i h=>by
  rcases h with h|h
  ·have:=b i h;simp;omega
  ·simp;omega⟩
theorem JQ(b:Bd fz st)(r:Rels fz st ps ds):Rel (fun i=>fz i\/i=st.length) (st++[(m,ds)]) (.lst m ps) (.lst st.length):=
 .lst (.inr rfl) ZiC (r.next b (ZaK b))
end
abbrev Gives(fz:Fz)(st:Za)(r:Res)(p:P):Prop:=∃ d st' fz',r=some (d,st')/\Next fz st fz' st'/\Rel fz' st' p d
def Op1(o:D->Za->Res)(O:P->Ot P):Prop:=∀ fz st x dx p,Bd fz st->Rel fz st x dx->O x=some p->Gives fz st (o dx st) p
def Op2(o:D->D->Za->Res)(O:P->P->Ot P):Prop:=∀ fz st x y dx dy p,Bd fz st->Rel fz st x dx->Rel fz st y dy->O x y=some p->Gives fz st (o dx dy st) p
def Op3(o:D->D->D->Za->Res)(O:P->P->P->Ot P):Prop:=∀ fz st x y z dx dy dz p,Bd fz st->Rel fz st x dx->Rel fz st y dy->Rel fz st z dz->O x y z=some p->Gives fz st (o dx dy dz st) p
abbrev Makes(fz:Fz)(st:Za)(r:Res)(m:Bool)(ps:Li P):Prop:=∃ ds,r=some (.lst st.length,st++[(m,ds)])/\Rels fz st ps ds
def ZiJ(o:D->Za->Res)(O:P->Ot P):Prop:=∀ fz st x dx m ps,Bd fz st->Rel fz st x dx->O x=some (.lst m ps)->Makes fz st (o dx st) m ps
def ZkN(o:D->D->Za->Res)(O:P->P->Ot P):Prop:=∀ fz st x y dx dy m ps,Bd fz st->Rel fz st x dx->Rel fz st y dy->O x y=some (.lst m ps)->Makes fz st (o dx dy st) m ps
variable{st:Za}
theorem Gives.same{fz:Fz}(b:Bd fz st)(r:Rel fz st p d):Gives fz st (some (d,st)) p:=⟨d,st,fz,rfl,Next.refl b,r⟩
theorem Makes.gives{fz:Fz}{r:Res}(b:Bd fz st)(h:Makes fz st r m ps):Gives fz st r (.lst m ps):=by
 obtain⟨ds,e,rr⟩:=h;exact⟨_,_,_,e,ZaK b,JQ b rr⟩
variable{qs:Li P}{es:Li D}{k:Bool}{lo hi:Ot Int}
section
mutual
theorem ZaG{fz:Fz}{st:Za}:∀ {n:Nat}{p:P}{d:D},Rel fz st p d->okP n p=okD n d
 |n,_,_,.non=>by cases n<;>rfl
 |n,_,_,.bl b=>by cases n<;>rfl
 |n,_,_,.int i=>by cases n<;>rfl
 |n,_,_,.str x=>by cases n<;>rfl
 |0,_,_,.tup r=>rfl
 |n+1,_,_,.tup r=>VC r
 |n,_,_,.lst _ _ _=>by cases n<;>rfl
 |n,_,_,.dct _=>by cases n<;>rfl
 |n,_,_,.obj _=>by cases n<;>rfl
 |n,_,_,.kt _=>by cases n<;>rfl
 |n,_,_,.dic _ _ _=>by cases n<;>rfl
theorem VC{fz:Fz}{st:Za}:∀ {n:Nat}{p:Li P}{d:Li D},Rels fz st p d->UJ n p=Xu n d
 |_,_,_,.nil=>rfl
 |n,p :: ps,d :: ds,.cons h r=>by
  show(okP n p&&UJ n ps)=(okD n d&&Xu n ds);rw[ZaG h,VC r]
end
mutual
theorem Zf6{fz:Fz}{st:Za}:∀ {p q:P}{d e:D},Rel fz st p d->Rel fz st q e->Q9 p q=ZX d e
 |_,_,_,_,.non,h=>by cases h<;>rfl
 |_,_,_,_,.bl b,h=>by cases h<;>rfl
 |_,_,_,_,.int i,h=>by cases h<;>rfl
 |_,_,_,_,.str x,h=>by cases h<;>rfl
 |_,_,_,_,.tup r,h=>by
  cases h with
  |tup r'=>exact WE r r'
  |_=>rfl
 |_,_,_,_,.lst _ _ _,h=>by cases h<;>rfl
 |_,_,_,_,.dct _,h=>by cases h<;>rfl
 |_,_,_,_,.obj _,h=>by cases h<;>rfl
 |_,_,_,_,.kt _,h=>by cases h<;>rfl
 |_,_,_,_,.dic _ _ _,h=>by cases h<;>rfl
theorem WE{fz:Fz}{st:Za}:∀ {p q:Li P}{d e:Li D},Rels fz st p d->Rels fz st q e->XG p q=Z5 d e
 |_,_,_,_,.nil,h=>by cases h<;>rfl
 |p :: ps,_,d :: ds,_,.cons a r,h=>by
  cases h with
  |nil=>rfl
  |@cons q e qs es a' r'=>
   show(Q9 p q&&XG ps qs)=(ZX d e&&Z5 ds es);rw[Zf6 a a',WE r r']
end
theorem ZbB{fz:Fz}(r:Rels fz st ps ds):ps.isEmpty=ds.isEmpty:=by cases r<;>rfl
theorem Ze1{fz:Fz}(r:Rels fz st ps ds)(s:Rels fz st qs es)(h:ZbF ps qs=some k):ZbG st ds es=some k:=by cases h
theorem Zfu{fz:Fz}(r:Rel fz st p d):scP p=scD d:=by cases r<;>rfl
theorem Zgv{fz:Fz}(r:Rels fz st ps ds)(s:Rels fz st qs es):Zje ps qs=Qv ds es:=by
 unfold Zje Qv;rw[ZbB r,ZbB s,VC r,VC s,WE r s]
theorem Zar{fz:Fz}{q:P}{e:D}(r:Rel fz st p d)(s:Rel fz st q e)(h:eqP p q=some k):eqS st d e=some k:=by
 have tail:(o2 ZdY (scP p) (scP q)).join=some k->(o2 ZdY (scD d) (scD e)).join=some k:=by
  rw[Zfu r,Zfu s];exact id
 cases r with
 |@tup ps ds r=>
  cases s with
  |@tup qs es r'=>
   have h:(if okP 8 (.tup ps)&&okP 8 (.tup qs) then some (XG ps qs) else ZbF ps qs)=some k:=h
   show(match (if okD 8 (.tup ds)&&okD 8 (.tup es) then some (Z5 ds es) else none) with
    |some k=>some k
    |none=>ZbG st ds es)=some k
   rw[ZaG (.tup r),ZaG (.tup r'),WE r r']at h;by_cases c:(okD 8 (.tup ds)&&okD 8 (.tup es))=true
   ·rw[if_pos c]at h ⊢
    exact h
   ·rw[if_neg c]at h ⊢
    exact Ze1 r r' h
  |_=>exact Zb h
 |@lst j m ps ds hz hs r=>
  cases s with
  |@lst j' m' qs es hz' hs' r'=>
   have g:(o2 (fun(c d:YU)=>Qv c.2 d.2) st[j]? st[j']?).join=some k:=by
    rw[hs,hs'];show Qv ds es=some k;rw[<-Zgv r r'];exact h
   show Zct st j (.lst j')=some k;unfold Zct;simp only[g]
  |_=>exact Zb h
 |_=>exact tail h
theorem Zbq{fz:Fz}{st:Za}{i:Str}:∀ {ps:Li P}{ds:Li D}{k:Bool},Rels fz st ps ds->Zer i ps=some k->Y9 i ds=some k
 |_,_,_,.nil,h=>h
 |p :: ps,d :: ds,k,.cons a r,h=>by
  cases a with
  |str j=>
   have h:(Zer i ps).map (fun b=>decide (j=i)||b)=some k:=h
   show(Y9 i ds).map (fun b=>decide (j=i)||b)=some k
   cases q:Zer i ps with
   |none=>rw[q]at h;cases h
   |some k'=>rw[q]at h;rw[Zbq r q];exact h
  |_=>exact Zb h
theorem Qp{fz:Fz}{i:Int}(r:Rels fz st ps ds)(h:atP ps i=some p):∃ d,atD ds i=some d/\Rel fz st p d:=by
 unfold atP at h;unfold atD;rw[<-r.length];cases q:ixN ps.length i with
 |none=>rw[q]at h;cases h
 |some j=>
  rw[q]at h;exact r.get h
theorem Zbf{fz:Fz}(r:Rels fz st ps ds):Rels fz st (Zcm ps lo hi) (Zcl ds lo hi):=by
 unfold Zcm Zcl;rw[<-r.length];exact(r.drop _).take _
end
variable{xs:Li P}{x y:P}{dx dy:D}
section
theorem Zly:Op1 Zha ZcO:=by
 intro fz st x dx p b r h;cases r<;>first | (cases h;exact .same b (.int _))|cases h
theorem Zlz:Op1 ZaD ZcP:=by
 intro fz st x dx p b r h;cases r<;>first | (cases h;exact .same b (.bl _))|cases h
theorem ZjJ:Op1 ZbH Qb:=by
 intro fz st x dx p b r h;cases r<;>first | (cases h;exact .same b (.int _))|cases h
theorem Zlt:Op1 Zeu QE:=by
 intro fz st x dx p b r h;cases r with
 |bl k=>cases k<;>(cases h;exact .same b (.int _))
 |int i=>cases h;exact .same b (.int _)
 |str x=>
  have h:(match WJ x with
   |some i=>some (P.int i)
   |none=>none)=some p:=h
  have z:Zeu (.str x) st=(match WJ x with
   |some i=>some (D.int i,st)
   |none=>none):=rfl
  rw[z];cases q:WJ x with
  |none=>rw[q]at h;cases h
  |some i=>rw[q]at h;cases h;exact .same b (.int _)
 |_=>exact Zb h
theorem ZjK:Op1 J3 XC:=by
 intro fz st x dx p b r h;cases r with
 |int i=>
  have h:(if ZI i=true then some (P.str (Str.ofString (toString i))) else none)=some p:=h
  split at h
  ·rename_i c
   cases h;rw[show J3 (.int i) st=some (.str (Str.ofString (toString i)),st) from if_pos c];exact .same b (.str _)
  ·exact Zb h
 |_=>exact Zb h
theorem Vi{fz:Fz}{st:Za}:∀ {ps:Li P}{ds:Li D},Rels fz st ps ds->∀ {xs:Li Str},Vu ps=some xs->Vt ds=some xs
 |_,_,.nil,xs,h=>h
 |_,_,.cons a r,xs,h=>by
  cases a with
  |str x=>
   obtain⟨zs,h1,h2⟩:=cV.mp (show(Vu _).map (x :: ·)=some xs from h);show(Vt _).map (x :: ·)=some xs;rw[Vi r h1,<-h2];rfl
  |_=>exact Zb h
theorem ZjG:Op2 U3 Ug:=by
 intro fz st x y dx dy p b r s h;cases r with
 |str x=>
  cases s with
  |@lst k m ps ds hz hs r=>
   have h:(if x.length=0 then W7 ps else W6 x ps)=some p:=h
   have z:U3 (.str x) (.lst k) st=(if x.length=0 then Zbu ds st else Zbt x ds st):=by unfold U3;simp only[hs]
   rw[z];split at h
   ·rename_i c
    rw[if_pos c];unfold W7 at h;split at h
    ·rename_i xs q
     split at h
     ·rename_i c2
      cases h;unfold Zbu;rw[Vi r q];simp only;rw[if_pos c2];exact .same b (.str _)
     ·exact Zb h
    ·exact Zb h
   ·rename_i c
    rw[if_neg c];unfold W6 at h;split at h
    ·rename_i xs q
     split at h
     ·rename_i c2
      cases h;unfold Zbt;rw[Vi r q];simp only;rw[if_pos c2];exact .same b (.str _)
     ·exact Zb h
    ·exact Zb h
  |_=>exact Zb h
 |_=>exact Zb h
theorem ZeU:Op2 VG Wg:=by
 intro fz st x y dx dy p b r s h;cases r with
 |str x=>
  cases s with
  |tup r=>cases r with
   |nil=>exact Zb h
   |cons a r=>cases r with
    |cons _ _=>cases a<;>cases h
    |nil=>cases a with
     |str y=>cases h;exact .same b (.bl _)
     |_=>exact Zb h
  |_=>exact Zb h
 |_=>exact Zb h
theorem ZjH:Op1 Wl QI:=by
 intro fz st x dx p b r h;cases r with
 |@tup ps ds r=>
  cases h;rw[r.length];exact .same b (.int _)
 |@lst j m ps ds hz hs r=>
  cases h;have e:Wl (.lst j) st=some (.int ds.length,st):=by unfold Wl ZcF;simp only[hs]
  rw[e,r.length];exact .same b (.int _)
 |kt ks=>
  cases h;exact .same b (.int _)
 |str x=>
  have h:(if x.length<=Zc then some (P.int x.length) else none)=some p:=h
  split at h
  ·rename_i c
   cases h;have e:Wl (.str x) st=some (.int x.length,st):=by
    unfold Wl ZcF;simp only;rw[if_pos c]
   rw[e];exact .same b (.int _)
  ·exact Zb h
 |_=>exact Zb h
theorem Zlu(T:Ty):Op1 (Zax T) (Zaw T):=by
 intro fz st x dx p b r h;obtain⟨k,e,rfl⟩:=cV.mp (show(Zju T x).map P.bl=some p from h);have z:Zju T x=ZgZ T dx:=by cases r<;>rfl
 rw[z]at e;unfold Zax;rw[e];exact .same b (.bl k)
theorem Zil:ZiJ ZeK ZaB:=by
 intro fz st x dx m ps b r h;cases r with
 |@tup ps ds r=>cases h;exact⟨ds,rfl,r⟩
 |_=>exact Zb h
theorem Zlv:Op1 ZeK ZaB:=by
 intro fz st x dx p b r h;cases r with
 |@tup ps ds r=>cases h;exact(Zil fz st _ _ true ps b (.tup r) rfl).gives b
 |_=>exact Zb h
theorem Zhh:Op1 X6 Vj:=by
 intro fz st x dx p b r h;cases r with
 |@tup ps ds r=>cases h;exact .same b (.tup r)
 |@lst j m ps ds hz hs r=>
  cases h;have e:X6 (.lst j) st=some (.tup ds,st):=by unfold X6;simp only[hs]
  rw[e];exact .same b (.tup r)
 |_=>exact Zb h

theorem ZjF:Op2 WG US:=by
 intro fz st x y dx dy p b r s h;cases s with
 |@tup ps ds s=>
  have h:(if ps.length < 1000 then some (P.tup (x :: ps)) else none)=some p:=h
  split at h
  ·rename_i c
   cases h;have e:WG dx (.tup ds) st=some (.tup (dx :: ds),st):=by unfold WG;simp only;rw[s.length]at c;rw[if_pos c]
   rw[e];exact .same b (.tup (.cons r s))
  ·exact Zb h
 |_=>exact Zb h
theorem Zlx:Op2 Zg6 ZcL:=by
 intro fz st x y dx dy p b r s h;cases r with
 |int i=>
  cases s with
  |int j=>cases h;exact .same b (.int _)
  |_=>exact Zb h
 |_=>exact Zb h
theorem Zlw:Op2 Zg4 ZcK:=by
 intro fz st x y dx dy p b r s h;cases r with
 |int i=>
  cases s with
  |int j=>cases h;exact .same b (.int _)
  |_=>exact Zb h
 |_=>exact Zb h
theorem U5{fz:Fz}{st:Za}{k:Str}:∀ {ks:Li Str}{ps:Li P}{ds:Li D},Rels fz st ps ds->(∃ p d,Wr ks ps k=some p/\ZW ks ds k=some d/\Rel fz st p d)\/(Wr ks ps k=none/\ZW ks ds k=none)
 |[],_,_,_=>.inr ⟨by simp[Wr],by simp[ZW]⟩
 |_ :: _,_,_,.nil=>.inr ⟨by simp[Wr],by simp[ZW]⟩
 |x :: ks,_,_,.cons h r=>by
  by_cases e:x=k
  ·exact .inl ⟨_,_,by simp[Wr,e],by simp[ZW,e],h⟩
  ·have ih:=U5 (k:=k) (ks:=ks) r
   simp only[Wr,ZW,if_neg e];exact ih
theorem X4{fz:Fz}{st:Za}:∀ l:Li Str,Rels fz st (l.map P.str) (l.map D.str)
 |[]=>.nil
 |k :: l=>.cons (.str _) (X4 l)
theorem ZgW{fz:Fz}{k:Str}(r:Rel fz st p d):ZcC k p=isK k d:=by
 cases r with
 |tup r=>cases r with
  |nil=>rfl
  |cons h1 r=>cases r with
   |nil=>cases h1<;>rfl
   |cons h2 r=>cases r with
    |nil=>cases h1<;>rfl
    |cons _ _=>cases h1<;>rfl
 |_=>rfl
theorem ZgV{k:Str}(h:ZcC k p=true):∃ x v,p=.tup [.str x,v]:=by
 unfold ZcC at h;split at h
 ·exact⟨_,_,rfl⟩
 ·exact absurd h Bf
theorem Zcn{fz:Fz}{k:Str}(r:Rels fz st ps ds):(∃ p d,W1 ps k=some p/\Yl ds k=some d/\Rel fz st p d)\/(W1 ps k=none/\Yl ds k=none):=by
 induction ps generalizing ds with
 |nil=>cases r;exact .inr ⟨rfl,rfl⟩
 |cons p ps ih=>cases r with
  |@cons _ d _ ds h r=>
   have e:=ZgW (k:=k) h;unfold W1 Yl at ih ⊢
   cases q:ZcC k p with
   |true=>
    rw[dD q,dD (e.symm.trans q)];obtain⟨x,v,rfl⟩:=ZgV q;cases h with
    |tup r=>cases r with
     |cons h1 r=>cases r with
      |cons h2 r=>
       cases r;cases h1;exact .inl ⟨_,_,rfl,rfl,h2⟩
   |false=>
    rw[cQ (by rw[q];exact Bf),cQ (by rw[<-e,q];exact Bf)]
    exact ih r
theorem Zez{fz:Fz}(r:Rels fz st ps ds):Zbs ps=Wx ds:=by
 cases r with
 |nil=>rfl
 |cons h _=>cases h<;>rfl
theorem Zgq{fz:Fz}{a:Nat}{k:Str}{o:Ot P}(s:Rels fz st xs es)(e:st[a]?=some (m,es))(h:Zgp k xs=some o):(∃ p d,o=some p/\dAt k a st=some (some d)/\Rel fz st p d)\/(o=none/\dAt k a st=some none):=by
 unfold Zgp at h;rw[Zez s]at h;unfold dAt;simp only[e];split at h
 ·exact Zb h
 ·rename_i c
  cases h;rw[if_neg c];rcases Zcn (k:=k) s with⟨p,d,e1,e2,q⟩|⟨e1,e2⟩
  ·exact .inl ⟨p,d,e1,congrArg some e2,q⟩
  ·exact .inr ⟨e1,congrArg some e2⟩
theorem ZmK:Op2 ixR ixP:=by
 intro fz st x y dx dy p b r s h;cases r with
 |@tup ps ds r=>
  cases s with
  |int j=>
   obtain⟨d,e,q⟩:=Qp r h;have e:ixR (.tup ds) (.int j) st=some (d,st):=by unfold ixR ixD;simp only[e]
   rw[e];exact .same b q
  |_=>exact Zb h
 |@lst k m ps ds hz hs r=>
  cases s with
  |int j=>
   obtain⟨d,e,q⟩:=Qp r h;have e:ixR (.lst k) (.int j) st=some (d,st):=by unfold ixR ixD;simp only[hs,e]
   rw[e];exact .same b q
  |_=>exact Zb h
 |@dct ks ps ds r=>
  cases s with
  |str z=>
   rcases U5 (k:=z) (ks:=ks) r with⟨p',d,e1,e2,q⟩|⟨e1,_⟩
   ·have h:Wr ks ps z=some p:=h
    rw[e1]at h;cases h
    have e:ixR (.dct ks ds) (.str z) st=some (d,st):=by unfold ixR ixD;simp only[e2]
    rw[e];exact .same b q
   ·have h:Wr ks ps z=some p:=h
    rw[e1]at h;cases h
  |_=>exact Zb h
 |kt ks=>
  cases s with
  |int j=>
   obtain⟨d,e,q⟩:=Qp (X4 (fz:=fz) (st:=st) ks) h;have e:ixR (.kt ks) (.int j) st=some (d,st):=by unfold ixR ixD;simp only[e]
   rw[e];exact .same b q
  |_=>exact Zb h
 |@dic k m ps ds hz hs rd=>
  cases s with
  |str z=>
   refine j_e (show(Zgp z ps).join=some p from h) fun h=>?_
   rcases Zgq rd hs h with⟨p',d,e1,e2,q⟩|⟨e1,_⟩
   ·cases e1
    have e:ixR (.dic k) (.str z) st=some (d,st):=by unfold ixR ixD;simp only[e2];rfl
    rw[e];exact .same b q
   ·cases e1
  |_=>exact Zb h
 |str x=>
  cases s with
  |int j=>
   have h:(if x.length<=Zc then atP ((chS x).map .str) j else none)=some p:=h
   split at h
   ·rename_i c
    obtain⟨d,e,q⟩:=Qp (X4 (fz:=fz) (st:=st) (chS x)) h;have e:ixR (.str x) (.int j) st=some (d,st):=by
     unfold ixR ixD;simp only;rw[if_pos c,e]
    rw[e];exact .same b q
   ·exact Zb h
  |_=>exact Zb h
 |_=>exact Zb h
theorem VE{f:Int->Int->Bool}{fz:Fz}(r:Rel fz st x dx)(s:Rel fz st y dy)(h:Ze0 f x y=some k):ZaH f dx dy=some k:=by
 cases r with
 |int i=>
  cases s with
  |int j=>exact h
  |_=>exact Zb h
 |_=>exact Zb h
theorem Zjy{fz:Fz}(r:Rel fz st x dx)(s:Rel fz st y dy)(h:ltP x y=some k):ltD dx dy=some k:=by exact VE r s h
theorem Zg3{fz:Fz}(r:Rel fz st x dx)(s:Rel fz st y dy)(h:Zlo x y=some k):ltS st dx dy=some k:=by exact Zjy r s h
theorem QO{a b:Ot Bool}{f:Bool->Bool}{k:Bool}(h:∀ k,a=some k->b=some k)(e:a.map f=some k):b.map f=some k:=by
 cases q:a with
 |none=>rw[q]at e;cases e
 |some k'=>rw[h k' q];rw[q]at e;exact e
theorem Zbp{fz:Fz}(r:Rel fz st x dx)(s:Rel fz st y dy)(h:Zjp x y=some k):inS st dx dy=some k:=by
 cases r with
 |str z=>
  cases s with
  |tup rr=>exact Zbq rr h
  |str w=>exact h
  |kt ks=>exact h
  |_=>exact Zb h
 |_=>exact Zb h
theorem Zbr{fz:Fz}(r:Rel fz st x dx)(s:Rel fz st y dy)(h:Zjt x y=some k):isD dx dy=some k:=by
 cases s with
 |non=>cases r<;>first|exact h|cases h
 |bl b=>cases r<;>first|exact h|cases h
 |_=>exact Zb h
theorem Rels.rev{fz:Fz}:∀ {ps:Li P}{ds:Li D},Rels fz st ps ds->Rels fz st ps.reverse ds.reverse
 |_,_,.nil=>.nil
 |_,_,.cons a r=>by
  rw[cU,cU];exact(Rels.rev r).append (.cons a .nil)
theorem Zj8{fz:Fz}(r:Rels fz st ps ds)(h:ZcY k ps=some qs):∃ es,rsL k ds=some es/\Rels fz st qs es:=by
 cases k with
 |false=>
  cases h;exact⟨_,rfl,r.rev⟩
 |true=>
  have h:ZaQ ps=some qs:=h;unfold ZaQ at h;split at h
  ·rename_i i j
   cases h;cases r with
   |cons a r=>
    cases a;cases r with
    |cons a r=>
     cases a;cases r;refine⟨_,rfl,?_⟩;split
     ·exact .cons (.int _) (.cons (.int _) .nil)
     ·exact .cons (.int _) (.cons (.int _) .nil)
  ·exact Zb h
theorem Zmu(k:Bool):ZiJ (rsD k) (rsP k):=by
 intro fz st x dx m ps b r h;cases r with
 |@lst j m0 ps0 ds hz hs r=>
  have h:(ZcY k ps0).map (fun ys=>P.lst true ys)=some (.lst m ps):=h
  cases q:ZcY k ps0 with
  |none=>rw[q]at h;cases h
  |some qs=>
   rw[q]at h;cases h;obtain⟨es,e1,e2⟩:=Zj8 r q;exact⟨es,by unfold rsD;simp only[hs,e1],e2⟩
 |_=>exact Zb h
theorem ZmL(k:Bool):Op1 (rsD k) (rsP k):=by
 intro fz st x dx p b r h;cases r with
 |@lst j m ps0 ds hz hs r=>
  have h':(ZcY k ps0).map (fun ys=>P.lst true ys)=some p:=h
  cases q:ZcY k ps0 with
  |none=>rw[q]at h';cases h'
  |some qs=>
   rw[q]at h';cases h';exact(Zmu k fz st _ _ true qs b (.lst hz hs r) h).gives b
 |_=>exact Zb h
theorem ZlA:Op2 Zc8 Zh2:=by
 intro fz st x y dx dy p b r s h;cases r with
 |str z=>
  cases s with
  |@tup ps ds s=>
   cases s with
   |nil=>exact Zb h
   |cons a s=>
    cases s with
    |cons _ _=>cases a<;>cases h
    |nil=>
     cases a with
     |str k=>
      have h:(if k.length=1/\z.length<=Zc then some (P.lst true ((Vg z k).map .str)) else none)=some p:=h
      split at h
      ·rename_i c
       cases h;have e:Zc8 (.str z) (.tup [.str k]) st=some (.lst st.length,st++[(true,(Vg z k).map .str)]):=if_pos c;exact Makes.gives b ⟨_,e,X4 _⟩
      ·exact Zb h
     |_=>exact Zb h
  |_=>exact Zb h
 |_=>exact Zb h
theorem ZjI(ks:Li Str)(ds:Li D):Op1 (U4 ks ds) (Ui ks ds):=by
 intro fz st x dx p b r h;cases r with
 |str k=>
  have h:(ZW ks ds k).bind ofD=some p:=h;cases q:ZW ks ds k with
  |none=>rw[q]at h;cases h
  |some d=>
   rw[q]at h;have e:U4 ks ds (.str k) st=some (d,st):=by unfold U4;simp only[q]
   rw[e];exact .same b (Rel.ofConst h)
 |_=>exact Zb h
theorem UP{fz:Fz}{st:Za}:∀ {ps:Li P}{ds:Li D}{bs:Li Bool},Rels fz st ps ds->XJ ps=some bs->XI ds=some bs
 |_,_,_,.nil,h=>h
 |p :: ps,d :: ds,bs,.cons a r,h=>by
  cases a with
  |bl b=>
   have h:(XJ ps).map (b :: ·)=some bs:=h;show(XI ds).map (b :: ·)=some bs;cases q:XJ ps with
   |none=>rw[q]at h;cases h
   |some l=>rw[q]at h;rw[UP r q];exact h
  |_=>exact Zb h
theorem Zhf(f:Li Bool->Bool):Op1 (Vc f) (X2 f):=by
 intro fz st x dx p b r h;cases r with
 |@lst j m ps ds hz hs r=>
  unfold X2 at h;simp only at h;split at h
  ·rename_i bs q
   cases h;have e:Vc f (.lst j) st=some (.bl (f bs),st):=by unfold Vc;simp only[hs,UP r q]
   rw[e];exact .same b (.bl _)
  ·exact Zb h
 |_=>exact Zb h
theorem Zls(op:CmpOp):Op2 (XL op) (YD op):=by
 intro fz st x y dx dy p b r s h;have h:(Zgi op x y).map P.bl=some p:=h;cases q:Zgi op x y with
 |none=>rw[q]at h;cases h
 |some k=>
  rw[q]at h;cases h
  have e:Wj op dx dy st=some k:=by
   cases op with
   |Lt=>exact Zg3 r s q
   |LtE=>exact VE r s q
   |Gt=>exact VE r s q
   |GtE=>exact VE r s q
   |Eq=>exact Zar r s q
   |NotEq=>exact QO (fun k=>Zar r s) q
   |In=>exact Zbp r s q
   |NotIn=>
    replace q:niP x y=some k:=q;show niS st dx dy=some k;cases s with
    |dct _=>exact Zb q
    |_=>exact QO (fun k=>Zbp r (by constructor<;>assumption)) q
   |Is=>exact Zbr r s q
   |IsNot=>exact QO (fun k=>Zbr r s) q
  have e2:XL op dx dy st=some (.bl k,st):=by unfold XL;rw[e]
  rw[e2];exact .same b (.bl k)
theorem Za9{op:Operator}{fz:Fz}(b:Bd fz st)(r:Rel fz st x dx)(s:Rel fz st y dy)(h:XH op x y=some p):(∃ d,Ja op dx dy st=some (d,st)/\Rel fz st p d/\∀ m ps,p≠.lst m ps)\/∃ ps,p=.lst true ps/\Makes fz st (Ja op dx dy st) true ps:=by
 cases r with
 |@lst ja ma pa da hz hs rr=>
  cases s with
  |@lst jb mb pb db hz' hs' rr'=>
   have h:(if Xh op=true/\pa.length+pb.length<=Zc then some (P.lst true (pa++pb)) else none)=some p:=h
   split at h
   ·rename_i c
    cases h;refine .inr ⟨_,rfl,_,?_,rr.append rr'⟩;show(if Xh op=true then Zgf ja jb st else none)=_
    unfold Zgf;rw[if_pos c.1,hs,hs'];exact if_pos (by rw[<-rr.length,<-rr'.length];exact c.2)
   ·exact Zb h
  |int j=>
   have h:(if Uf op=true then Zfn ma pa j else none)=some p:=h
   split at h
   ·rename_i c
    cases ma with
    |false=>exact Zb h
    |true=>cases rr with
     |nil=>exact Zb h
     |@cons p0 _ _ _ a rr=>cases rr with
      |cons _ _=>exact Zb h
      |nil=>
       have h:(if j<=1000/\-1000<=j then some (P.lst true (List.replicate j.toNat p0)) else none)=some p:=h
       split at h
       ·rename_i c2
        cases h;refine .inr ⟨_,rfl,_,?_,Rels.rep a _⟩;show(if Uf op=true then Zhw ja j st else none)=_
        unfold Zhw;rw[if_pos c,hs];exact if_pos c2
       ·exact Zb h
   ·exact Zb h
  |_=>exact Zb h
 |@tup pa da r1=>cases s with
  |@tup pb db s1=>
   have h:(if Xh op=true/\pa.length+pb.length<=Zc then some (P.tup (pa++pb)) else none)=some p:=h
   split at h
   ·rename_i c
    cases h;exact .inl ⟨_,if_pos ⟨c.1,by rw[<-r1.length,<-s1.length];exact c.2⟩,.tup (r1.append s1),fun _ _ z=>nomatch z⟩
   ·exact Zb h
  |_=>exact Zb h
 |int i=>cases s with
  |int j=>
   have h:(match Zak op i j with
    |some k=>some (P.int k)
    |none=>none)=some p:=h
   have z:Ja op (.int i) (.int j) st=(match Zak op i j with
    |some k=>some (D.int k,st)
    |none=>none):=rfl
   rw[z];cases q:Zak op i j with
   |none=>rw[q]at h;cases h
   |some k=>rw[q]at h;cases h;exact .inl ⟨_,rfl,.int _,fun _ _ z=>nomatch z⟩
  |_=>exact Zb h
 |str x=>cases s with
  |str y=>
   have h:(if Xh op=true/\x.length+y.length<=Zc then some (P.str (x++y)) else none)=some p:=h
   split at h
   ·rename_i c
    cases h;exact .inl ⟨_,if_pos c,.str _,fun _ _ z=>nomatch z⟩
   ·exact Zb h
  |_=>exact Zb h
 |_=>exact Zb h
theorem Zk7(op:Operator):ZkN (Ja op) (XH op):=by
 intro fz st x y dx dy m ps b r s h;rcases Za9 b r s h with⟨_,_,_,n⟩|⟨qs,e,mk⟩
 ·exact absurd rfl (n _ _)
 ·cases e;exact mk
theorem Zlr(op:Operator):Op2 (Ja op) (XH op):=by
 intro fz st x y dx dy p b r s h;rcases Za9 b r s h with⟨d,e,rp,_⟩|⟨qs,e,mk⟩
 ·rw[e];exact .same b rp
 ·cases e;exact mk.gives b
theorem ZhY{fz:Fz}(b:Bd fz st)(r:Rel fz st x dx)(h:Ys x lo hi=some p):(∃ d,Yx dx lo hi st=some (d,st)/\Rel fz st p d/\∀ m ps,p≠.lst m ps)\/∃ ps,p=.lst true ps/\Makes fz st (Yx dx lo hi st) true ps:=by
 cases r with
 |@tup ps ds r=>
  have h:(if sIx ps.length 0 lo=0/\sIx ps.length ps.length hi=ps.length then some (P.tup ps) else some (P.tup (Zcm ps lo hi)))=some p:=h
  split at h
  ·rename_i c
   cases h;refine .inl ⟨_,?_,.tup r,fun _ _ z=>nomatch z⟩
   unfold Yx;simp only;rw[if_pos (by rw[<-r.length];exact c)]
  ·rename_i c
   cases h;refine .inl ⟨_,?_,.tup (Zbf r),fun _ _ z=>nomatch z⟩
   unfold Yx;simp only;rw[if_neg (by rw[<-r.length];exact c)]
 |@lst j m ps ds hz hs r=>
  cases h;refine .inr ⟨_,rfl,_,?_,Zbf r⟩;unfold Yx;simp only[hs]
 |str x=>
  have h:(if x.length<=Zc then some (P.str (W0 x lo hi)) else none)=some p:=h
  split at h
  ·rename_i c
   cases h;exact .inl ⟨_,if_pos c,.str _,fun _ _ z=>nomatch z⟩
  ·exact Zb h
 |_=>exact Zb h
theorem Zkp{fz:Fz}{z:P}{dx dz:D}(s1:Rel fz st y dy)(s2:Rel fz st z dz)(h:Us x y z=some p):∃ lo hi,Ys x lo hi=some p/\∀ dx,Ve dx dy dz st=Yx dx lo hi st:=by
 unfold Us at h;split at h
 ·cases s1;cases s2;exact⟨_,_,h,fun _=>rfl⟩
 ·cases s1;cases s2;exact⟨_,_,h,fun _=>rfl⟩
 ·cases s1;cases s2;exact⟨_,_,h,fun _=>rfl⟩
 ·cases s1;cases s2;exact⟨_,_,h,fun _=>rfl⟩
 ·exact Zb h
theorem Zhg:Op3 Ve Us:=by
 intro fz st x y z dx dy dz p b r s1 s2 h;obtain⟨lo,hi,h0,e⟩:=Zkp (dx:=dx) s1 s2 h;rw[e];rcases ZhY b r h0 with⟨d,e1,rr,_⟩|⟨ps,rfl,mk⟩
 ·rw[e1];exact .same b rr
 ·exact mk.gives b
end
noncomputable abbrev PFn:=Nat->Li P->Ot P
def ZkK(F:Fn)(G:Li P->Ot P):Prop:=∀ ps m xs,G ps=some (.lst m xs)->∀ fz st ds,Bd fz st->Rels fz st ps ds->∃ j es st' fz1,F ds st=some (.lst j,st')/\st'[j]?=some (m,es)/\Next fz st fz1 st'/\¬fz1 j/\st.length<=j/\Rels fz1 st' xs es
def YK(F:Nat->Fn)(G:PFn):Prop:=(∀ i ps p,G i ps=some p->∀ fz st ds,Bd fz st->Rels fz st ps ds->Gives fz st (F i ds st) p)/\∀ i,U1 i=true->ZkK (F i) (G i)
def EnvAll(fz:Fz)(st:Za)(π:Zt)(ρ:Env):Prop:=∀ (i:Nat) (p:P),π[i]?=some (some p)->∃ d,ρ[i]?=some (some d)/\Rel fz st p d
variable{fz':Fz}{st':Za}{π:Zt}{ρ:Env}
theorem EnvAll.next{fz:Fz}(b:Bd fz st)(x:Next fz st fz' st')(h:EnvAll fz st π ρ):EnvAll fz' st' π ρ:=fun i p e=>
 let ⟨d,e1,r⟩:=h i p e;⟨d,e1,r.next b x⟩
def SEP(f:Ev)(g:PEv):Prop:=∀ π p,g π=some p->∀ fz st ρ,Bd fz st->EnvAll fz st π ρ->Gives fz st (f ρ st) p
def SFP(f:Ev)(g:PEv):Prop:=∀ π m ps,g π=some (.lst m ps)->∀ fz st ρ,Bd fz st->EnvAll fz st π ρ->∃ j ds st' fz1,f ρ st=some (.lst j,st')/\st'[j]?=some (m,ds)/\Next fz st fz1 st'/\¬fz1 j/\st.length<=j/\Rels fz1 st' ps ds
variable{st1:Za}{O:P->P->Ot P}{rng:Bool}{bd:D->Li (Ot D)}{gw:P->Ot (Li P)}{dw:D->Za->Ot (Li D×(Za->Prop))}{fr:Li Nat}{gi ge:PEv}
section
variable {f fa fb fc:Ev}{g ga gb gc:PEv}
theorem Makes.fresh{fz fz1:Fz}{r:Res}(x:Next fz st fz1 st1)(h:Makes fz1 st1 r m ps) :
  ∃ j ds st' fz2,r=some (.lst j,st')/\st'[j]?=some (m,ds)/\Next fz st fz2 st'/\¬fz2 j/\st.length<=j/\Rels fz2 st' ps ds:=by
 obtain⟨ds,e,rr⟩:=h;refine⟨_,ds,_,fz1,e,ZiC,x.trans (Zfg x.bd),fun z=>?_,x.len,rr.next x.bd (Zfg x.bd)⟩
 exact absurd (x.bd _ z) (by omega)
theorem s1{o:D->Za->Res}{O:P->Ot P}(h:SEP f g)(k:Op1 o O):SEP (ZJ f o) (pq1 g O):=by
 intro π p e fz st ρ b E;unfold pq1 at e;split at e
 ·rename_i x q
  obtain⟨d,st1,fz1,e1,n1,r1⟩:=h π x q fz st ρ b E;obtain⟨d2,st2,fz2,e2,n2,r2⟩:=k fz1 st1 x d p n1.bd r1 e;exact⟨d2,st2,fz2,by unfold ZJ;rw[e1];exact e2,n1.trans n2,r2⟩
 ·exact Zb e
theorem s1F{o:D->Za->Res}{O:P->Ot P}(h:SEP f g)(k:ZiJ o O):SFP (ZJ f o) (pq1 g O):=by
 intro π m ps e fz st ρ b E;unfold pq1 at e;split at e
 ·rename_i x q
  obtain⟨d,st1,fz1,e1,n1,r1⟩:=h π x q fz st ρ b E;have mk:=k fz1 st1 x d m ps n1.bd r1 e;have e3:ZJ f o ρ st=o d st1:=by unfold ZJ;rw[e1]
  rw[e3];exact mk.fresh n1
 ·exact Zb e
theorem s2{o:D->D->Za->Res}(ha:SEP fa ga)(hb:SEP fb gb)(k:Op2 o O):SEP (ZV fa fb o) (pq2 ga gb O):=by
 intro π p e fz st ρ b E;unfold pq2 at e;split at e
 ·rename_i x q
  split at e
  ·rename_i y q'
   obtain⟨d,st1,fz1,e1,n1,r1⟩:=ha π x q fz st ρ b E;obtain⟨d2,st2,fz2,e2,n2,r2⟩:=hb π y q' fz1 st1 ρ n1.bd (E.next b n1);obtain⟨d3,st3,fz3,e3,n3,r3⟩:=k fz2 st2 x y d d2 p n2.bd (r1.next n1.bd n2) r2 e;exact⟨d3,st3,fz3,by unfold ZV;rw[e1];simp only[e2];exact e3,(n1.trans n2).trans n3,r3⟩
  ·exact Zb e
 ·exact Zb e
theorem s2F{o:D->D->Za->Res}(ha:SEP fa ga)(hb:SEP fb gb)(k:ZkN o O):SFP (ZV fa fb o) (pq2 ga gb O):=by
 intro π m ps e fz st ρ b E;unfold pq2 at e;split at e
 ·rename_i x q
  split at e
  ·rename_i y q'
   obtain⟨d,st1,fz1,e1,n1,r1⟩:=ha π x q fz st ρ b E;obtain⟨d2,st2,fz2,e2,n2,r2⟩:=hb π y q' fz1 st1 ρ n1.bd (E.next b n1);have mk:=k fz2 st2 x y d d2 m ps n2.bd (r1.next n1.bd n2) r2 e;have e3:ZV fa fb o ρ st=o d d2 st2:=by unfold ZV;rw[e1];simp only[e2]
   rw[e3];exact mk.fresh (n1.trans n2)
  ·exact Zb e
 ·exact Zb e
theorem s3{o:D->D->D->Za->Res}{O:P->P->P->Ot P}(ha:SEP fa ga)(hb:SEP fb gb)(hc:SEP fc gc)(k:Op3 o O):SEP (Zfv fa fb fc o) (pq3 ga gb gc O):=by
 intro π p e fz st ρ b E;unfold pq3 at e;split at e
 ·rename_i x q
  split at e
  ·rename_i y q'
   split at e
   ·rename_i z q''
    obtain⟨d,st1,fz1,e1,n1,r1⟩:=ha π x q fz st ρ b E;obtain⟨d2,st2,fz2,e2,n2,r2⟩:=hb π y q' fz1 st1 ρ n1.bd (E.next b n1);obtain⟨d3,st3,fz3,e3,n3,r3⟩:=hc π z q'' fz2 st2 ρ n2.bd (E.next b (n1.trans n2));obtain⟨d4,st4,fz4,e4,n4,r4⟩:=k fz3 st3 x y z d d2 d3 p n3.bd (r1.next n1.bd (n2.trans n3)) (r2.next n2.bd n3) r3 e;exact⟨d4,st4,fz4,by unfold Zfv;rw[e1];simp only[e2,e3];exact e4,((n1.trans n2).trans n3).trans n4,r4⟩
   ·exact Zb e
  ·exact Zb e
 ·exact Zb e
theorem sC(h:∀ fz st,Rel fz st p d):SEP (evC d) (fun _=>some p):=by
 intro π q e fz st ρ b E;cases e;exact .same b (h fz st)
theorem Zfp(hc:SEP fc gc)(ha:SEP fa ga)(hb:SEP fb gb):SEP (YG fc fa fb) (YL gc ga gb):=by
 intro π p e fz st ρ b E;unfold YL at e;split at e
 ·rename_i q
  obtain⟨d,st1,fz1,e1,n1,r1⟩:=hc π _ q fz st ρ b E;cases r1;obtain⟨d2,st2,fz2,e2,n2,r2⟩:=ha π p e fz1 st1 ρ n1.bd (E.next b n1);exact⟨d2,st2,fz2,by unfold YG;rw[e1];exact e2,n1.trans n2,r2⟩
 ·rename_i q
  obtain⟨d,st1,fz1,e1,n1,r1⟩:=hc π _ q fz st ρ b E;cases r1;obtain⟨d2,st2,fz2,e2,n2,r2⟩:=hb π p e fz1 st1 ρ n1.bd (E.next b n1);exact⟨d2,st2,fz2,by unfold YG;rw[e1];exact e2,n1.trans n2,r2⟩
 ·exact Zb e
theorem Znj(i:Nat):SEP (Xe i) (JR i):=by
 intro π p e fz st ρ b E;unfold JR at e;split at e
 ·rename_i q
  cases e;obtain⟨d,e1,r⟩:=E i _ q;exact⟨d,st,fz,by unfold Xe;rw[e1],Next.refl b,r⟩
 ·exact Zb e
theorem ZlK{F:Fn}{G:Li P->Ot P}(hF:∀ ps p,G ps=some p->∀ fz st es,Bd fz st->Rels fz st ps es->Gives fz st (F es st) p):Op1 (Jg F ds) (UR G ds):=by
 intro fz st x dx p b r h;cases r with
 |@tup ps es r=>
  have h:(match Vz ds with
   |some es=>G (ps++es)
   |none=>none)=some p:=h
  split at h
  ·rename_i qs q
   exact hF _ p h fz st (es++ds) b (r.append (Rels.ofConst q))
  ·exact Zb h
 |_=>exact Zb h
theorem ZcV{fz:Fz}(n:Nat):Rels fz st ((List.range n).map fun(k:Nat)=>P.int (k:Int)) ((List.range n).map fun(k:Nat)=>D.int (k:Int)):=by
 generalize List.range n=l
 induction l with
 |nil=>exact .nil
 |cons a l ih=>exact .cons (.int _) ih
theorem U2{fz:Fz}(r:Rel fz st x dx)(h:QF rng x=some xs):∃ ds,XV rng dx=some ds/\Rels fz st xs ds:=by
 cases rng with
 |true=>
  cases r with
  |int n=>
   have h:(if n < 2 ^ 62/\-(2 ^ 62)<=n then some (Xv n) else none)=some xs:=h
   split at h
   ·rename_i c
    cases h;refine⟨_,by unfold XV;simp only;rw[if_pos c],ZcV _⟩
   ·exact Zb h
  |_=>exact Zb h
 |false=>
  cases r with
  |tup r=>cases h;exact⟨_,rfl,r⟩
  |_=>exact Zb h
theorem UZ{fz:Fz}{st:Za}:∀ (l:Li Int),Rels fz st (l.map P.int) (l.map D.int)
 |[]=>.nil
 |i :: l=>.cons (.int i) (UZ l)
theorem Zda{fz:Fz}(b:Bd fz st)(r:Rel fz st x dx)(h:Xp rng x=some xs):∃ ds ok,J7 rng dx st=some (ds,ok)/\Rels fz st xs ds/\∀ fz' st',Next fz st fz' st'->ok st':=by
 unfold Xp at h;split at h
 ·rename_i ys q
  cases h;obtain⟨ds,e,rr⟩:=U2 r q;exact⟨ds,_,by unfold J7;rw[e],rr,fun _ _ _=>trivial⟩
 ·split at h
  ·cases h
   cases r with
   |@lst j m ps ds hz hs r=>
    rename_i m _;refine⟨ds,fun s=>s[j]?=some (m,ds),?_,r,fun fz' st' n=>?_⟩
    ·unfold J7 XV
     simp only[hs]
    ·exact(n.old j (b j hz)).trans hs
  ·rename_i x _
   split at h
   ·rename_i c
    cases h;cases r;refine⟨(chS x).map D.str,fun _=>True,?_,X4 _,fun _ _ _=>trivial⟩
    unfold J7 XV;simp only;rw[if_pos c]
   ·cases h
  ·cases h
   cases r with
   |dct r=>cases r with
    |cons r1 r=>cases r with
     |cons r2 r=>
      cases r;cases r1;cases r2
      exact⟨_,fun _=>True,rfl,UZ _,fun _ _ _=>trivial⟩
  ·cases h
theorem Zaa{fz:Fz}{st:Za}:∀ {xs ys:Li P}{ds es:Li D},Rels fz st xs ds->Rels fz st ys es->Rels fz st (ZbU xs ys) (J8 ds es)
 |_,_,_,_,.nil,_=>.nil
 |_,_,_,_,.cons _ _,.nil=>.nil
 |_,_,_,_,.cons a r,.cons b s=>.cons (.tup (.cons a (.cons b .nil))) (Zaa r s)
theorem Zdc{fz:Fz}(b:Bd fz st)(r:Rel fz st x dx)(h:X7 x=some xs):∃ ds ok,Uz dx st=some (ds,ok)/\Rels fz st xs ds/\∀ fz' st',Next fz st fz' st'->ok st':=by
 unfold X7 at h;split at h
 ·cases h
  cases r with
  |tup r=>cases r with
   |cons a r=>cases r with
    |cons c r=>
     cases r;cases a with
     |@lst j m _ ds hz hs ra=>cases c with
      |@tup _ es rc=>exact⟨J8 ds es,fun s=>s[j]?=some (_,ds),by unfold Uz;simp only[hs],Zaa ra rc,fun fz' st' n=>(n.old j (b j hz)).trans hs⟩
 ·cases h
def Q4(gb:P->Li (Ot P))(bd:D->Li (Ot D)):Prop:=∀ fz st x d,Rel fz st x d->(gb x).length=(bd d).length/\EnvAll fz st (gb x) (bd d)
theorem Zhj:Q4 Zfd one:=fun fz st x d r=>⟨rfl,fun i p e=>by
 cases i with
 |zero=>cases e;exact⟨d,rfl,r⟩
 |succ i=>exact nomatch (show(none:Ot (Ot P))=some (some p) from e)⟩
theorem Zh4:Q4 QX two:=fun fz st x d r=>by
 have no:∀ {l:Li (Ot D)},EnvAll fz st [] l:=fun i p e=>nomatch (show(none:Ot (Ot P))=some (some p) from e)
 cases r with
 |tup r=>cases r with
  |nil=>exact⟨rfl,no⟩
  |cons a r=>cases r with
   |nil=>exact⟨rfl,no⟩
   |cons b r=>cases r with
    |cons c r=>exact⟨rfl,no⟩
    |nil=>exact⟨rfl,fun i p e=>by
     cases i with
     |zero=>cases e;exact⟨_,rfl,a⟩
     |succ i=>cases i with
      |zero=>cases e;exact⟨_,rfl,b⟩
      |succ i=>exact nomatch (show(none:Ot (Ot P))=some (some p) from e)⟩
 |_=>exact⟨rfl,no⟩
theorem V0{gb:P->Li (Ot P)}{bd:D->Li (Ot D)}(hb:Q4 gb bd){ok:Za->Prop}{fe fc:Ev}{ge gc:PEv}(he:SEP fe ge)(hc:SEP fc gc){fr:Li Nat}{π:Zt}{ρ:Env}:∀ {xs:Li P}{ds:Li D}{ys:Li P}{fz:Fz}{st:Za},Bd fz st->EnvAll fz st π ρ->Rels fz st xs ds->(∀ fz' st',Next fz st fz' st'->ok st')->
   YF (fun p=>ge (YM gb π fr p)) (fun p=>gc (YM gb π fr p)) xs=some ys->∃ es st' fz',YE ok (fun d s=>fe (Y8 bd ρ fr d) s) (fun d s=>fc (Y8 bd ρ fr d) s) ds st=some (es,st')/\Next fz st fz' st'/\Rels fz' st' ys es
 |_,_,ys,fz,st,b,E,.nil,hok,h=>by cases h;exact⟨[],st,fz,if_pos (hok _ _ (Next.refl b)),Next.refl b,.nil⟩
 |x :: xs,d :: ds,ys,fz,st,b,E,.cons a r,hok,h=>by
  have ok0:=hok _ _ (Next.refl b);obtain⟨hl,hbe⟩:=hb fz st x d a;have E1:EnvAll fz st (YM gb π fr x) (Y8 bd ρ fr d):=by
   intro i p e;unfold YM at e;unfold Y8;by_cases hi:i < (gb x).length
   ·rw[aZ hi]at e
    rw[aZ (by rw[<-hl];exact hi)]
    exact hbe i p e
   ·have hi:(gb x).length<=i:=dA hi
    rw[bF hi,aQ]at e;rw[bF (by rw[<-hl];exact hi),aQ,<-hl]
    cases q:fr[i - (gb x).length]? with
    |none=>rw[q]at e;cases e
    |some k=>
     rw[q]at e;have e:(π[k]?).join=some p:=by simpa using e
     have e2:π[k]?=some (some p):=by
      cases q2:π[k]? with
      |none=>rw[q2]at e;cases e
      |some o=>rw[q2]at e;rw[show o=some p from e]
     obtain⟨d',e3,r3⟩:=E k p e2;exact⟨d',by simp[e3],r3⟩
  unfold YF at h;split at h
  ·rename_i q
   split at h
   ·rename_i y q1
    split at h
    ·rename_i zs q2
     cases h;obtain⟨dc,st1,fz1,e1,n1,r1⟩:=hc _ _ q fz st _ b E1;cases r1;obtain⟨dy,st2,fz2,e2,n2,r2⟩:=he _ _ q1 fz1 st1 _ n1.bd (E1.next b n1);obtain⟨es,st3,fz3,e3,n3,r3⟩:=V0 hb he hc n2.bd (E.next b (n1.trans n2)) (r.next b (n1.trans n2)) (fun _ _ n=>hok _ _ ((n1.trans n2).trans n)) q2
     refine⟨dy :: es,st3,fz3,?_,(n1.trans n2).trans n3,.cons (r2.next n2.bd n3) r3⟩;unfold YE;rw[if_pos ok0];simp only[e1,e2,e3]
    ·exact Zb h
   ·exact Zb h
  ·rename_i q
   obtain⟨dc,st1,fz1,e1,n1,r1⟩:=hc _ _ q fz st _ b E1;cases r1;obtain⟨es,st3,fz3,e3,n3,r3⟩:=V0 hb he hc n1.bd (E.next b n1) (r.next b n1) (fun _ _ n=>hok _ _ (n1.trans n)) h
   refine⟨es,st3,fz3,?_,n1.trans n3,r3⟩;unfold YE;rw[if_pos ok0];simp only[e1];exact e3
  ·exact Zb h
theorem Zj9{gb:P->Li (Ot P)}(hb:Q4 gb bd)(hw:∀ {fz:Fz}{st:Za}{x:P}{dx:D}{xs:Li P},Bd fz st->Rel fz st x dx->gw x=some xs->∃ ds ok,dw dx st=some (ds,ok)/\Rels fz st xs ds/\∀ fz' st',Next fz st fz' st'->ok st'){fi fe:Ev}(hi:SEP fi gi)(he:SEP fe ge)(hc:SEP fc gc)(e:Yj gb gw fr gi ge gc π=some p){fz:Fz}{st:Za}(b:Bd fz st)(E:EnvAll fz st π ρ) :
  ∃ ps ds st1 fz1,p=.lst true ps/\VZ bd dw fr fi fe fc ρ st=some (.lst st1.length,st1++[(true,ds)])/\Next fz st fz1 st1/\Rels fz1 st1 ps ds:=by
 unfold Yj at e;split at e
 ·rename_i x q
  split at e
  ·rename_i xs q1
   split at e
   ·rename_i c
    split at e
    ·rename_i ys q2
     cases e;obtain⟨d,st1,fz1,e1,n1,r1⟩:=hi π x q fz st ρ b E;obtain⟨ds,ok,e2,r2,hok⟩:=hw n1.bd r1 q1;obtain⟨es,st3,fz3,e3,n3,r3⟩:=V0 hb he hc (fr:=fr) n1.bd (E.next b n1) r2 hok q2;refine⟨ys,es,st3,fz3,rfl,?_,n1.trans n3,r3⟩;unfold VZ;simp only[e1,e2];rw[if_pos (by rw[<-r2.length];exact c)]
     simp only[e3]
    ·exact Zb e
   ·exact Zb e
  ·exact Zb e
 ·exact Zb e
theorem ZiB{gb:P->Li (Ot P)}(hb:Q4 gb bd)(hw:∀ {fz:Fz}{st:Za}{x:P}{dx:D}{xs:Li P},Bd fz st->Rel fz st x dx->gw x=some xs->∃ ds ok,dw dx st=some (ds,ok)/\Rels fz st xs ds/\∀ fz' st',Next fz st fz' st'->ok st'){fi fe:Ev}(hi:SEP fi gi)(he:SEP fe ge)(hc:SEP fc gc):SEP (VZ bd dw fr fi fe fc) (Yj gb gw fr gi ge gc):=by
 intro π p e fz st ρ b E;obtain⟨ps,ds,st1,fz1,rfl,e1,n1,r1⟩:=Zj9 hb hw hi he hc e b E;exact⟨_,_,_,e1,n1.trans (ZaK n1.bd),JQ n1.bd r1⟩
end
theorem Zd{F:Nat->Fn}{G:PFn}(hF:YK F G):∀ e:CE,SEP (ev F e) (pe G e)
 |.var i=>Znj i
 |.cst d=>by
  intro π p e fz st ρ b E;exact .same b (Rel.ofConst e)
 |.bin op a b=>s2 (Zd hF a) (Zd hF b) (Zlr op)
 |.neg a=>s1 (Zd hF a) Zly
 |.cmp op a b=>s2 (Zd hF a) (Zd hF b) (Zls op)
 |.not a=>s1 (Zd hF a) Zlz
 |.and a b=>Zfp (Zd hF a) (Zd hF b) (sC fun _ _=>.bl false)
 |.or a b=>Zfp (Zd hF a) (sC fun _ _=>.bl true) (Zd hF b)
 |.ife c a b=>Zfp (Zd hF c) (Zd hF a) (Zd hF b)
 |.tupE a=>Zd hF a
 |.lstE a=>s1 (Zd hF a) Zlv
 |.aN=>sC fun _ _=>.tup .nil
 |.aC a r=>s2 (Zd hF a) (Zd hF r) ZjF
 |.ix a b=>s2 (Zd hF a) (Zd hF b) ZmK
 |.slice a lo hi=>s3 (Zd hF a) (Zd hF lo) (Zd hF hi) Zhg
 |.nop=>sC fun _ _=>.non
 |.part a=>s1 (Zd hF a) ZjJ
 |.call f a ds=>s1 (Zd hF a) (ZlK (hF.1 f))
 |.len a=>s1 (Zd hF a) ZjH
 |.tOf a=>s1 (Zd hF a) Zhh
 |.listOf _=>fun _ r e=>nomatch (show(none:Ot P)=some r from e)
 |.intOf a=>s1 (Zd hF a) Zlt
 |.min a b=>s2 (Zd hF a) (Zd hF b) Zlx
 |.max a b=>s2 (Zd hF a) (Zd hF b) Zlw
 |.isi T a=>s1 (Zd hF a) (Zlu T)
 |.rs k a=>s1 (Zd hF a) (ZmL k)
 |.inv _=>fun _ r e=>nomatch (show(none:Ot P)=some r from e)
 |.tupR _=>fun _ r e=>nomatch (show(none:Ot P)=some r from e)
 |.look ks ds a=>s1 (Zd hF a) (ZjI ks ds)
 |.dget _ _ _=>fun _ r e=>nomatch (show(none:Ot P)=some r from e)
 |.inR _ _ _=>fun _ r e=>nomatch (show(none:Ot P)=some r from e)
 |.all a=>s1 (Zd hF a) (Zhf _)
 |.any _=>fun _ r e=>nomatch (show(none:Ot P)=some r from e)
 |.comp rng fr it elt cnd=>ZiB Zhj Zda (Zd hF it) (Zd hF elt) (Zd hF cnd)
 |.comp2 fr it elt cnd=>ZiB Zh4 Zdc (Zd hF it) (Zd hF elt) (Zd hF cnd)
 |.compT _ _ _ _=>fun _ r e=>nomatch (show(none:Ot P)=some r from e)
 |.lstR _ _=>fun _ r e=>nomatch (show(none:Ot P)=some r from e)
 |.new _=>fun _ r e=>nomatch (show(none:Ot P)=some r from e)
 |.meth _ _ _=>fun _ r e=>nomatch (show(none:Ot P)=some r from e)
 |.isc _ _=>fun _ r e=>nomatch (show(none:Ot P)=some r from e)
 |.tix o a=>s2 (Zd hF o) (Zd hF a) ZlA
 |.dict _ _=>fun _ r e=>nomatch (show(none:Ot P)=some r from e)
 |.dnew=>fun _ r e=>nomatch (show(none:Ot P)=some r from e)
 |.strOf a=>s1 (Zd hF a) ZjK
 |.joinE a b=>s2 (Zd hF a) (Zd hF b) ZjG
 |.starts a b=>s2 (Zd hF a) (Zd hF b) ZeU
 |.rng2 _ _=>fun _ r e=>nomatch (show(none:Ot P)=some r from e)
 |.srt _=>fun _ r e=>nomatch (show(none:Ot P)=some r from e)
variable{F:Nat->Fn}
theorem J1{G:PFn}(hF:YK F G):∀ e:CE,WK e=true->SFP (ev F e) (pe G e)
 |.bin op a b,_=>s2F (Zd hF a) (Zd hF b) (Zk7 op)
 |.lstE a,_=>s1F (Zd hF a) Zil
noncomputable def XT(M:Li Nat)(π:Zt):Zt:=π.mapIdx fun i x=>if M.contains i then none else x
variable{M:Li Nat}{i:Nat}
theorem V7(h:M.contains i=false):(XT M π)[i]?=π[i]?:=by
 unfold XT;rw[List.getElem?_mapIdx];cases q:π[i]? with
 |none=>rfl
 |some x=>
  show some (if M.contains i then none else x)=some x
  rw[h];rfl
theorem ZdZ(h:(XT M π)[i]?=some (some p)):M.contains i=false/\π[i]?=some (some p):=by
 unfold XT at h;rw[List.getElem?_mapIdx]at h;cases q:π[i]? with
 |none=>rw[q]at h;cases h
 |some x=>
  rw[q]at h;have h:(if M.contains i then none else x)=some p:=by simpa using h
  split at h
  ·exact Zb h
  ·rename_i c
   exact⟨by simpa using c,by rw[h]⟩
theorem Zg{G:PFn}{M:Li Nat}{π:Zt}:∀ e:CE,noM M e=true->pe G e (XT M π)=pe G e π
 |.var i,h=>by
  have h:(!M.contains i)=true:=h;show JR i _=JR i _;unfold JR;rw[V7 (by simpa using h)]
 |.cst d,_=>rfl
 |.bin op a b,h=>by
  have h:=(Ba _ _).mp h;show pq2 (pe G a) (pe G b) (XH op) _=pq2 (pe G a) (pe G b) (XH op) _;unfold pq2;rw[Zg a h.1,Zg b h.2]
 |.neg a,h=>by
  show pq1 (pe G a) ZcO _=pq1 (pe G a) ZcO _;unfold pq1;rw[Zg a h]
 |.cmp op a b,h=>by
  have h:=(Ba _ _).mp h;show pq2 (pe G a) (pe G b) (YD op) _=pq2 (pe G a) (pe G b) (YD op) _;unfold pq2;rw[Zg a h.1,Zg b h.2]
 |.not a,h=>by
  show pq1 (pe G a) ZcP _=pq1 (pe G a) ZcP _;unfold pq1;rw[Zg a h]
 |.and a b,h=>by
  have h:=(Ba _ _).mp h;show YL (pe G a) (pe G b) _ _=YL (pe G a) (pe G b) _ _;unfold YL;rw[Zg a h.1,Zg b h.2]
 |.or a b,h=>by
  have h:=(Ba _ _).mp h;show YL (pe G a) _ (pe G b) _=YL (pe G a) _ (pe G b) _;unfold YL;rw[Zg a h.1,Zg b h.2]
 |.ife c a b,h=>by
  have h:=(Ba _ _).mp h;have h2:=(Ba _ _).mp h.2;show YL (pe G c) (pe G a) (pe G b) _=YL (pe G c) (pe G a) (pe G b) _;unfold YL;rw[Zg c h.1,Zg a h2.1,Zg b h2.2]
 |.tupE a,h=>Zg a h
 |.srt _,_=>rfl
 |.lstE a,h=>by
  show pq1 (pe G a) ZaB _=pq1 (pe G a) ZaB _;unfold pq1;rw[Zg a h]
 |.aN,_=>rfl
 |.aC a b,h=>by
  have h:=(Ba _ _).mp h;show pq2 (pe G a) (pe G b) US _=pq2 (pe G a) (pe G b) US _;unfold pq2;rw[Zg a h.1,Zg b h.2]
 |.ix a b,h=>by
  have h:=(Ba _ _).mp h;show pq2 (pe G a) (pe G b) ixP _=pq2 (pe G a) (pe G b) ixP _;unfold pq2;rw[Zg a h.1,Zg b h.2]
 |.slice c a b,h=>by
  have h:=(Ba _ _).mp h;have h2:=(Ba _ _).mp h.2;show pq3 (pe G c) (pe G a) (pe G b) _ _=pq3 (pe G c) (pe G a) (pe G b) _ _;unfold pq3;rw[Zg c h.1,Zg a h2.1,Zg b h2.2]
 |.nop,_=>rfl
 |.part a,h=>by
  show pq1 (pe G a) Qb _=pq1 (pe G a) Qb _;unfold pq1;rw[Zg a h]
 |.call f a ds,h=>by
  show pq1 (pe G a) (UR (G f) ds) _=pq1 (pe G a) (UR (G f) ds) _;unfold pq1;rw[Zg a h]
 |.len a,h=>by
  show pq1 (pe G a) QI _=pq1 (pe G a) QI _;unfold pq1;rw[Zg a h]
 |.tOf a,h=>by
  show pq1 (pe G a) Vj _=pq1 (pe G a) Vj _;unfold pq1;rw[Zg a h]
 |.listOf _,_=>rfl
 |.intOf a,h=>by
  show pq1 (pe G a) QE _=pq1 (pe G a) QE _;unfold pq1;rw[Zg a h]
 |.min a b,h=>by
  have h:=(Ba _ _).mp h;show pq2 (pe G a) (pe G b) ZcL _=pq2 (pe G a) (pe G b) ZcL _;unfold pq2;rw[Zg a h.1,Zg b h.2]
 |.max a b,h=>by
  have h:=(Ba _ _).mp h;show pq2 (pe G a) (pe G b) ZcK _=pq2 (pe G a) (pe G b) ZcK _;unfold pq2;rw[Zg a h.1,Zg b h.2]
 |.isi T a,h=>by
  show pq1 (pe G a) (Zaw T) _=pq1 (pe G a) (Zaw T) _;unfold pq1;rw[Zg a h]
 |.rs k a,h=>by
  show pq1 (pe G a) (rsP k) _=pq1 (pe G a) (rsP k) _;unfold pq1;rw[Zg a h]
 |.inv _,_=>rfl
 |.tupR _,_=>rfl
 |.look ks ds a,h=>by
  show pq1 (pe G a) (Ui ks ds) _=pq1 (pe G a) (Ui ks ds) _;unfold pq1;rw[Zg a h]
 |.dget _ _ _,_=>rfl
 |.inR _ _ _,_=>rfl
 |.all a,h=>by
  show pq1 (pe G a) (X2 _) _=pq1 (pe G a) (X2 _) _;unfold pq1;rw[Zg a h]
 |.any _,_=>rfl
 |.comp rng fr it elt cnd,h=>by
  have h:=(Ba _ _).mp h;have e:∀ b p,YM b (XT M π) fr p=YM b π fr p:=fun b p=>by
   unfold YM
   congr 1
   refine cK fun i hi=>?_
   have:=aW.mp h.2 i hi;rw[V7 (by simpa using this)]
  show Yj Zfd (Xp rng) fr (pe G it) (pe G elt) (pe G cnd) _=Yj Zfd (Xp rng) fr (pe G it) (pe G elt) (pe G cnd) _;unfold Yj;rw[Zg it h.1];simp only[e]
 |.comp2 fr it elt cnd,h=>by
  have h:=(Ba _ _).mp h;have e:∀ b p,YM b (XT M π) fr p=YM b π fr p:=fun b p=>by
   unfold YM
   congr 1
   refine cK fun i hi=>?_
   have:=aW.mp h.2 i hi;rw[V7 (by simpa using this)]
  show Yj QX X7 fr (pe G it) (pe G elt) (pe G cnd) _=Yj QX X7 fr (pe G it) (pe G elt) (pe G cnd) _;unfold Yj;rw[Zg it h.1];simp only[e]
 |.compT _ _ _ _,_=>rfl
 |.new _,_=>rfl
 |.meth _ _ _,_=>rfl
 |.tix o a,h=>by
  have h:=(Ba _ _).mp h;show pq2 (pe G o) (pe G a) Zh2 _=pq2 (pe G o) (pe G a) Zh2 _;unfold pq2;rw[Zg o h.1,Zg a h.2]
 |.isc _ _,_=>rfl
 |.lstR _ _,_=>rfl
 |.dict _ _,_=>rfl
 |.dnew,_=>rfl
 |.strOf a,h=>by
  show pq1 (pe G a) XC _=pq1 (pe G a) XC _;unfold pq1;rw[Zg a h]
 |.joinE a b,h=>by
  have h:=(Ba _ _).mp h;show pq2 (pe G a) (pe G b) Ug _=pq2 (pe G a) (pe G b) Ug _;unfold pq2;rw[Zg a h.1,Zg b h.2]
 |.starts a b,h=>by
  have h:=(Ba _ _).mp h;show pq2 (pe G a) (pe G b) Wg _=pq2 (pe G a) (pe G b) Wg _;unfold pq2;rw[Zg a h.1,Zg b h.2]
 |.rng2 _ _,_=>rfl
inductive Own(p:P)(o:Option (Option D))(ps:List P)(j:Nat):Prop where
 |l (a:p=.lst true ps) (b:o=some (some (.lst j)))
 |d (a:p=.dic true ps) (b:o=some (some (.dic j)))
def Rf(o:Ot (Ot D))(j:Nat):Prop:=o=some (some (.lst j))\/o=some (some (.dic j))
variable{o:Ot (Ot D)}{j:Nat}
theorem Own.rf:Own p o ps j->Rf o j
 |.l _ b=>.inl b
 |.d _ b=>.inr b
theorem Rf.inj(h:Rf o i)(h':Rf o j):i=j:=by
 rcases h with h|h<;>rcases h' with h'|h'<;>(rw[h]at h';cases h';try rfl)
theorem Own.lst{m:Bool}{xs:Li P}{o:Ot (Ot D)}{ps:Li P}{j:Nat}:Own (.lst m xs) o ps j->(m=true/\xs=ps)/\o=some (some (.lst j))
 |.l a b=>by cases a;exact⟨⟨rfl,rfl⟩,b⟩
 |.d a b=>nomatch a
theorem Own.rel{fz:Fz}(h:Own p o ps j)(hz:fz j)(e:st[j]?=some (true,ds))(r:Rels fz st ps ds):∃ d,o=some (some d)/\Rel fz st p d:=by
 cases h with
 |l a b=>rw[a];exact⟨_,b,.lst hz e r⟩
 |d a b=>rw[a];exact⟨_,b,.dic hz e r⟩
structure Inv(n0:Nat)(M:List Nat)(fz:Fz)(st:Za)(π:Zt)(ρ:Env):Prop where
 bd:Bd fz st
 lo:n0<=st.length
 len:π.length=ρ.length
 fr:∀ (i:Nat) (p:P),M.contains i=false->π[i]?=some (some p)->∃ d,ρ[i]?=some (some d)/\Rel fz st p d
 mt:∀ (i:Nat) (p:P),M.contains i=true->π[i]?=some (some p)->∃ (j:Nat) (ps:List P) (ds:List D),Own p ρ[i]? ps j/\Rf ρ[i]? j/\st[j]?=some (true,ds)/\¬fz j/\n0<=j/\Rels fz st ps ds
 ne:∀ (i i':Nat) (p p':P) (j:Nat),M.contains i=true->M.contains i'=true->π[i]?=some (some p)->π[i']?=some (some p')->Rf ρ[i]? j->Rf ρ[i']? j->i=i'
structure Later(n0:Nat)(fz:Fz)(st:Za)(fz':Fz)(st':Za):Prop where
 low:∀ i,i < n0->st'[i]?=st[i]?
 frz:∀ i,fz i->st'[i]?=st[i]?
 sub:∀ i,fz i->fz' i
 new:∀ i,fz' i->fz i\/n0<=i
 len:st.length<=st'.length
variable{e:CE}
section
variable {n0:Nat}{M:Li Nat}{fz fz' fz1 fz2:Fz}{st st' st1 st2:Za}{π:Zt}{ρ:Env}
theorem Later.refl:Later n0 fz st fz st:=⟨fun _ _=>rfl,fun _ _=>rfl,fun _ h=>h,fun _ h=>.inl h,aB _⟩
theorem Later.trans(x:Later n0 fz st fz1 st1)(y:Later n0 fz1 st1 fz2 st2):Later n0 fz st fz2 st2:=
 ⟨fun i h=>(y.low i h).trans (x.low i h),fun i h=>(y.frz i (x.sub i h)).trans (x.frz i h),fun i h=>y.sub i (x.sub i h),fun i h=>(y.new i h).elim (x.new i) .inr,aF x.len y.len⟩
theorem Next.later(h:n0<=st.length)(b:Bd fz st)(x:Next fz st fz' st'):Later n0 fz st fz' st':=
 ⟨fun i hi=>x.old i (aP hi h),fun i hi=>x.old i (b i hi),x.sub,fun i hi=>(x.new i hi).elim .inl fun z=>.inr (aF h z),x.len⟩
theorem Zr{l:Li α}{x:α}(h:l[i]?=some x):i < l.length:=(bI.mp h).1
theorem Inv.next(I:Inv n0 M fz st π ρ)(x:Next fz st fz' st'):Inv n0 M fz' st' π ρ:=
 ⟨x.bd,aF I.lo x.len,I.len,fun i p h e=>let ⟨d,e1,r⟩:=I.fr i p h e;⟨d,e1,r.next I.bd x⟩,fun i p h e=>by
  obtain⟨j,ps,ds,e1,e2,e3,e4,e5,r⟩:=I.mt i p h e;have hj:=Zr e3;exact⟨j,ps,ds,e1,e2,(x.old j hj).trans e3,fun z=>(x.new j z).elim e4 fun z=>absurd hj (by omega),e5,r.next I.bd x⟩,I.ne⟩
theorem Inv.erase(I:Inv n0 M fz st π ρ):EnvAll fz st (XT M π) ρ:=fun i p e=>let ⟨h1,h2⟩:=ZdZ e;I.fr i p h1 h2
noncomputable def fzM(M:Li Nat)(fz:Fz)(π:Zt)(ρ:Env):Fz:=fun i=>fz i\/∃ (k:Nat) (p:P),M.contains k=true/\π[k]?=some (some p)/\Rf ρ[k]? i
theorem Inv.bdM(I:Inv n0 M fz st π ρ):Bd (fzM M fz π ρ) st:=by
 rintro i (h|⟨k,p,hk,e,e'⟩)
 ·exact I.bd i h
 ·obtain⟨j,ps,ds,e1,e2,e3,e4,e5,r⟩:=I.mt k p hk e
  cases e'.inj e2
  exact Zr e3
theorem Inv.all(I:Inv n0 M fz st π ρ):EnvAll (fzM M fz π ρ) st π ρ:=by
 intro i p e;cases h:M.contains i with
 |false=>
  obtain⟨d,e1,r⟩:=I.fr i p h e;exact⟨d,e1,r.mono (fun _ z=>.inl z) fun _ _=>rfl⟩
 |true=>
  obtain⟨j,ps,ds,e1,e2,e3,e4,e5,r⟩:=I.mt i p h e;exact e1.rel (.inr ⟨i,_,h,e,e2⟩) e3 (r.mono (fun _ z=>.inl z) fun _ _=>rfl)
theorem Xr{G:PFn}(hF:YK F G)(I:Inv n0 M fz st π ρ)(h:pe G e π=some p)(k:ZT M e p=true):Gives fz st (ev F e ρ st) p:=by
 unfold ZT at k;rw[cB]at k;rcases k with k|k
 ·rw[<-Zg e k]at h
  exact Zd hF e _ p h fz st ρ I.bd I.erase
 ·obtain⟨d,st',fz',e1,n1,r1⟩:=Zd hF e _ p h _ st ρ I.bdM I.all
  exact⟨d,st',fz,e1,n1.small I.bd,r1.ofNoL k⟩
theorem Zd0{G:PFn}(hF:YK F G)(I:Inv n0 M fz st π ρ)(h:pe G e π=some (.lst m xs))(hf:WK e=true)(k:(noM M e||UH xs)=true) :
  ∃ j ds st' fz1,ev F e ρ st=some (.lst j,st')/\st'[j]?=some (m,ds)/\Next fz st fz1 st'/\¬fz1 j/\st.length<=j/\Rels fz1 st' xs ds:=by
 rw[cB]at k;rcases k with k|k
 ·rw[<-Zg e k]at h
  exact J1 hF e hf _ m xs h fz st ρ I.bd I.erase
 ·obtain⟨j,ds,st',fz1,e1,e2,n1,hn,hl,r⟩:=J1 hF e hf _ m xs h _ st ρ I.bdM I.all
  exact⟨j,ds,st',fz,e1,e2,n1.small I.bd,fun z=>absurd (I.bd j z) (by omega),hl,r.ofNoL k⟩

theorem UV{G:PFn}(hF:YK F G)(I:Inv n0 M fz st π ρ)(h:pe G e π=some p)(k:YR M e p=true) :
  ∃ d j ps ds st' fz1,(ev F e ρ st=some (d,st')/\Own p (some (some d)) ps j)/\st'[j]?=some (true,ds)/\Next fz st fz1 st'/\¬fz1 j/\st.length<=j/\Rels fz1 st' ps ds:=by
 unfold YR at k;split at k
 ·rw[Ba]at k
  obtain⟨j,ds,st',fz1,e1,r⟩:=Zd0 hF I h k.1 k.2;exact⟨_,j,_,ds,st',fz1,⟨e1,.l rfl rfl⟩,r⟩
 ·cases k
theorem Zcu{G:PFn}(hF:YK F G)(I:Inv n0 M fz st π ρ)(h:pe G e π=some p)(k:YR M e p=true):Gives fz st (ev F e ρ st) p:=by
 obtain⟨d,j,ps,ds,st',fz1,⟨e1,ow⟩,e2,n1,hn,hl,r⟩:=UV hF I h k;obtain⟨d',e3,r'⟩:=ow.rel (fz:=fun i=>fz1 i\/i=j) (.inr rfl) e2 (r.mono (fun _ z=>.inl z) fun _ _=>rfl)
 cases e3;exact⟨d,st',fun i=>fz1 i\/i=j,e1,⟨n1.old,n1.len,fun i z=>.inl (n1.sub i z),fun i z=>z.elim (n1.new i) fun z=>by rw[z];exact .inr hl,fun i z=>z.elim (n1.bd i) fun z=>by rw[z];exact Zr e2⟩,r'⟩
theorem Yh{l:Li (Ot α)}{k:Nat}{x y:α}(h:(l.set i (some x))[k]?=some (some y)):(k=i/\y=x/\i < l.length)\/(k≠i/\l[k]?=some (some y)):=by
 rw[bY]at h;split at h
 ·rename_i e
  subst e;split at h
  ·rename_i hl
   cases h;exact .inl ⟨rfl,rfl,hl⟩
  ·exact Zb h
 ·rename_i e
  exact .inr ⟨fun z=>e z.symm,h⟩
theorem Q1{l:Li (Ot α)}{x:α}(h:i < l.length):(l.set i (some x))[i]?=some (some x):=by rw[bY,if_pos rfl,if_pos h]
theorem Zv{l:Li (Ot α)}{k:Nat}{x:α}(h:k≠i):(l.set i (some x))[k]?=l[k]?:=by rw[bY,if_neg (fun z=>h z.symm)]
theorem Inv.set(I:Inv n0 M fz st π ρ)(h:M.contains i=false)(r:Rel fz st p d):Inv n0 M fz st (ZK π i p) (Zy ρ i d):=by
 unfold ZK Zy;refine⟨I.bd,I.lo,by rw[bQ,bQ];exact I.len,fun k q hk e=>?_,fun k q hk e=>?_,fun k k' q q' j hk hk' e e' e1 e1'=>?_⟩
 ·rcases Yh e with⟨rfl,rfl,hl⟩|⟨hn,e⟩
  ·exact⟨d,Q1 (by rw[<-I.len];exact hl),r⟩
  ·rw[Zv hn]
   exact I.fr k q hk e
 ·rcases Yh e with⟨rfl,rfl,hl⟩|⟨hn,e⟩
  ·rw[h]at hk;cases hk
  ·rw[Zv hn]
   exact I.mt k q hk e
 ·rcases Yh e with⟨rfl,rfl,hl⟩|⟨hn,e⟩
  ·rw[h]at hk;cases hk
  ·rcases Yh e' with⟨rfl,rfl,hl⟩|⟨hn',e'⟩
   ·rw[h]at hk';cases hk'
   ·rw[Zv hn]at e1
    rw[Zv hn']at e1';exact I.ne k k' q q' j hk hk' e e' e1 e1'
theorem Inv.setM{p:P}(I:Inv n0 M fz st π ρ)(h:M.contains i=true)(ow:Own p (some (some d)) ps j)(hs:st[j]?=some (true,ds))(hz:¬fz j)(hl:n0<=j)(r:Rels fz st ps ds)(hn:∀ (k:Nat) (p:P),M.contains k=true->π[k]?=some (some p)->¬Rf ρ[k]? j):Inv n0 M fz st (ZK π i p) (Zy ρ i d):=by
 unfold ZK Zy;refine⟨I.bd,I.lo,by rw[bQ,bQ];exact I.len,fun k q hk e=>?_,fun k q hk e=>?_,fun k k' q q' j' hk hk' e e' e1 e1'=>?_⟩
 ·rcases Yh e with⟨rfl,rfl,hl⟩|⟨hn,e⟩
  ·rw[h]at hk;cases hk
  ·rw[Zv hn]
   exact I.fr k q hk e
 ·rcases Yh e with⟨rfl,rfl,hl'⟩|⟨hn,e⟩
  ·have z:=Q1 (x:=d) (show k < ρ.length by rw[<-I.len];exact hl')
   exact⟨j,ps,ds,by rw[z];exact ow,by rw[z];exact ow.rf,hs,hz,hl,r⟩
  ·rw[Zv hn]
   exact I.mt k q hk e
 ·rcases Yh e with⟨a1,a2,a3⟩|⟨a1,a2⟩
  ·rcases Yh e' with⟨b1,b2,b3⟩|⟨b1,b2⟩
   ·rw[a1,b1]
   ·rw[a1,Q1 (by rw[<-I.len];exact a3)]at e1
    cases ow.rf.inj e1
    rw[Zv b1]at e1';exact absurd e1' (hn k' q' hk' b2)
  ·rcases Yh e' with⟨b1,b2,b3⟩|⟨b1,b2⟩
   ·rw[b1,Q1 (by rw[<-I.len];exact b3)]at e1'
    cases ow.rf.inj e1'
    rw[Zv a1]at e1;exact absurd e1 (hn k q hk a2)
   ·rw[Zv a1]at e1
    rw[Zv b1]at e1';exact I.ne k k' q q' j' hk hk' a2 b2 e1 e1'
theorem Inv.write{p0 p1:P}(I:Inv n0 M fz st π ρ)(h:M.contains i=true)(e0:π[i]?=some (some p0))(ow:Own p1 ρ[i]? ps j)(hz:¬fz j)(hl:n0<=j)(hj:j < st.length)(r:Rels fz st ps ds) :
  Inv n0 M fz (st.set j (true,ds)) (ZK π i p1) ρ/\Later n0 fz st fz (st.set j (true,ds)):=by
 have same:∀ k,fz k->(st.set j (true,ds))[k]?=st[k]?:=fun k hk=>by
  rw[bY,if_neg (fun z=>hz (by rw[z];exact hk))]
 have mono:∀ {q:P}{d:D},Rel fz st q d->Rel fz (st.set j (true,ds)) q d:=fun r=>r.mono (fun _ z=>z) same
 have monos:∀ {q:Li P}{d:Li D},Rels fz st q d->Rels fz (st.set j (true,ds)) q d:=fun r=>r.mono (fun _ z=>z) same
 refine⟨⟨fun k hk=>by rw[bQ];exact I.bd k hk,by rw[bQ];exact I.lo,by unfold ZK;rw[bQ];exact I.len,fun k q hk e=>?_,fun k q hk e=>?_,fun k k' q q' j' hk hk' e e' e1 e1'=>?_⟩,
  ⟨fun k hk=>by rw[bY,if_neg (by omega)],same,fun _ z=>z,fun _ z=>.inl z,by rw[bQ];exact aB _⟩⟩
 ·unfold ZK at e
  rcases Yh e with⟨rfl,rfl,_⟩|⟨hn,e⟩
  ·rw[h]at hk;cases hk
  ·obtain⟨d,e1,r1⟩:=I.fr k q hk e
   exact⟨d,e1,mono r1⟩
 ·unfold ZK at e
  rcases Yh e with⟨rfl,rfl,_⟩|⟨hn,e⟩
  ·exact⟨j,ps,ds,ow,ow.rf,by rw[bY,if_pos rfl,if_pos hj],hz,hl,monos r⟩
  ·obtain⟨j',qs,es,f1,f2,f3,f4,f5,f6⟩:=I.mt k q hk e
   refine⟨j',qs,es,f1,f2,?_,f4,f5,monos f6⟩;rw[bY,if_neg (fun z=>hn (I.ne k i q p0 j hk h e e0 (by rw[z];exact f2) ow.rf))]
   exact f3
 ·unfold ZK at e e'
  have f:∀ {k:Nat}{q:P},(π.set i (some p1))[k]?=some (some q)->∃ q',π[k]?=some (some q'):=fun {k q} e=>by
   rcases Yh e with⟨rfl,_,_⟩|⟨_,e⟩
   ·exact⟨_,e0⟩
   ·exact⟨_,e⟩
  obtain⟨_,g⟩:=f e;obtain⟨_,g'⟩:=f e';exact I.ne k k' _ _ j' hk hk' g g' e1 e1'
end
def Zmj(n0:Nat)(M:Li Nat)(fz:Fz)(st:Za):PFl->Fl->Prop
 |.nx π,.nx ρ=>Inv n0 M fz st π ρ
 |.bk π,.bk ρ=>Inv n0 M fz st π ρ
 |.ct π,.ct ρ=>Inv n0 M fz st π ρ
 |.rt p,.rt d=>Rel fz st p d/\Bd fz st
 |_,_=>False
def Kept(M T:Li Nat)(π:Zt)(ρ:Env)(st:Za)(π':Zt)(ρ':Env)(st':Za):Prop:=
 ∀ (i:Nat),i∉T->M.contains i=true->π'[i]?=π[i]?/\ρ'[i]?=ρ[i]?/\∀ (j:Nat) (p:P),π[i]?=some (some p)->Rf ρ[i]? j->st'[j]?=st[j]?
def KeptF(M T:Li Nat)(π:Zt)(ρ:Env)(st:Za)(r:PFl)(r':Fl)(st':Za):Prop:=match r,r' with
 |.nx π',.nx ρ'=>Kept M T π ρ st π' ρ' st'
 |.bk π',.bk ρ'=>Kept M T π ρ st π' ρ' st'
 |.ct π',.ct ρ'=>Kept M T π ρ st π' ρ' st'
 |_,_=>True
theorem Kept.refl{T:Li Nat}:Kept M T π ρ st π ρ st:=fun _ _ _=>⟨rfl,rfl,fun _ _ _ _=>rfl⟩
variable{T1 T2:Li Nat}{π1:Zt}{ρ1:Env}{st2:Za}
theorem Kept.trans{T:Li Nat}{π2:Zt}{ρ2:Env}(s1:∀ i,i∈T1->i∈T)(s2:∀ i,i∈T2->i∈T)(x:Kept M T1 π ρ st π1 ρ1 st1)(y:Kept M T2 π1 ρ1 st1 π2 ρ2 st2):Kept M T π ρ st π2 ρ2 st2:=fun i h hm=>by
 obtain⟨a1,a2,a3⟩:=x i (fun z=>h (s1 i z)) hm
 obtain⟨b1,b2,b3⟩:=y i (fun z=>h (s2 i z)) hm
 exact⟨b1.trans a1,b2.trans a2,fun j p e e'=>(b3 j p (a1.trans e) (by rw[a2];exact e')).trans (a3 j p e e')⟩
theorem Kept.more{T:Li Nat}(s1:∀ i,i∈T1->i∈T)(x:Kept M T1 π ρ st π1 ρ1 st1):Kept M T π ρ st π1 ρ1 st1:=fun i h hm=>x i (fun z=>h (s1 i z)) hm
theorem KeptF.trans{T:Li Nat}{r:PFl}{r':Fl}(s1:∀ i,i∈T1->i∈T)(s2:∀ i,i∈T2->i∈T)(x:Kept M T1 π ρ st π1 ρ1 st1)(y:KeptF M T2 π1 ρ1 st1 r r' st2):KeptF M T π ρ st r r' st2:=by
 cases r<;>cases r'<;>first|trivial|exact Kept.trans s1 s2 x y
theorem KeptF.more{T:Li Nat}{r:PFl}{r':Fl}(s1:∀ i,i∈T1->i∈T)(y:KeptF M T1 π ρ st r r' st2):KeptF M T π ρ st r r' st2:=by
 cases r<;>cases r'<;>first|trivial|exact Kept.more s1 y
theorem Next.kept{n0:Nat}{T:Li Nat}{fz:Fz}(I:Inv n0 M fz st π ρ)(x:Next fz st fz' st'):Kept M T π ρ st π ρ st':=fun i _ hm=>⟨rfl,rfl,fun j p e e'=>by
 obtain⟨j',ps,ds,e1,e2,e3,e4,e5,r⟩:=I.mt i p hm e;cases e'.inj e2
 exact x.old j (Zr e3)⟩
abbrev VM(n0:Nat)(M T:Li Nat)(fz:Fz)(st:Za)(π:Zt)(ρ:Env)(x:Ot (Fl×Za))(r:PFl):Prop:=∃ r' st' fz',x=some (r',st')/\Later n0 fz st fz' st'/\Zmj n0 M fz' st' r r'/\KeptF M T π ρ st r r' st'
def SX(n0:Nat)(M T:Li Nat)(f:Ex)(g:PEx):Prop:=∀ π r,g π=some r->∀ fz st ρ,Inv n0 M fz st π ρ->VM n0 M T fz st π ρ (f ρ st) r
section
variable {n0:Nat}{M T T1 T2:Li Nat}{f f1 f2:Ex}{g g1 g2:PEx}{F:Nat->Fn}{G:PFn}
theorem Zl5(h1:SX n0 M T1 f1 g1)(h2:SX n0 M T2 f2 g2):SX n0 M (T1++T2) (UL f1 f2) (Zff g1 g2):=by
 intro π r e fz st ρ I;have s1:∀ i,i∈T1->i∈T1++T2:=fun i h=>aR.mpr (.inl h)
 have s2:∀ i,i∈T2->i∈T1++T2:=fun i h=>aR.mpr (.inr h)
 unfold Zff at e;split at e
 ·rename_i π1 q
  obtain⟨r1,st1,fz1,e1,l1,R1,k1⟩:=h1 π _ q fz st ρ I;cases r1 with
  |nx ρ1=>
   obtain⟨r2,st2,fz2,e2,l2,R2,k2⟩:=h2 π1 r e fz1 st1 ρ1 R1;exact⟨r2,st2,fz2,by unfold UL;rw[e1];exact e2,l1.trans l2,R2,KeptF.trans s1 s2 k1 k2⟩
  |_=>exact R1.elim
 ·rename_i hn
  obtain⟨r1,st1,fz1,e1,l1,R1,k1⟩:=h1 π _ e fz st ρ I;refine⟨r1,st1,fz1,?_,l1,R1,KeptF.more s1 k1⟩;unfold UL;rw[e1];cases r with
  |nx π1=>exact absurd e (hn π1)
  |rt p=>cases r1<;>first|rfl|exact R1.elim
  |bk π1=>cases r1<;>first|rfl|exact R1.elim
  |ct π1=>cases r1<;>first|rfl|exact R1.elim
theorem Zl4(hF:YK F G)(e:CE):SX n0 M T (ZaO (ev F e)) (Zfe (pe G e)):=by
 intro π r h fz st ρ I;unfold Zfe at h;split at h
 ·rename_i p q
  cases h;obtain⟨d,st',fz',e1,n1,r1⟩:=Zd hF e _ p q _ st ρ I.bdM I.all;refine⟨.rt d,st',fz',by unfold ZaO;rw[e1],⟨fun i hi=>n1.old i (aP hi I.lo),fun i hi=>n1.old i (I.bd i hi),fun i hi=>n1.sub i (.inl hi),fun i hi=>?_,n1.len⟩,⟨r1,n1.bd⟩,trivial⟩
  rcases n1.new i hi with(z|⟨k,p,hk,e,e'⟩)|z
  ·exact .inl z
  ·obtain⟨j,ps,ds,f1,f2,f3,f4,f5,r⟩:=I.mt k p hk e
   cases e'.inj f2
   exact .inr f5
  ·exact .inr (aF I.lo z)
 ·exact Zb h
theorem Zl6(hF:YK F G)(i:Nat)(e:CE):SX n0 M (i :: mvT e) (JW i (ev F e)) (ZaJ M i e (pe G e)):=by
 intro π r h fz st ρ I;have kp:∀ {fz':Fz}{st':Za}{d:D}{p:P},Next fz st fz' st'->Kept M (i :: mvT e) π ρ st (ZK π i p) (Zy ρ i d) st':=fun {fz' st' d p} x k hk hm=>by
  have hki:k≠i:=fun z=>hk (by rw[z];exact Ls)
  have:=Next.kept (T:=i :: mvT e) I x k hk hm;exact⟨Zv hki,Zv hki,this.2.2⟩
 unfold ZaJ at h;split at h
 ·rename_i p q
  cases hm:M.contains i with
  |true=>
   rw[hm]at h;simp only[if_true]at h;split at h
   ·rename_i c
    cases h;obtain⟨d,j,ps,ds,st',fz1,⟨e1,ow⟩,e2,n1,hn,hl,r⟩:=UV hF I q c;refine⟨.nx (Zy ρ i d),st',fz1,by unfold JW;rw[e1],n1.later I.lo I.bd,(I.next n1).setM hm ow e2 hn (aF I.lo hl) r fun k p hk e e'=>?_,kp n1⟩
    obtain⟨j',ps,es,f1,f2,f3,f4,f5,_⟩:=I.mt k p hk e;cases e'.inj f2
    exact absurd (Zr f3) (by omega)
   ·exact Zb h
  |false=>
   rw[hm]at h;simp only[Bool.false_eq_true,if_false]at h;split at h
   ·rename_i c
    cases h;obtain⟨d,st',fz',e1,n1,r1⟩:Gives fz st (ev F e ρ st) p:=((cB _ _).mp c).elim (Xr hF I q) (Zcu hF I q);exact⟨.nx (Zy ρ i d),st',fz',by unfold JW;rw[e1],n1.later I.lo I.bd,(I.next n1).set hm r1,kp n1⟩
   ·exact Zb h
 ·exact Zb h
theorem ZkF(hF:YK F G)(i j:Nat)(e:CE):SX n0 M [i,j] (JV i j (ev F e)) (JP M i j e (pe G e)):=by
 intro π r h fz st ρ I;have kp:∀ {fz':Fz}{st':Za}{d d':D}{p p':P},Next fz st fz' st'->Kept M [i,j] π ρ st (ZK (ZK π i p) j p') (Zy (Zy ρ i d) j d') st':=fun {fz' st' d d' p p'} x k hk hm=>by
  have hki:k≠i:=fun z=>hk (by rw[z];exact Ls)
  have hkj:k≠j:=fun z=>hk (by rw[z];exact Lm _ Ls)
  have:=Next.kept (T:=[i,j]) I x k hk hm;exact⟨(Zv hkj).trans (Zv hki),(Zv hkj).trans (Zv hki),this.2.2⟩
 unfold JP at h;split at h
 ·rename_i x y q
  split at h
  ·rename_i c
   cases h;rw[Ba,Ba]at c;have hi:M.contains i=false:=by simpa using c.1.1
   have hj:M.contains j=false:=by simpa using c.1.2
   obtain⟨d,st',fz',e1,n1,r1⟩:=Xr hF I q c.2;cases r1 with
   |tup rr=>
    cases rr with
    |cons a rr=>
     cases rr with
     |cons a' rr=>
      cases rr;exact⟨.nx _,st',fz',by unfold JV;rw[e1],n1.later I.lo I.bd,((I.next n1).set hi a).set hj a',kp n1⟩
  ·exact Zb h
 ·exact Zb h
theorem Zl1(hF:YK F G)(i:Nat)(e:CE):SX n0 M [i] (Zdn i (ev F e)) (Ze2 M i e (pe G e)):=by
 intro π r h fz st ρ I;unfold Ze2 at h;split at h
 ·rename_i xs q0
  split at h
  ·rename_i p q
   split at h
   ·rename_i c
    cases h;rw[Ba,Ba]at c;obtain⟨⟨hm,hk⟩,hz⟩:=c;have hz:=of_decide_eq_true hz;obtain⟨d,st',fz',e1,n1,r1⟩:=Xr hF I q hk;have I1:=I.next n1;obtain⟨j,ps,ds,f1,f2,f3,f4,f5,f6⟩:=I1.mt i _ hm q0;obtain⟨⟨_,rfl⟩,f0⟩:=f1.lst;obtain⟨I2,l2⟩:=I1.write hm q0 (.l rfl f0) f4 f5 (Zr f3) (f6.append (.cons r1 .nil));refine⟨.nx ρ,_,fz',?_,(n1.later I.lo I.bd).trans l2,I2,fun k hk2 hm2=>?_⟩
    ·unfold Zdn
     rw[f0];simp only[e1];unfold Zb0;simp only[f3];rw[if_pos (by rw[<-f6.length];exact hz)]
    ·have hki:k≠i:=fun z=>hk2 (by rw[z];exact bH.mpr rfl)
     have kk:=Next.kept (T:=[i]) I n1 k hk2 hm2;refine⟨Zv hki,rfl,fun j' p' e e'=>?_⟩
     rw[<-kk.2.2 j' p' e e',bY,if_neg (fun z=>hki (I.ne k i p' _ j hm2 hm e q0 (by rw[z];exact e') f2))]
   ·exact Zb h
  ·exact Zb h
 ·exact Zb h
theorem Zl3(hF:YK F G)(c:CE)(h1:SX n0 M T1 f1 g1)(h2:SX n0 M T2 f2 g2):SX n0 M (T1++T2) (UG (ev F c) f1 f2) (Zfb (pe G c) g1 g2):=by
 intro π r e fz st ρ I;have s1:∀ i,i∈T1->i∈T1++T2:=fun i h=>aR.mpr (.inl h)
 have s2:∀ i,i∈T2->i∈T1++T2:=fun i h=>aR.mpr (.inr h)
 unfold Zfb at e;split at e
 ·rename_i q
  obtain⟨d,st',fz',e1,n1,r1⟩:=Xr hF I q (by unfold ZT;rw[show noL (.bl true)=true from rfl,dI])
  cases r1;obtain⟨r2,st2,fz2,e2,l2,R2,k2⟩:=h1 π r e fz' st' ρ (I.next n1);exact⟨r2,st2,fz2,by unfold UG;rw[e1];exact e2,(n1.later I.lo I.bd).trans l2,R2,KeptF.trans (T1:=T1) s1 s1 (Next.kept I n1) k2⟩
 ·rename_i q
  obtain⟨d,st',fz',e1,n1,r1⟩:=Xr hF I q (by unfold ZT;rw[show noL (.bl false)=true from rfl,dI])
  cases r1;obtain⟨r2,st2,fz2,e2,l2,R2,k2⟩:=h2 π r e fz' st' ρ (I.next n1);exact⟨r2,st2,fz2,by unfold UG;rw[e1];exact e2,(n1.later I.lo I.bd).trans l2,R2,KeptF.trans (T1:=T2) s2 s2 (Next.kept I n1) k2⟩
 ·exact Zb e
abbrev Zib(n0:Nat)(M T:Li Nat)(B:P->Zt->Ot PFl)(B':D->Env->Za->Ot (Fl×Za)):Prop:=∀ x d π r,B x π=some r->∀ fz st ρ,Inv n0 M fz st π ρ->Rel fz st x d->VM n0 M T fz st π ρ (B' d ρ st) r
theorem Later.rels{fz:Fz}(l:Later n0 fz st fz' st')(r:Rels fz st ps ds):Rels fz' st' ps ds:=r.mono l.sub l.frz
theorem W8{B:P->Zt->Ot PFl}{B':D->Env->Za->Ot (Fl×Za)}(h:Zib n0 M T B B'):∀ {xs:Li P}{ds:Li D}{π:Zt}{r:PFl}{fz:Fz}{st:Za}{ρ:Env},Inv n0 M fz st π ρ->Rels fz st xs ds->Xi B xs π=some r->VM n0 M T fz st π ρ (Yr B' ds ρ st) r
 |_,_,π,r,fz,st,ρ,I,.nil,e=>by cases e;exact⟨.nx ρ,st,fz,rfl,Later.refl,I,Kept.refl⟩
 |x :: xs,d :: ds,π,r,fz,st,ρ,I,.cons a rs,e=>by
  unfold Xi at e;split at e
  ·rename_i π1 q
   obtain⟨r1,st1,fz1,e1,l1,R1,k1⟩:=h x d π _ q fz st ρ I a;cases r1 with
   |nx ρ1=>
    obtain⟨r2,st2,fz2,e2,l2,R2,k2⟩:=W8 h (ρ:=ρ1) R1 (l1.rels rs) e;exact⟨r2,st2,fz2,by unfold Yr;rw[e1];exact e2,l1.trans l2,R2,KeptF.trans (fun _ z=>z) (fun _ z=>z) k1 k2⟩
   |_=>exact R1.elim
  ·rename_i π1 q
   obtain⟨r1,st1,fz1,e1,l1,R1,k1⟩:=h x d π _ q fz st ρ I a;cases r1 with
   |ct ρ1=>
    obtain⟨r2,st2,fz2,e2,l2,R2,k2⟩:=W8 h (ρ:=ρ1) R1 (l1.rels rs) e;exact⟨r2,st2,fz2,by unfold Yr;rw[e1];exact e2,l1.trans l2,R2,KeptF.trans (fun _ z=>z) (fun _ z=>z) k1 k2⟩
   |_=>exact R1.elim
  ·rename_i π1 q
   cases e;obtain⟨r1,st1,fz1,e1,l1,R1,k1⟩:=h x d π _ q fz st ρ I a;cases r1 with
   |bk ρ1=>exact⟨.nx ρ1,st1,fz1,by unfold Yr;rw[e1],l1,R1,k1⟩
   |_=>exact R1.elim
  ·rename_i v q
   cases e;obtain⟨r1,st1,fz1,e1,l1,R1,k1⟩:=h x d π _ q fz st ρ I a;cases r1 with
   |rt d'=>exact⟨.rt d',st1,fz1,by unfold Yr;rw[e1],l1,R1,trivial⟩
   |_=>exact R1.elim
  ·exact Zb e
theorem ZlV(hi:M.contains i=false)(h:SX n0 M T f g):Zib n0 M (i :: T) (fun d π=>g (ZK π i d)) (fun d ρ s=>f (Zy ρ i d) s):=by
 intro x d π r e fz st ρ I a;obtain⟨r1,st1,fz1,e1,l1,R1,k1⟩:=h _ r e fz st _ (I.set hi a);refine⟨r1,st1,fz1,e1,l1,R1,?_⟩;refine KeptF.trans (T1:=i :: T) (T2:=T) (fun _ z=>z) (fun _ z=>Lm _ z) (fun k hk hm=>?_) k1
 have hki:k≠i:=fun z=>hk (by rw[z];exact Ls)
 exact⟨Zv hki,Zv hki,fun _ _ _ _=>rfl⟩
theorem Zl2(hF:YK F G)(h:SX n0 M T f g):SX n0 M (i :: T) (Qz i rng (ev F e) f) (Ze8 M T i rng e (pe G e) g):=by
 intro π r hp fz st ρ I;unfold Ze8 at hp;split at hp
 ·rename_i x q
  split at hp
  ·rename_i xs qi
   split at hp
   ·rename_i c
    rw[Ba]at c;have hi:M.contains i=false:=by simpa using c.1
    have kp:ZT M e x=true:=by
     cases rng with
     |false=>simpa using c.2
     |true=>
      cases x with
      |int n=>unfold ZT;rw[show noL (.int n)=true from rfl,dI]
      |_=>exact Zb qi
    obtain⟨d,st',fz',e1,n1,r1⟩:=Xr hF I q kp;obtain⟨ds,e2,r2⟩:=U2 r1 qi;obtain⟨r3,st3,fz3,e3,l3,R3,k3⟩:=W8 (ZlV hi h) (I.next n1) r2 hp;exact⟨r3,st3,fz3,by unfold Qz;rw[e1];simp only[e2];exact e3,(n1.later I.lo I.bd).trans l3,R3,KeptF.trans (T1:=i :: T) (fun _ z=>z) (fun _ z=>z) (Next.kept I n1) k3⟩
   ·exact Zb hp
  ·exact Zb hp
 ·exact Zb hp
inductive RelsQ(fz:Fz)(st:Za):List (P×P)->List (D×D)->Prop where
 |nil:RelsQ fz st [] []
 |cons {p:P×P}{d:D×D}{ps:List (P×P)}{ds:List (D×D)} (h1:Rel fz st p.1 d.1) (h2:Rel fz st p.2 d.2) (r:RelsQ fz st ps ds):RelsQ fz st (p :: ps) (d :: ds)
theorem RelsQ.zip{fz:Fz}:∀ {xs ys:Li P}{ds es:Li D},Rels fz st xs ds->Rels fz st ys es->RelsQ fz st (xs.zip ys) (ds.zip es)
 |_,_,_,_,.nil,_=>.nil
 |_,_,_,_,.cons _ _,.nil=>.nil
 |_,_,_,_,.cons a r,.cons b s=>.cons a b (RelsQ.zip r s)
theorem RelsQ.mono{fz:Fz}(l:Later n0 fz st fz' st'):∀ {ps:Li (P×P)}{ds:Li (D×D)},RelsQ fz st ps ds->RelsQ fz' st' ps ds
 |_,_,.nil=>.nil
 |_,_,.cons a b r=>.cons (a.mono l.sub l.frz) (b.mono l.sub l.frz) (RelsQ.mono l r)
theorem W9{i j:Nat}(hi:M.contains i=false)(hj:M.contains j=false)(h:SX n0 M T f g){ok:Za->Prop}:∀ {xs:Li (P×P)}{ds:Li (D×D)}{π:Zt}{r:PFl}{fz:Fz}{st:Za}{ρ:Env},Inv n0 M fz st π ρ->RelsQ fz st xs ds->(∀ fz' st',Later n0 fz st fz' st'->ok st')->
  XA (fun x y π=>g (ZK (ZK π i x) j y)) xs π=some r->VM n0 M (i :: j :: T) fz st π ρ (Z0 ok (fun x y ρ s=>f (Zy (Zy ρ i x) j y) s) ds ρ st) r
 |_,_,π,r,fz,st,ρ,I,.nil,hok,e=>by cases e;exact⟨.nx ρ,st,fz,if_pos (hok _ _ Later.refl),Later.refl,I,Kept.refl⟩
 |x :: xs,d :: ds,π,r,fz,st,ρ,I,.cons a b rs,hok,e=>by
  have ok0:=hok _ _ Later.refl;have tr:∀ {r1:PFl},g (ZK (ZK π i x.1) j x.2)=some r1->VM n0 M (i :: j :: T) fz st π ρ (f (Zy (Zy ρ i d.1) j d.2) st) r1:=fun {r1} q=>by
   obtain⟨r2,st2,fz2,e2,l2,R2,k2⟩:=h _ _ q fz st _ ((I.set hi a).set hj b);refine⟨r2,st2,fz2,e2,l2,R2,?_⟩;have kp:Kept M (i :: j :: T) π ρ st (ZK (ZK π i x.1) j x.2) (Zy (Zy ρ i d.1) j d.2) st:=fun k hk hm=>by
    have hki:k≠i:=fun z=>hk (by rw[z];exact Ls)
    have hkj:k≠j:=fun z=>hk (by rw[z];exact Lm _ Ls)
    exact⟨(Zv hkj).trans (Zv hki),(Zv hkj).trans (Zv hki),fun _ _ _ _=>rfl⟩
   exact KeptF.trans (T1:=i :: j :: T) (T2:=T) (fun _ z=>z) (fun _ z=>Lm _ (Lm _ z)) kp k2
  unfold XA at e;split at e
  ·rename_i π1 q
   obtain⟨r1,st1,fz1,e1,l1,R1,k1⟩:=tr q;cases r1 with
   |nx ρ1=>
    obtain⟨r2,st2,fz2,e2,l2,R2,k2⟩:=W9 hi hj h (ρ:=ρ1) R1 (rs.mono l1) (fun _ _ l=>hok _ _ (l1.trans l)) e
    exact⟨r2,st2,fz2,by unfold Z0;rw[if_pos ok0];simp only[e1];exact e2,l1.trans l2,R2,KeptF.trans (fun _ z=>z) (fun _ z=>z) k1 k2⟩
   |_=>exact R1.elim
  ·rename_i π1 q
   obtain⟨r1,st1,fz1,e1,l1,R1,k1⟩:=tr q;cases r1 with
   |ct ρ1=>
    obtain⟨r2,st2,fz2,e2,l2,R2,k2⟩:=W9 hi hj h (ρ:=ρ1) R1 (rs.mono l1) (fun _ _ l=>hok _ _ (l1.trans l)) e
    exact⟨r2,st2,fz2,by unfold Z0;rw[if_pos ok0];simp only[e1];exact e2,l1.trans l2,R2,KeptF.trans (fun _ z=>z) (fun _ z=>z) k1 k2⟩
   |_=>exact R1.elim
  ·rename_i π1 q
   cases e;obtain⟨r1,st1,fz1,e1,l1,R1,k1⟩:=tr q;cases r1 with
   |bk ρ1=>exact⟨.nx ρ1,st1,fz1,by unfold Z0;rw[if_pos ok0];simp only[e1],l1,R1,k1⟩
   |_=>exact R1.elim
  ·rename_i v q
   cases e;obtain⟨r1,st1,fz1,e1,l1,R1,k1⟩:=tr q;cases r1 with
   |rt d'=>exact⟨.rt d',st1,fz1,by unfold Z0;rw[if_pos ok0];simp only[e1],l1,R1,trivial⟩
   |_=>exact R1.elim
  ·exact Zb e
theorem ZkE(hF:YK F G)(h:SX n0 M T f g):SX n0 M (i :: j :: T) (Jt i j (ev F e) f) (JN M i j e (pe G e) g):=by
 intro π r hp fz st ρ I;unfold JN at hp;split at hp
 ·rename_i m1 xs ys q
  split at hp
  ·rename_i c
   rw[Ba,Ba]at c;have hi:M.contains i=false:=by simpa using c.1.1
   have hj:M.contains j=false:=by simpa using c.1.2
   obtain⟨d,st',fz',e1,n1,r1⟩:=Xr hF I q (show ZT M e _=true by unfold ZT;rw[c.2,Bool.true_or])
   cases r1 with
   |tup rr=>
    cases rr with
    |cons a rr=>
     cases rr with
     |cons b rr=>
      cases rr;cases a with
      |@lst ja _ _ da za sa ra=>
       cases b with
       |tup rb=>
        obtain⟨r3,st3,fz3,e3,l3,R3,k3⟩:=W9 (ok:=fun s=>s[ja]?=some (m1,da)) hi hj h (I.next n1) (RelsQ.zip ra rb) (fun fz2 st2 l=>(l.frz ja za).trans sa) hp
        exact⟨r3,st3,fz3,by unfold Jt;rw[e1];simp only[sa];exact e3,(n1.later I.lo I.bd).trans l3,R3,KeptF.trans (T1:=i :: j :: T) (fun _ z=>z) (fun _ z=>z) (Next.kept I n1) k3⟩
  ·exact Zb hp
 ·exact Zb hp

theorem YI(hF:YK F G):∀ s:CS,SX n0 M (Ya s) (ex F s) (px G M s)
 |.skip=>fun π r e fz st ρ I=>by cases e;exact⟨.nx ρ,st,fz,rfl,Later.refl,I,Kept.refl⟩
 |.brk=>fun π r e fz st ρ I=>by cases e;exact⟨.bk ρ,st,fz,rfl,Later.refl,I,Kept.refl⟩
 |.cont=>fun π r e fz st ρ I=>by cases e;exact⟨.ct ρ,st,fz,rfl,Later.refl,I,Kept.refl⟩
 |.stop=>fun π r e=>nomatch (show(none:Ot PFl)=some r from e)
 |.app2 _ _=>fun π r e=>nomatch (show(none:Ot PFl)=some r from e)
 |.set3 _ _ _ _=>fun _ r e=>nomatch (show(none:Ot PFl)=some r from e)
 |.act _=>fun _ r e=>nomatch (show(none:Ot PFl)=some r from e)
 |.seq a b=>Zl5 (YI hF a) (YI hF b)
 |.ret e=>Zl4 hF e
 |.set i e=>Zl6 hF i e
 |.set2 i j e=>ZkF hF i j e
 |.app i e=>Zl1 hF i e
 |.ext _ _=>fun _ r e=>nomatch (show(none:Ot PFl)=some r from e)
 |.put _ _ _=>fun π r e=>nomatch (show(none:Ot PFl)=some r from e)
 |.dput _ _ _ _=>fun π r e=>nomatch (show(none:Ot PFl)=some r from e)
 |.ite c a b=>Zl3 hF c (YI hF a) (YI hF b)
 |.for1 i rng it b=>Zl2 hF (YI hF b)
 |.forP i j it b=>ZkE hF (YI hF b)
 |.forE _ _ _ _=>fun π r e=>nomatch (show(none:Ot PFl)=some r from e)
 |.for3 _ _ _=>fun _ r e=>nomatch (show(none:Ot PFl)=some r from e)
 |.for4 _ _ _ _ _=>fun _ r e=>nomatch (show(none:Ot PFl)=some r from e)
 |.for2 _ _ _ _=>fun _ r e=>nomatch (show(none:Ot PFl)=some r from e)
 |.whl _ _=>fun _ r e=>nomatch (show(none:Ot PFl)=some r from e)
end
theorem inv_start{f:FD}{fz:Fz}(c:(ZR f.body).all (fun i=>decide (ps.length<=i))=true)(b:Bd fz st)(r:Rels fz st ps ds) :
  Inv st.length (ZR f.body) fz st (ps.map some++List.replicate (f.ns - ps.length) none) (ds.map some++List.replicate (f.ns - ds.length) none):=by
 have slot:∀ (i:Nat) (q:P),(ps.map some++List.replicate (f.ns - ps.length) none:Zt)[i]?=some (some q)->i < ps.length/\ps[i]?=some q:=fun i q h=>by
  by_cases hi:i < ps.length
  ·rw[aZ (by simpa using hi),aQ]at h
   refine⟨hi,?_⟩;cases z:ps[i]? with
   |none=>rw[z]at h;cases h
   |some y=>rw[z]at h;cases h;rfl
  ·rw[bF (by simpa using hi),dN]at h
   split at h<;>cases h
 have noM:∀ (i:Nat),i < ps.length->(ZR f.body).contains i=false:=fun i hi=>by
  cases z:(ZR f.body).contains i with
  |false=>rfl
  |true=>
   have:=aW.mp c i (by simpa using z)
   have:=of_decide_eq_true this;omega
 refine⟨b,aB _,by simp[r.length],fun i q hi h=>?_,fun i q hi h=>?_,fun i i' q q' j hi hi' h h' _ _=>?_⟩
 ·obtain⟨h1,h2⟩:=slot i q h
  obtain⟨d,e1,r1⟩:=r.get h2;refine⟨d,?_,r1⟩;rw[aZ (by simpa[<-r.length] using h1),aQ,e1]
  rfl
 ·rw[noM i (slot i q h).1]at hi;cases hi
 ·rw[noM i (slot i q h).1]at hi;cases hi
theorem Zjj{G:PFn}(hF:YK F G)(f:FD)(e:fnP G f ps=some p){fz:Fz}(b:Bd fz st)(r:Rels fz st ps ds):Gives fz st (fnD F f ds st) p:=by
 unfold fnP at e;split at e
 ·rename_i c
  have I:Inv st.length (ZR f.body) fz st (ps.map some++List.replicate (f.ns - ps.length) none) (ds.map some++List.replicate (f.ns - ds.length) none):=inv_start (by rw[c.1];exact c.2) b r
  have hd:ds.length=f.ps:=by rw[<-r.length];exact c.1
  split at e
  ·rename_i d q
   cases e;obtain⟨r1,st1,fz1,e1,l1,R1,k1⟩:=YI (n0:=st.length) hF f.body _ _ q fz st _ I;cases r1 with
   |rt d'=>exact⟨d',st1,fz1,by unfold fnD;rw[if_pos hd,e1],⟨l1.low,l1.len,l1.sub,l1.new,R1.2⟩,R1.1⟩
   |_=>exact R1.elim
  ·rename_i π' q
   cases e;obtain⟨r1,st1,fz1,e1,l1,R1,k1⟩:=YI (n0:=st.length) hF f.body _ _ q fz st _ I;cases r1 with
   |nx ρ'=>exact⟨.non,st1,fz1,by unfold fnD;rw[if_pos hd,e1],⟨l1.low,l1.len,l1.sub,l1.new,R1.bd⟩,.non⟩
   |_=>exact R1.elim
  ·exact Zb e
 ·exact Zb e
variable{n:Nat}
theorem Qc{T:Nat->Ot FD}{f:FD}(q:T i=some f):Zh T (n+1) i=if (U1 i&&!Ul f)=true then fun _=>none else fnP (Zh T n) f:=by
 show(match T i with|some f=>if (U1 i&&!Ul f)=true then (fun _=>none) else fnP (Zh T n) f|none=>fun _=>none)=_
 rw[q]
theorem ZcT{T:Nat->Ot FD}(q:T i=none):Zh T (n+1) i=fun _=>none:=by
 show(match T i with|some f=>if (U1 i&&!Ul f)=true then (fun _=>none) else fnP (Zh T n) f|none=>fun _=>none)=_
 rw[q]
theorem JU{T:Nat->Ot FD}{f:FD}(q:T i=some f):run T (n+1) i=fnD (run T n) f:=by
 show(match T i with|some f=>fnD (run T n) f|none=>fun _ _=>none)=_
 rw[q]
theorem Q0(T:Nat->Ot FD):∀ n,YK (run T n) (Zh T n)
 |0=>⟨(fun i ps p e=>nomatch (show(none:Ot P)=some p from e)),(fun i _ ps m xs e=>nomatch (show(none:Ot P)=some (.lst m xs) from e))⟩
 |n+1=>by
  refine⟨fun i ps p e fz st ds b r=>?_,fun i hi ps m xs e fz st ds b r=>?_⟩
  ·cases q:T i with
   |none=>rw[ZcT q]at e;cases e
   |some f=>
    rw[Qc q]at e;rw[JU q];split at e
    ·exact Zb e
    ·exact Zjj (Q0 T n) f e b r
  ·cases hi
end Dp



namespace Dp
open PySem PySem.Spec PyProof.Rows L2
variable [ClsTab]
theorem ZmC{α:Type}:∀ {us:Li α},us.length=0->us=[]
 |[],_=>rfl
theorem Zll{α:Type}:∀ {us:Li α},us.length=1->∃ a,us=[a]
 |[a],_=>⟨a,rfl⟩
theorem ZmD{α:Type}:∀ {us:Li α},us.length=2->∃ a b,us=[a,b]
 |[a,b],_=>⟨a,b,rfl⟩
theorem ZmE{α:Type}:∀ {us:Li α},us.length=3->∃ a b c,us=[a,b,c]
 |[a,b,c],_=>⟨a,b,c,rfl⟩
theorem ZmF{α:Type}:∀ {us:Li α},us.length=4->∃ a b c d,us=[a,b,c,d]
 |[a,b,c,d],_=>⟨a,b,c,d,rfl⟩
theorem ZmG{α:Type}:∀ {us:Li α},us.length=5->∃ a b c d e,us=[a,b,c,d,e]
 |[a,b,c,d,e],_=>⟨a,b,c,d,e,rfl⟩
theorem ZmH{α:Type}:∀ {us:Li α},us.length=6->∃ a b c d e f,us=[a,b,c,d,e,f]
 |[a,b,c,d,e,f],_=>⟨a,b,c,d,e,f,rfl⟩
def Ws(K:Fg)(G:Gs)(T:Nat->Ot FD)(C:Ad):Li (Str×Nat×Nat)->Prop
 |[]=>True
 | (m,j,_) :: r=>(∃ y f fd pn N,MethOk K G T C m y j f fd pn N)/\Ws K G T C r
def Wh(Pm:Params)(K:Fg)(mg:Str->Ot vL)(G:Gs)(T:Nat->Ot FD):Gs->Prop
 |[]=>True
 | (x,.cst d) :: r=>(∃ v u,mg x=some u/\RelV v u/\∀ ad H,Den K ad H v d)/\Wh Pm K mg G T r
 | (x,.blt) :: r=>mg x=none/\Wh Pm K mg G T r
 | (x,.dct ks ds) :: r=>Za1 Pm K mg x ks ds/\Wh Pm K mg G T r
 | (x,.fn i _ ds) :: r=>(∃ f fd pn N,DefOk K mg G T x i ds f fd pn N)/\Wh Pm K mg G T r
 | (x,.cls i ms _) :: r=>((mg x=some (.ref (ClsTab.ca i))/\NewOk K (ClsTab.ca i))/\Ws K G T (ClsTab.ca i) ms)/\Wh Pm K mg G T r
section
variable {P:Program}{w:World}{K:Fg}{mg:Str->Ot vL}{base:Heap}{G:Gs}{T:Nat->Ot FD}
def ZiF(Pm:Params)(K:Fg)(mg:Str->Ot vL)(G:Gs)(T:Nat->Ot FD)(x:Str):GV->Prop
 |.cst d=>∃ v u,mg x=some u/\RelV v u/\∀ ad H,Den K ad H v d
 |.blt=>mg x=none
 |.dct ks ds=>Za1 Pm K mg x ks ds
 |.fn i _ ds=>∃ f fd pn N,DefOk K mg G T x i ds f fd pn N
 |.cls i ms _=>(mg x=some (.ref (ClsTab.ca i))/\NewOk K (ClsTab.ca i))/\Ws K G T (ClsTab.ca i) ms
theorem Xf{Pm:Params}:∀ {l:Gs}{x:Str}{g:GV},Wh Pm K mg G T l->l.lookup x=some g->ZiF Pm K mg G T x g
 |[],_,_,_,h=>by cases h
 | (y,v) :: r,x,g,a,h=>by
  have tl:Wh Pm K mg G T r/\ZiF Pm K mg G T y v:=by
   cases v with
   |cst d=>exact⟨a.2,a.1⟩
   |blt=>exact⟨a.2,a.1⟩
   |dct ks ds=>exact⟨a.2,a.1⟩
   |fn i ps ds=>exact⟨a.2,a.1⟩
   |cls i ms subs=>exact⟨a.2,a.1⟩
  rw[bK]at h;cases e:x==y with
  |true=>
   rw[e]at h;cases h;rw[beq_iff_eq.mp e];exact tl.2
  |false=>
   rw[e]at h;exact Xf tl.1 h
theorem JH{C:Ad}:∀ {l:Li (Str×Nat×Nat)},Ws K G T C l->∀ m j ps,l.lookup m=some (j,ps)->∃ y f fd pn N,MethOk K G T C m y j f fd pn N
 |[],_,_,_,_,h=>by cases h
 | (m',j',ps') :: r,a,m,j,ps,h=>by
  rw[bK]at h;cases e:m==m' with
  |true=>
   rw[e]at h;cases h;rw[beq_iff_eq.mp e];exact a.1
  |false=>
   rw[e]at h;exact JH a.2 m j ps h
theorem Zh1{Pm:Params}(h:Wh Pm K mg G T G):Text Pm K mg G T:=
 ⟨fun _ _ e=>Xf h e,fun _ e=>Xf h e,fun _ _ _ e=>Xf h e,fun _ _ _ _ e=>Xf h e,fun x i ms subs e=>by
  have g:ZiF Pm K mg G T x (.cls i ms subs):=Xf h e;exact⟨g.1,JH g.2⟩⟩
theorem Zja(hc:∀ n,XE G (run T n))(X:Text w.params K mg G T)(n:Nat){x:Str}{i:Nat}{ds:Li D}{f:Ad}{fd:FuncData}{pn N:Li Str}(Dk:DefOk K mg G T x i ds f fd pn N):FnOk P w K mg base CX0 (2 * n) f fd pn (spD K (run T n i)):=ZiS hc X n Dk.ob
theorem Zks{H:Hp}{a:Ad}{ns:Li Int}{n i:Nat}(hO:Only H)(hS:SqL K H a (ns.map V.int))(h:∃ st',run T n i [.lst 0] [(false,ns.map .int)]=some (.bl true,st')):spD K (run T n i) [.ref a] H (fun v _=>v=.bl true) fun _ _ _=>False:=by
 obtain⟨st',e⟩:=h;have ds:∀ ns:Li Int,Dens K [a] H (ns.map V.int) (ns.map D.int):=fun ns=>by
  induction ns with
  |nil=>exact .nil
  |cons n l ih=>exact .cons (.int n) ih
 have nT:¬YA H a:=fun⟨o',q,m⟩=>by
  rcases hO a with z|⟨o,xs,z⟩<;>(rw[q]at z;cases z)
  cases m
 refine⟨[a],[.lst 0],[(false,ns.map .int)],.bl true,st',⟨rfl,fun i j b c d _ _ h3 _=>?_,fun i c hc=>?_⟩,.cons (.lst ⟨rfl,nT⟩) .nil,e,fun v ad' H' x S h=>h.ofBl⟩
 ·cases i with
  |zero=>simp at h3
  |succ i=>simp at h3
 ·cases i with
  |succ i=>simp at hc
  |zero=>
   have hc:(false,ns.map D.int)=c:=by simpa using hc
   subst hc;refine⟨a,rfl,.l nT (ds ns) (.inr ⟨rfl,?_⟩)⟩;rcases hS with(h|⟨o,h⟩)|⟨o,its,n,h1,h2,h3,h4,h5,h6⟩
   ·rcases hO a with z|⟨o,xs,z⟩
    ·rw[h]at z;cases z
    ·rw[h]at z;cases z
   ·exact .inl ⟨o,h⟩
   ·exact .inr ⟨o,its,n,⟨h1,h2⟩,⟨h3,h4⟩,h5,h6⟩
end
noncomputable abbrev fnS(x y:Str)(s:Stmt)(dV kV dc pm:vL)(an:Ot Ad)(cd ct:vL):FuncData:=PySem.W.fnOf x y (defArgs s) (defBody s) (defScope s) dV kV dc pm an cd ct
inductive FnAt(K:Fg)(x:Str)(s:Stmt):Prop
 |mk {f:Addr}{oc kV dc pm cd ct:Value}{od an:Option Addr}{sl:Array (Option Value)} (a:PySem.W.nsIn K mainGlobals x=some (some (.ref f))) (l:K.lookup f=some ⟨oc,od,.func (PySem.W.fnOf x x (defArgs s) (defBody s) (defScope s) .none kV dc pm an cd ct),sl⟩) (e:PySem.W.codeIn K cd x=true) (k:PySem.W.keepIn K (.ref f)=true):FnAt K x s
inductive FnAtE(K:Fg)(x:Str)(s:Stmt)(v:Int):Prop
 |mk {f E:Addr}{eo:Obj}{en:Nat}{et:Tok}{oc kV dc pm cd ct:Value}{od an:Option Addr}{sl:Array (Option Value)} (a:PySem.W.nsIn K mainGlobals x=some (some (.ref f))) (l:K.lookup f=some ⟨oc,od,.func (PySem.W.fnOf x x (defArgs s) (defBody s) (defScope s) (.ref E) kV dc pm an cd ct),sl⟩) (e:PySem.W.codeIn K cd x=true) (k:PySem.W.keepIn K (.ref f)=true) (d:K.lookup E=some eo) (g:eo.data=.seq #[.int v et] en):FnAtE K x s v
inductive MtAt(K:Fg)(C:Addr)(x y:Str)(s:Stmt):Prop
 |mk {f:Addr}{oc kV dc pm cd ct:Value}{od an:Option Addr}{sl:Array (Option Value)} (m:PySem.W.findIn K (.ref C) x=some (some (.ref f))) (l:K.lookup f=some ⟨oc,od,.func (PySem.W.fnOf x y (defArgs s) (defBody s) (defScope s) .none kV dc pm an cd ct),sl⟩) (e:PySem.W.codeIn K cd y=true) (k:PySem.W.keepIn K (.ref f)=true) (i:PySem.W.isFn K (.ref f)=true):MtAt K C x y s
structure ClsAt(K:Fg)(x:Str)(C:Addr):Prop where
 ya:PySem.W.nsIn K mainGlobals x=some (some (.ref C))
 yb:PySem.W.makesIn K C=true
 yd:PySem.W.keepIn K (.ref C)=true
 ye:PySem.W.plainGet K C Str.empty=true
 yf:PySem.W.hasDictIn K C=true
 yg:PySem.W.plainOver K C=true
 yh:PySem.W.findIn K (.ref C) "__setattr__"=some (some (.builtin "object.__setattr__"))
 n1:PySem.W.findIn K (.ref C) "takes"=some none
 n2:PySem.W.findIn K (.ref C) "names"=some none
 n3:PySem.W.findIn K (.ref C) "rows"=some none
 n4:PySem.W.findIn K (.ref C) "aims"=some none
variable{C:Ad}
theorem ClsAt.new{K:Fg}{x:Str}(F:ClsAt K x C):NewOk K C:=⟨F.yb,F.yd,⟨F.ye,F.yf,F.yg,F.yh⟩,fun f hf=>by
 have hf:((f == "takes")||((f == "names")||((f == "rows")||((f == "aims")||false))))=true:=hf;rw[Bool.or_false,cB,cB,cB,beq_iff_eq,beq_iff_eq,beq_iff_eq,beq_iff_eq]at hf;rcases hf with rfl|rfl|rfl|rfl
 ·exact F.n1
 ·exact F.n2
 ·exact F.n3
 ·exact F.n4⟩
abbrev VJ(G:Gs)(s:Stmt)(N ps:Li Str)(c:CS):Prop:=FnScope N ps (defScope s)/\(∀ y∈N,L2.Loc (defScope s) y)/\cSs G 60 (defScope s) N (defBody s)=some c
section
variable {K:Fg}{fd:FuncData}{ps:Li Str}
theorem bd1(hl:ps.length=1)(h:∀ a,bindArgs fd ⟨[a],[]⟩=pure (ps.zip [a])):Binds K fd ps []:=.all fun us e=>by obtain⟨_,rfl⟩:=Zll (e.trans hl);exact h _
theorem bd2(hl:ps.length=2)(h:∀ a b,bindArgs fd ⟨[a,b],[]⟩=pure (ps.zip [a,b])):Binds K fd ps []:=.all fun us e=>by obtain⟨_,_,rfl⟩:=ZmD (e.trans hl);exact h _ _
theorem bd3(hl:ps.length=3)(h:∀ a b c,bindArgs fd ⟨[a,b,c],[]⟩=pure (ps.zip [a,b,c])):Binds K fd ps []:=.all fun us e=>by obtain⟨_,_,_,rfl⟩:=ZmE (e.trans hl);exact h _ _ _
theorem bd4(hl:ps.length=4)(h:∀ a b c d,bindArgs fd ⟨[a,b,c,d],[]⟩=pure (ps.zip [a,b,c,d])):Binds K fd ps []:=.all fun us e=>by obtain⟨_,_,_,_,rfl⟩:=ZmF (e.trans hl);exact h _ _ _ _
theorem bd5(hl:ps.length=5)(h:∀ a b c d k,bindArgs fd ⟨[a,b,c,d,k],[]⟩=pure (ps.zip [a,b,c,d,k])):Binds K fd ps []:=.all fun us e=>by obtain⟨_,_,_,_,_,rfl⟩:=ZmG (e.trans hl);exact h _ _ _ _ _
theorem bd6(hl:ps.length=6)(h:∀ a b c d k l,bindArgs fd ⟨[a,b,c,d,k,l],[]⟩=pure (ps.zip [a,b,c,d,k,l])):Binds K fd ps []:=.all fun us e=>by obtain⟨_,_,_,_,_,_,rfl⟩:=ZmH (e.trans hl);exact h _ _ _ _ _ _
theorem bd0(hl:ps.length=0)(h:bindArgs fd ⟨[],[]⟩=pure []):Binds K fd ps []:=.all fun us e=>by rw[ZmC (e.trans hl),List.zip_nil_right];exact h
end
section
variable {Pm:Params}{K:Fg}{mg:Str->Ot vL}{G:Gs}{T:Nat->Ot FD}{h:Heap}{x y:Str}{i p:Nat}{s:Stmt}{N ps:Li Str}{c:CS}{r:Gs}
theorem gD(X:K.In h)(G0:h.Ns mainGlobals mg)(F:FnAt K x s)(q:VJ G s N ps c)(hT:T i=some ⟨ps.length,N.length,c⟩)(t:Wh Pm K mg G T r)(hb:∀ kV dc pm an cd ct,Binds K (fnS x x s .none kV dc pm an cd ct) ps []:=by first|exact fun _ _ _ _ _ _=>bd1 rfl fun _=>rfl|exact fun _ _ _ _ _ _=>bd2 rfl fun _ _=>rfl|exact fun _ _ _ _ _ _=>bd3 rfl fun _ _ _=>rfl|exact fun _ _ _ _ _ _=>bd4 rfl fun _ _ _ _=>rfl|exact fun _ _ _ _ _ _=>bd5 rfl fun _ _ _ _ _=>rfl|exact fun _ _ _ _ _ _=>bd6 rfl fun _ _ _ _ _ _=>rfl|exact fun _ _ _ _ _ _=>bd0 rfl rfl):Wh Pm K mg G T ((x,.fn i p []) :: r):=by
 cases F with
 |mk a l e k=>exact⟨⟨_,_,ps,N,.inl ⟨s,_,_,_,_,_,_,_,_,_,_,c,rfl,l,e,q.1,q.2.1,q.2.2,hT⟩,k,PySem.W.mg_of X G0 a,fun m hm=>⟨[],[],fun _ _=>by rw[List.drop_nil];exact .nil,.nil,hb _ _ _ _ _ _⟩⟩,t⟩
theorem gM{r:Li (Str×Nat×Nat)}(F:MtAt K C x y s)(q:VJ G s N ps c)(hT:T i=some ⟨ps.length,N.length,c⟩)(t:Ws K G T C r)(hb:∀ kV dc pm an cd ct,Binds K (fnS x y s .none kV dc pm an cd ct) ps []:=by first|exact fun _ _ _ _ _ _=>bd1 rfl fun _=>rfl|exact fun _ _ _ _ _ _=>bd2 rfl fun _ _=>rfl|exact fun _ _ _ _ _ _=>bd3 rfl fun _ _ _=>rfl|exact fun _ _ _ _ _ _=>bd4 rfl fun _ _ _ _=>rfl|exact fun _ _ _ _ _ _=>bd5 rfl fun _ _ _ _ _=>rfl|exact fun _ _ _ _ _ _=>bd6 rfl fun _ _ _ _ _ _=>rfl|exact fun _ _ _ _ _ _=>bd0 rfl rfl):Ws K G T C ((x,i,p) :: r):=by
 cases F with
 |mk m l e k j=>exact⟨⟨y,_,_,ps,N,⟨s,_,_,_,_,_,_,_,_,_,_,c,rfl,l,e,q.1,q.2.1,q.2.2,hT⟩,⟨m,j,k⟩,hb _ _ _ _ _ _⟩,t⟩
theorem gC{subs:Li Nat}{ms:Li (Str×Nat×Nat)}(X:K.In h)(G0:h.Ns mainGlobals mg)(hC:ClsTab.ca i=C)(F:ClsAt K x C)(hm:Ws K G T C ms)(t:Wh Pm K mg G T r):Wh Pm K mg G T ((x,.cls i ms subs) :: r):=by
 subst hC;exact⟨⟨⟨PySem.W.mg_of X G0 F.ya,F.new⟩,hm⟩,t⟩
theorem gB(X:K.In h)(G0:h.Ns mainGlobals mg)(z:PySem.W.nsIn K mainGlobals x=some none)(t:Wh Pm K mg G T r):Wh Pm K mg G T ((x,.blt) :: r):=⟨PySem.W.mg_none_of X G0 z,t⟩
theorem gI{v:Int}{k:Tok}(X:K.In h)(G0:h.Ns mainGlobals mg)(g:PySem.W.nsIn K mainGlobals x=some (some (.int v k)))(t:Wh Pm K mg G T r):Wh Pm K mg G T ((x,.cst (.int v)) :: r):=⟨⟨.int v,_,PySem.W.mg_of X G0 g,⟨_,rfl⟩,fun _ _=>.int _⟩,t⟩
theorem gL{fa:Ad}{z:Str}(X:K.In h)(G0:h.Ns mainGlobals mg)(hfa:mg x=some (.ref fa))(F:FnAt K x s)(q:VJ G s N [z] c)(hT:T i=some ⟨1,N.length,c⟩)(hb:∀ kV dc pm an cd ct u,bindArgs (fnS x x s .none kV dc pm an cd ct) ⟨[u],[]⟩=pure [(z,u)]):∃ (fd:FuncData) (N:Li Str),(∀ (s:Sd) (u:vL),BindsTo s fd ⟨[u],[]⟩ [(z,u)])/\DefOk K mg G T x i [] fa fd [z] N:=by
 cases F with
 |@mk f _ _ _ _ _ _ _ _ _ a l e k=>
  have e':=hfa.symm.trans (PySem.W.mg_of X G0 a);have e':fa=f:=by cases e';rfl
  rw[e'];exact⟨_,N,fun _ u=>.of_eq (hb _ _ _ _ _ _ u),.inl ⟨s,_,_,_,_,_,_,_,_,_,_,c,rfl,l,e,q.1,q.2.1,q.2.2,hT⟩,k,PySem.W.mg_of X G0 a,fun m hm=>⟨[],[],fun _ _=>by rw[List.drop_nil];exact .nil,.nil,.all fun us hl=>by obtain⟨u,rfl⟩:=Zll hl;exact hb _ _ _ _ _ _ u⟩⟩
end
omit [ClsTab] in
theorem ZcE{l:PySem.W.OpenLaw}{q:Program}{loose:Li Str}{XP:(Str->Ot vL)->Heap->Prop}{YP:World->Heap->Prop}{d:DefRec}{K:Params->Fg}{G:Gs}{T:Nat->Ot FD}{n i:Nat}{x:Str}(hn:l.most=some 63)(hdf:d.params.defaults=[])(hr:Room (2 * n) callerA)(hY:∀ (w:World) (h:Heap),YP w h->(K w.params).In h)(hc:∀ [ClsTab] n,XE G (run T n))(F:∀ (w:World) (mg:Str->Ot vL) (fa:Ad) (h:Heap),(K w.params).In h->h.Ns mainGlobals mg->mg d.name=some (.ref fa)->
   ∃ _:ClsTab,Text w.params (K w.params) mg G T/\∃ (fd:FuncData) (N:Li Str),(∀ (s:Sd) (u:vL),BindsTo s fd ⟨[u],[]⟩ [(x,u)])/\DefOk (K w.params) mg G T d.name i [] fa fd [x] N)(L:∀ ns:Li Int,ns.length<=63->∃ st',run T n i [.lst 0] [(false,ns.map .int)]=some (.bl true,st')) :
  PySem.W.WalkO q loose XP YP l.row.toRowW d [] (fun f vs=>PySem.call f vs):=
 L2.walk_of (n:=63) (k:=2 * n) (x:=x) (CX:=fun _=>CX0) (sp:=fun w vs H Q E=>∀ c:ClsTab,@spD c (K w.params) (run T n i) vs H Q E) hn (by decide) hdf hr hY
  (fun w mg fa h KX G0 hmg=>by
   obtain⟨c,X,fd,N,hb,Dk⟩:=F w mg fa h KX G0 hmg;refine⟨fd,hb,fun base _ _=>?_⟩
   have fo:=Zja (P:=l.prog) (w:=w) (base:=base) (fun n=>hc n) X n Dk
   exact⟨fun vs H Q E z=>fo.len vs H Q E (z c),fun A outer s H args us vs Q E a1 a2 a3 a4 z=>fo.run A outer s H args us vs Q E a1 a2 a3 a4 (z c)⟩)
  (fun w H a ns hl hO hS c=>Zks hO hS (L ns hl)) fun _ _ _ _ _ z=>z

end Dp


namespace Dp
open PySem
theorem WL:∀ {l m:Li Char},l.map Char.toNat=m.map Char.toNat->l=m
 |[],[],_=>rfl
 |[],_ :: _,h=>by cases h
 |_ :: _,[],h=>by cases h
 |a :: l,b :: m,h=>by
  rw[aM,aM]at h
  injection h with h1 h2
  have:a=b:=by
   apply Char.ext
   apply UInt32.toNat_inj.mp
   exact h1
  rw[this,WL h2]
@[simp] theorem Znp{a b:String}:(Str.ofString a=Str.ofString b)=(a=b):=by
 apply propext
 constructor
 ·intro h
  rw[Str.ofString_eq_toList,Str.ofString_eq_toList]at h
  injection h with h
  have h2:=congrArg Array.toList h;simp only[bO]at h2;exact String.toList_inj.mp (WL h2)
 ·intro h;rw[h]
variable{p:Prop}{f f':PEv}{ds:Li D}{fr:Li Nat}{m':Bool}{n k:Nat}{g:PEx}{u:Ot PFl}{o:Ot P}{B:P->Zt->Ot PFl}
section
variable {F:PFn}{π:Zt}{a b c lo hi it elt cnd:CE}{M:Li Nat}
noncomputable def V1(c:Ot P)(x y:Ot P):Ot P:=match c with
 |some (.bl true)=>x
 |some (.bl false)=>y
 |_=>none
@[simp] theorem ZdN{k:Bool}{x y:Ot P}:V1 (some (.bl k)) x y=if k=true then x else y:=by cases k<;>rfl
@[simp] theorem ZkR{α β:Type}[Decidable p]{u v:Ot α}{f:α->Ot β}:(if p then u else v).bind f=if p then u.bind f else v.bind f:=by split<;>rfl
@[simp] theorem pe_var{i:Nat}:pe F (.var i) π=(π[i]?).join:=by
 show JR i π=_;unfold JR;cases π[i]? with
 |none=>rfl
 |some o=>cases o<;>rfl
@[simp] theorem YJ{d:D}:pe F (.cst d) π=ofD d:=Eq.trans rfl rfl
@[simp] theorem Yg{i:Int}:ofD (.int i)=some (.int i):=Eq.trans rfl rfl
@[simp] theorem Zme{i:Str}:ofD (.str i)=some (.str i):=Eq.trans rfl rfl
@[simp] theorem ZlB:Vz []=some []:=Eq.trans rfl rfl
theorem Yv{g:P->Ot P}:pq1 f g π=(f π).bind g:=by unfold pq1;cases f π<;>rfl
theorem X0{g:P->P->Ot P}:pq2 f f' g π=(f π).bind fun x=>(f' π).bind fun y=>g x y:=by unfold pq2;cases f π<;>cases f' π<;>rfl
theorem ZjR{f'':PEv}{g:P->P->P->Ot P}:pq3 f f' f'' g π=(f π).bind fun x=>(f' π).bind fun y=>(f'' π).bind fun z=>g x y z:=by unfold pq3;cases f π<;>cases f' π<;>cases f'' π<;>rfl
theorem Uq{g h:PEv}:YL f g h π=V1 (f π) (g π) (h π):=by
 unfold YL V1;rfl
@[simp] theorem ZE{op:Operator}:pe F (.bin op a b) π=(pe F a π).bind fun x=>(pe F b π).bind fun y=>XH op x y:=X0
@[simp] theorem Yc{op:CmpOp}:pe F (.cmp op a b) π=(pe F a π).bind fun x=>(pe F b π).bind fun y=>YD op x y:=X0
@[simp] theorem ZmR:pe F (.neg a) π=(pe F a π).bind ZcO:=Yv
@[simp] theorem pe_not:pe F (.not a) π=(pe F a π).bind ZcP:=Yv
@[simp] theorem pe_and:pe F (.and a b) π=V1 (pe F a π) (pe F b π) (some (.bl false)):=Uq
@[simp] theorem pe_or:pe F (.or a b) π=V1 (pe F a π) (some (.bl true)) (pe F b π):=Uq
@[simp] theorem QV:pe F (.ife c a b) π=V1 (pe F c π) (pe F a π) (pe F b π):=Uq
@[simp] theorem Wc:pe F (.tupE a) π=pe F a π:=Eq.trans rfl rfl
@[simp] theorem QW:pe F (.lstE a) π=(pe F a π).bind ZaB:=Yv
@[simp] theorem Zmf:pe F .aN π=some (.tup []):=Eq.trans rfl rfl
@[simp] theorem Zn:pe F (.aC a b) π=(pe F a π).bind fun x=>(pe F b π).bind fun y=>US x y:=X0
@[simp] theorem pe_ix:pe F (.ix a b) π=(pe F a π).bind fun x=>(pe F b π).bind fun y=>ixP x y:=X0
@[simp] theorem pe_slice:pe F (.slice a lo hi) π=(pe F a π).bind fun x=>(pe F lo π).bind fun y=>(pe F hi π).bind fun z=>Us x y z:=ZjR
@[simp] theorem Ze7:pe F .nop π=some .non:=Eq.trans rfl rfl
@[simp] theorem ZbI:pe F (.part a) π=(pe F a π).bind Qb:=Yv
@[simp] theorem pe_call{f:Nat}:pe F (.call f a ds) π=(pe F a π).bind (UR (F f) ds):=Yv
@[simp] theorem Ze6:pe F (.len a) π=(pe F a π).bind QI:=Yv
@[simp] theorem ZaI:pe F (.tOf a) π=(pe F a π).bind Vj:=Yv
@[simp] theorem Ze5:pe F (.intOf a) π=(pe F a π).bind QE:=Yv
@[simp] theorem ZmQ:pe F (.min a b) π=(pe F a π).bind fun x=>(pe F b π).bind fun y=>ZcL x y:=X0
@[simp] theorem ZmP:pe F (.max a b) π=(pe F a π).bind fun x=>(pe F b π).bind fun y=>ZcK x y:=X0
@[simp] theorem ZmO{T:Ty}:pe F (.isi T a) π=(pe F a π).bind (Zaw T):=Yv

@[simp] theorem ZlE{k:Bool}:pe F (.rs k a) π=(pe F a π).bind (rsP k):=Yv
@[simp] theorem Zhn{ks:Li Str}:pe F (.look ks ds a) π=(pe F a π).bind (Ui ks ds):=Yv
@[simp] theorem Ze3:pe F (.all a) π=(pe F a π).bind (X2 fun l=>l.all id):=Yv
theorem QU{rng:Bool}:pe F (.comp rng fr it elt cnd) π=(pe F it π).bind fun x=>(Xp rng x).bind fun xs=>if xs.length<=1000 then (YF (fun p=>pe F elt (Xk π fr p)) (fun p=>pe F cnd (Xk π fr p)) xs).bind (fun ys=>some (.lst true ys)) else none:=by
 show Yj Zfd (Xp rng) fr (pe F it) (pe F elt) (pe F cnd) π=_;unfold Yj;cases pe F it π with
 |none=>rfl
 |some x=>
  simp only[Ob];cases Xp rng x with
  |none=>rfl
  |some xs=>
   simp only[Ob];split
   ·show(match YF (fun p=>pe F elt (Xk π fr p)) (fun p=>pe F cnd (Xk π fr p)) xs with
     |some ys=>some (P.lst true ys)
     |none=>none)=_
    cases YF (fun p=>pe F elt (Xk π fr p)) (fun p=>pe F cnd (Xk π fr p)) xs<;>rfl
   ·rfl




theorem Ze4{x:P}{xs:Li P}(h:pe F it π=some x)(hw:X7 x=some xs)(hl:xs.length<=1000):pe F (.comp2 fr it elt cnd) π=(YF (fun p=>pe F elt (YM QX π fr p)) (fun p=>pe F cnd (YM QX π fr p)) xs).bind (fun ys=>some (.lst true ys)):=by
 show Yj QX X7 fr (pe F it) (pe F elt) (pe F cnd) π=_;unfold Yj;simp only[h,hw,hl,if_true];cases YF (fun p=>pe F elt (YM QX π fr p)) (fun p=>pe F cnd (YM QX π fr p)) xs<;>rfl
variable {i j:Int}{xs ys:Li P}{x y:P}{m:Bool}
@[simp] theorem X8:XH .Add (.int i) (.int j)=some (.int (i+j)):=Eq.trans rfl rfl
@[simp] theorem Zl8:XH .Sub (.int i) (.int j)=some (.int (i - j)):=Eq.trans rfl rfl
@[simp] theorem Za8:XH .Mult (.int i) (.int j)=if ZI i||ZI j then some (.int (i * j)) else none:=by
 show(match (if ZI i||ZI j then some ((i * j)) else none:Ot Int) with
  |some k=>some (P.int k)
  |none=>none)=_
 by_cases h:(ZI i||ZI j)=true
 ·rw[if_pos h,if_pos h]
 ·rw[if_neg h,if_neg h]
@[simp] theorem YC:XH .FloorDiv (.int i) (.int j)=if 0 < j/\j < 1073741824 then some (.int (i / j)) else if j < 0/\-1073741824 < j then some (.int (i.fdiv j)) else none:=by
 show(match (if 0 < j/\j < 1073741824 then some (i / j) else if j < 0/\-1073741824 < j then some (i.fdiv j) else none:Ot Int) with
  |some k=>some (P.int k)
  |none=>none)=_
 by_cases h:0 < j/\j < 1073741824
 ·rw[if_pos h,if_pos h]
 ·rw[if_neg h,if_neg h]
  by_cases h':j < 0/\-1073741824 < j
  ·rw[if_pos h',if_pos h']
  ·rw[if_neg h',if_neg h']
@[simp] theorem Xq:XH .Mod (.int i) (.int j)=if 0 < j then some (.int (i % j)) else if j < 0 then some (.int (i.fmod j)) else none:=by
 show(match (if 0 < j then some (i % j) else if j < 0 then some (i.fmod j) else none:Ot Int) with
  |some k=>some (P.int k)
  |none=>none)=_
 by_cases h:0 < j
 ·rw[if_pos h,if_pos h]
 ·rw[if_neg h,if_neg h]
  by_cases h':j < 0
  ·rw[if_pos h',if_pos h']
  ·rw[if_neg h',if_neg h']
@[simp] theorem Zdp:XH .Add (.lst m xs) (.lst m' ys)=if xs.length+ys.length<=Zc then some (.lst true (xs++ys)) else none:=by
 show(if Xh .Add=true/\xs.length+ys.length<=Zc then some (P.lst true (xs++ys)) else none)=_
 by_cases h:xs.length+ys.length<=Zc
 ·rw[if_pos ⟨rfl,h⟩,if_pos h]
 ·rw[if_neg (fun z=>h z.2),if_neg h]
@[simp] theorem Jb:XH .Mult (.lst true [x]) (.int j)=if j<=1000/\-1000<=j then some (.lst true (List.replicate j.toNat x)) else none:=by
 show(if Uf .Mult=true then Zfn true [x] j else none)=_
 exact(if_pos (show Uf .Mult=true from rfl)).trans rfl
theorem lim_iff:ZI i=true↔-(2 ^ 64) < i/\i < 2 ^ 64:=by unfold ZI;rw[Ba,decide_eq_true_iff,decide_eq_true_iff]
theorem Xt(h:-(2 ^ 64) < i)(h':i < 2 ^ 64):ZI i=true:=lim_iff.mpr ⟨h,h'⟩
@[simp] theorem Zmo:YD .Lt (.int i) (.int j)=some (.bl (decide (i < j))):=Eq.trans rfl rfl
@[simp] theorem Zmn:YD .Gt (.int i) (.int j)=some (.bl (decide (j < i))):=Eq.trans rfl rfl
@[simp] theorem Zgj:YD .Eq (.int i) (.int j)=some (.bl (decide (i=j))):=Eq.trans rfl rfl
@[simp] theorem Zbd{s t:Str}:YD .Eq (.str s) (.str t)=some (.bl (decide (s=t))):=Eq.trans rfl rfl
@[simp] theorem Zgk{s t:Str}:YD .NotEq (.str s) (.str t)=some (.bl (!decide (s=t))):=Eq.trans rfl rfl
theorem Zgl(h:okP 8 (.tup xs)=true)(h':okP 8 (.tup ys)=true):YD .NotEq (.tup xs) (.tup ys)=some (.bl (!XG xs ys)):=by
 show((eqP (.tup xs) (.tup ys)).map not).map P.bl=_;show((if okP 8 (.tup xs)&&okP 8 (.tup ys) then some (XG xs ys) else ZbF xs ys).map not).map P.bl=_
 rw[h,h'];rfl
@[simp] theorem neg_int:ZcO (.int i)=some (.int (-i)):=Eq.trans rfl rfl
@[simp] theorem ZmJ:ZcP (.bl m)=some (.bl (!m)):=Eq.trans rfl rfl
@[simp] theorem Zma:ZaB (.tup xs)=some (.lst true xs):=Eq.trans rfl rfl
@[simp] theorem ZkZ:US x (.tup xs)=if xs.length < 1000 then some (.tup (x :: xs)) else none:=Eq.trans rfl rfl
@[simp] theorem JL:Qb (.int i)=some (.int i):=Eq.trans rfl rfl
@[simp] theorem Zl9:QI (.lst m xs)=some (.int xs.length):=Eq.trans rfl rfl
@[simp] theorem ZkI:Vj (.lst m xs)=some (.tup xs):=Eq.trans rfl rfl
@[simp] theorem int_int:QE (.int i)=some (.int i):=Eq.trans rfl rfl
@[simp] theorem Zmc:ZcL (.int i) (.int j)=some (.int (if j < i then j else i)):=Eq.trans rfl rfl
@[simp] theorem Zmb:ZcK (.int i) (.int j)=some (.int (if j > i then j else i)):=Eq.trans rfl rfl
@[simp] theorem ix_tup:ixP (.tup xs) (.int i)=atP xs i:=Eq.trans rfl rfl
@[simp] theorem ZmB:ixP (.lst m xs) (.int i)=atP xs i:=Eq.trans rfl rfl
@[simp] theorem Zmz:Zaw .int (.int i)=some (.bl true):=Eq.trans rfl rfl
@[simp] theorem Zmy:Zaw .bool (.int i)=some (.bl false):=Eq.trans rfl rfl
@[simp] theorem ZkV{g:Li P->Ot P}:UR g ds (.tup xs)=(Vz ds).bind fun es=>g (xs++es):=by
 show(match Vz ds with|some es=>g (xs++es)|none=>none)=_
 cases Vz ds<;>rfl
theorem Yb(h:i=(n:Int)):atP xs i=xs[n]?:=by
 subst h;unfold atP ixN;rw[if_pos (by omega)]
 by_cases hn:(n:Int) < xs.length
 ·rw[if_pos hn];rfl
 ·rw[if_neg hn]
  rw[dX (by omega)]
  rfl
@[simp] theorem Zl7:atP xs ((n:Nat):Int)=xs[n]?:=Yb rfl
@[simp] theorem Zns:atP xs 2=xs[2]?:=Yb rfl
@[simp] theorem Znt:atP xs 3=xs[3]?:=Yb rfl
@[simp] theorem Znu:atP xs 4=xs[4]?:=Yb rfl
@[simp] theorem Znv:atP xs 5=xs[5]?:=Yb rfl
@[simp] theorem Znw:atP xs 6=xs[6]?:=Yb rfl
@[simp] theorem Znx:atP xs 7=xs[7]?:=Yb rfl
@[simp] theorem Znq:atP xs 0=xs[0]?:=Yb rfl
@[simp] theorem Znr:atP xs 1=xs[1]?:=Yb rfl
variable {s t:CS}
noncomputable def Vv(x:Ot PFl)(g:Zt->Ot PFl):Ot PFl:=match x with
 |some (.nx π')=>g π'
 |r=>r
@[simp] theorem Ze:Vv (some (.nx π)) g=g π:=Eq.trans rfl rfl
@[simp] theorem Zmh:Vv (some (.rt x)) g=some (.rt x):=Eq.trans rfl rfl
@[simp] theorem ZkH:Vv none g=none:=Eq.trans rfl rfl
@[simp] theorem ZlS[Decidable p]{v:Ot PFl}:Vv (if p then u else v) g=if p then Vv u g else Vv v g:=by split<;>rfl
noncomputable def ZfA(c:Ot P)(x y:Ot PFl):Ot PFl:=match c with
 |some (.bl true)=>x
 |some (.bl false)=>y
 |_=>none
@[simp] theorem Zs{k:Bool}{x y:Ot PFl}:ZfA (some (.bl k)) x y=if k=true then x else y:=by cases k<;>rfl
@[simp] theorem Zo:px F M .skip π=some (.nx π):=Eq.trans rfl rfl
@[simp] theorem Zf:px F M (.seq s t) π=Vv (px F M s π) (px F M t):=by
 show Zff _ _ π=_;unfold Zff Vv;rfl
@[simp] theorem Zfj:px F M (.ret a) π=(pe F a π).bind fun d=>some (.rt d):=by
 show Zfe _ π=_;unfold Zfe;cases pe F a π<;>rfl
@[simp] theorem Zx:px F M (.ite c s t) π=ZfA (pe F c π) (px F M s π) (px F M t π):=by
 show Zfb _ _ _ π=_;unfold Zfb ZfA;rfl
@[simp] theorem Zm:ZK (o :: π) 0 x=some x :: π:=rfl
@[simp] theorem Zl:ZK (o :: π) (k+1) x=o :: ZK π k x:=rfl
theorem Zf2{a b:Bool}(ha:a=true)(hb:b=true):(a&&b)=true:=by rw[ha,hb];rfl
theorem Zf0{l:Li Nat}:(l.all fun i=>!([]:Li Nat).contains i)=true:=by
 induction l with
 |nil=>rfl
 |cons a l ih=>exact ih
theorem Zhb:∀ e:CE,noM [] e=true:=by
 intro e
 induction e<;>first|rfl|assumption | (show(_&&_)=true;exact Zf2 (by assumption) (by assumption)) | (show(_&&(_&&_))=true;exact Zf2 (by assumption) (Zf2 (by assumption) (by assumption))) | (show(_&&_)=true;exact Zf2 (by assumption) Zf0)
theorem ZeC{e:CE}:ZT [] e x=true:=by unfold ZT;rw[Zhb];rfl
@[simp] theorem Zhs:px F [] (.set k a) π=(pe F a π).bind fun p=>some (.nx (ZK π k p)):=by
 show ZaJ _ _ _ _ π=_;unfold ZaJ;cases pe F a π with
 |none=>rfl
 |some p=>simp[ZeC]
theorem Zfk:px F M (.set k a) π=(pe F a π).bind fun p=>if (if M.contains k then YR M a p else ZT M a p||YR M a p) then some (.nx (ZK π k p)) else none:=by
 show ZaJ _ _ _ _ π=_;unfold ZaJ;cases pe F a π<;>rfl
theorem Zhr{l:Nat}(h:pe F a π=some (.tup [x,y]))(hw:(!M.contains k&&!M.contains l&&ZT M a (.tup [x,y]))=true):px F M (.set2 k l a) π=some (.nx (ZK (ZK π k x) l y)):=by
 show JP _ _ _ _ _ π=_;unfold JP;rw[h];show(if (!M.contains k&&!M.contains l&&ZT M a (.tup [x,y]))=true then some (PFl.nx (ZK (ZK π k x) l y)) else none)=_
 rw[if_pos hw]
theorem Z1{p:P}(h:pe F a π=some p)(hm:M.contains k=false)(hk:ZT M a p=true):px F M (.set k a) π=some (.nx (ZK π k p)):=by
 rw[Zfk,h,Ob,hm,if_neg Bf,hk,Bool.true_or,if_pos rfl]
theorem Y5{p:P}(h:pe F a π=some p)(hm:M.contains k=true)(hk:YR M a p=true):px F M (.set k a) π=some (.nx (ZK π k p)):=by
 rw[Zfk,h,Ob,hm,if_pos rfl,if_pos hk]
theorem X1(h:π[k]?=some (some (.lst true xs))):px F M (.app k a) π=(pe F a π).bind fun p=>if M.contains k&&ZT M a p&&decide (xs.length < Zc) then some (.nx (ZK π k (.lst true (xs++[p])))) else none:=by
 show Ze2 _ _ _ _ π=_;unfold Ze2;rw[h];cases pe F a π<;>rfl

theorem Zhq{n:Int}(h:pe F it π=some (.int n))(h1:n < 2 ^ 62)(h2:-(2 ^ 62)<=n)(hw:M.contains k=false):px F M (.for1 k true it s) π=Xi (fun d π=>px F M s (ZK π k d)) (Xv n) π:=by
 show Ze8 _ _ _ _ _ _ _ π=_;unfold Ze8;rw[h];have e:QF true (.int n)=some (Xv n):=by
  show(if n < 2 ^ 62/\-(2 ^ 62)<=n then some (Xv n) else none)=_
  rw[if_pos ⟨h1,h2⟩]
 simp only[e];rw[if_pos (by simpa using hw)]
theorem ZbL{l:Nat}(h:pe F it π=some (.tup [.lst m xs,.tup ys]))(hw:(!M.contains k&&!M.contains l&&noM M it)=true):px F M (.forP k l it s) π=XA (fun x y π=>px F M s (ZK (ZK π k x) l y)) (xs.zip ys) π:=by
 show JN _ _ _ _ _ _ π=_;unfold JN;rw[h];show(if (!M.contains k&&!M.contains l&&noM M it)=true then _ else _)=_
 rw[if_pos hw]

noncomputable def ZiE(x:Ot PFl)(g:Zt->Ot PFl):Ot PFl:=match x with
 |some (.nx π')=>g π'
 |some (.ct π')=>g π'
 |some (.bk π')=>some (.nx π')
 |some (.rt v)=>some (.rt v)
 |none=>none
theorem ZcI:Xi B (x :: xs) π=ZiE (B x π) (Xi B xs):=by
 show(match B x π with
  |some (.nx π')=>Xi B xs π'
  |some (.ct π')=>Xi B xs π'
  |some (.bk π')=>some (.nx π')
  |some (.rt v)=>some (.rt v)
  |none=>none)=_
 unfold ZiE;rfl
noncomputable def Yk(x:Ot PFl):Ot P:=match x with
 |some (.rt d)=>some d
 |some (.nx _)=>some .non
 |_=>none
@[simp] theorem Zni:Yk (some (.rt x))=some x:=Eq.trans rfl rfl
@[simp] theorem Zmg[Decidable p]{v:Ot PFl}:Yk (if p then u else v)=if p then Yk u else Yk v:=by split<;>rfl
theorem Zji{f:FD}{ds:Li P}(hl:ds.length=f.ps)(hM:(ZR f.body).all (fun i=>decide (f.ps<=i))=true):fnP F f ds=Yk (px F (ZR f.body) f.body (ds.map some++List.replicate (f.ns - ds.length) none)):=by
 unfold fnP;rw[if_pos ⟨hl,hM⟩];rfl
theorem ZB{T:Nat->Ot FD}{n:Nat}{f:FD}{ds:Li P}(h:T k=some f)(hl:ds.length=f.ps)(hM:(ZR f.body).all (fun i=>decide (f.ps<=i))=true)(hN:(U1 k&&!Ul f)=false:=by rfl)(hW:(k==16&&(T 999).isSome)=false:=by rfl) :
  Zh T (n+1) k ds=Yk (px (Zh T n) (ZR f.body) f.body (ds.map some++List.replicate (f.ns - ds.length) none)):=by
 have:Zh T (n+1) k=fnP (Zh T n) f:=by rw[Qc h,if_neg (by rw[hN];exact Bf)]
 rw[this];exact Zji hl hM
section
variable {F:PFn}{M:Li Nat}{π π':Zt}{a b:CS}{c:CE}{v:P}
end
theorem Vm{f c:P->Ot P}{p:P->Bool}{g:P->P}:∀ {xs:Li P},(∀ x∈xs,c x=some (.bl (p x)))->(∀ x∈xs,p x=true->f x=some (g x))->YF f c xs=some ((xs.filter p).map g)
 |[],_,_=>rfl
 |x :: xs,hc,hf=>by
  have h1:=hc x Ls;have ih:=Vm (fun y hy=>hc y (Lm _ hy)) (fun y hy=>hf y (Lm _ hy))
  unfold YF;rw[h1];cases q:p x with
  |true=>
   have h2:=hf x Ls q;simp only[h2,ih,List.filter_cons,q,if_true,aM]
  |false=>
   simp only[ih,List.filter_cons,q,Bool.false_eq_true,if_false]
theorem ZdM{f c:P->Ot P}{g:P->P}{xs:Li P}(hc:∀ x∈xs,c x=some (.bl true))(hf:∀ x∈xs,f x=some (g x)):YF f c xs=some (xs.map g):=by
 rw[Vm (p:=fun _=>true) hc (fun x hx _=>hf x hx)]
 rw[List.filter_eq_self.mpr (fun _ _=>rfl)]
theorem ZkG:Xp false (.tup xs)=some xs:=rfl
theorem UO:∀ {bs:Li Bool},XJ (bs.map P.bl)=some bs
 |[]=>rfl
 |b :: bs=>by show(XJ (bs.map P.bl)).map (b :: ·)=_;rw[UO];rfl
@[simp] theorem Qd{f:Li Bool->Bool}{bs:Li Bool}:X2 f (.lst m (bs.map P.bl))=some (.bl (f bs)):=by
 show(match XJ (bs.map P.bl) with
  |some bs=>some (P.bl (f bs))
  |none=>none)=_
 rw[UO]
theorem U7{B:P->Zt->Ot PFl}{I:Nat->Zt->Prop}:∀ (j k:Nat),(∀ i,k<=i->i < k+j->∀ π,I i π->∃ π',B (.int (i:Int)) π=some (.nx π')/\I (i+1) π')->∀ π,I k π->∃ π',Xi B ((List.range' k j).map fun(i:Nat)=>P.int (i:Int)) π=some (.nx π')/\I (k+j) π'
 |0,k,_,π,h=>⟨π,rfl,h⟩
 |j+1,k,hb,π,h=>by
  obtain⟨π1,e1,i1⟩:=hb k (aB _) (by omega) π h
  obtain⟨π2,e2,i2⟩:=U7 j (k+1) (fun i h1 h2=>hb i (by omega) (by omega)) π1 i1
  refine⟨π2,?_,by rw[show k+(j+1)=k+1+j by omega];exact i2⟩
  rw[List.range'_succ,aM,ZcI,e1];exact e2
theorem YZ(I:Nat->Zt->Prop){m:Nat}(hb:∀ i,i < m->∀ π,I i π->∃ π',B (.int (i:Int)) π=some (.nx π')/\I (i+1) π'){π:Zt}(h:I 0 π):∃ π',Xi B (Xv (m:Int)) π=some (.nx π')/\I m π':=by
 have:=U7 (B:=B) (I:=I) m 0 (fun i _ h2=>hb i (by omega)) π h
 rw[Nat.zero_add]at this;have e:Xv (m:Int)=(List.range' 0 m).map fun(i:Nat)=>P.int (i:Int):=by
  unfold Xv;rw[show((m:Int)).toNat=m by omega,List.range_eq_range']
 rw[e];exact this
theorem WR(h:pe F it π=some (.int (n:Int)))(h1:n<=100000)(hw:M.contains k=false):px F M (.for1 k true it s) π=Xi (fun d π=>px F M s (ZK π k d)) (Xv (n:Int)) π:=
 Zhq h (Int.lt_of_le_of_lt (Int.ofNat_le.mpr h1) (by decide)) (Int.le_trans (by decide) (Int.natCast_nonneg n)) hw
mutual
theorem Zb3:∀ {n:Nat}{x:P},okP n x=true->Q9 x x=true
 |_,.non,_=>rfl
 |_,.bl a,_=>by simp[Q9]
 |_,.int a,_=>by simp[Q9]
 |_,.str a,_=>by simp[Q9]
 |0,.tup a,h=>by simp[okP]at h
 |n+1,.tup a,h=>Wt (n:=n) (x:=a) h
 |_,.lst a b,h=>by simp[okP]at h
 |_,.dct a b,h=>by simp[okP]at h
 |_,.obj a,h=>by simp[okP]at h
 |_,.kt a,h=>by simp[okP]at h
theorem Wt:∀ {n:Nat}{x:Li P},UJ n x=true->XG x x=true
 |_,[],_=>rfl
 |n,a :: x,h=>by
  have h:(okP n a&&UJ n x)=true:=h;rw[Ba]at h;show(Q9 a a&&XG x x)=true;rw[Zb3 h.1,Wt h.2];rfl
end
theorem Vl(h:okP 8 (.tup xs)=true):YD .NotEq (.tup xs) (.tup xs)=some (.bl false):=by
 rw[Zgl h h,Wt (n:=7) h];rfl
@[simp] theorem ZkY:YD .Eq (.lst m xs) (.lst m' [])=some (.bl xs.isEmpty):=by
 cases xs<;>rfl
end
noncomputable def c_around:FD:=⟨1,1,(.seq (.ret (.bin .Sub (.bin .Mod (.bin .Add (.var 0) (.cst (.int 1000000000))) (.cst (.int 2000000000))) (.cst (.int 1000000000))))
 .skip)⟩
noncomputable def c__law_whole:FD:=⟨1,1,(.seq (.ret (.and (.isi .int (.var 0)) (.not (.isi .bool (.var 0)))))
 .skip)⟩
noncomputable def Zb4:FD:=⟨2,2,(.seq (.ite (.cmp .Eq (.var 1) (.cst (.int 0))) (.seq (.ret (.cst (.int 0)))
 .skip) .skip)
 (.seq (.ret (.call 0 (.aC (.bin .FloorDiv (.var 0) (.var 1)) .aN) []))
 .skip))⟩
noncomputable def Jf:FD:=⟨2,2,(.seq (.ite (.cmp .Eq (.var 1) (.cst (.int 0))) (.seq (.ret (.var 0))
 .skip) .skip)
 (.seq (.ret (.bin .Sub (.var 0) (.bin .Mult (.var 1) (.bin .FloorDiv (.var 0) (.var 1)))))
 .skip))⟩
noncomputable def ZdA:FD:=⟨3,3,(.seq (.ite (.cmp .Eq (.var 1) (.cst (.str (S "+")))) (.seq (.ret (.call 0 (.aC (.bin .Add (.var 0) (.var 2)) .aN) []))
 .skip) .skip)
 (.seq (.ite (.cmp .Eq (.var 1) (.cst (.str (S "-")))) (.seq (.ret (.call 0 (.aC (.bin .Sub (.var 0) (.var 2)) .aN) []))
 .skip) .skip)
 (.seq (.ite (.cmp .Eq (.var 1) (.cst (.str (S "*")))) (.seq (.ret (.call 0 (.aC (.bin .Mult (.var 0) (.var 2)) .aN) []))
 .skip) .skip)
 (.seq (.ite (.cmp .Eq (.var 1) (.cst (.str (S "/")))) (.seq (.ret (.call 1 (.aC (.var 0) (.aC (.var 2) .aN)) []))
 .skip) .skip)
 (.seq (.ret (.call 2 (.aC (.var 0) (.aC (.var 2) .aN)) []))
 .skip)))))⟩
noncomputable def c__law_small_by:FD:=⟨1,2,(.seq (.set 1 (.lstE (.aC (.neg (.cst (.int 1000000000))) (.aC (.neg (.cst (.int 999999999))) (.aC (.neg (.cst (.int 2))) (.aC (.neg (.cst (.int 1))) (.aC (.cst (.int 0)) (.aC (.cst (.int 1)) (.aC (.cst (.int 2)) (.aC (.cst (.int 999999999)) .aN))))))))))
 (.seq (.ite (.cmp .Eq (.bin .Mod (.var 0) (.cst (.int 3))) (.cst (.int 0))) (.seq (.ret (.ix (.var 1) (.bin .Mod (.bin .FloorDiv (.var 0) (.cst (.int 3))) (.cst (.int 8)))))
 .skip) .skip)
 (.seq (.ite (.cmp .Eq (.bin .Mod (.var 0) (.cst (.int 3))) (.cst (.int 1))) (.seq (.ret (.bin .Sub (.bin .Mod (.bin .FloorDiv (.var 0) (.cst (.int 3))) (.cst (.int 13))) (.cst (.int 6))))
 .skip) .skip)
 (.seq (.ret (.bin .Sub (.bin .Mod (.bin .Mult (.bin .FloorDiv (.var 0) (.cst (.int 3))) (.cst (.int 48271))) (.cst (.int 2000000000))) (.cst (.int 1000000000))))
 .skip))))⟩
noncomputable def Zga:FD:=⟨1,1,(.seq (.ret (.and (.call 17 (.aC (.var 0) .aN) []) (.and (.cmp .LtE (.neg (.cst (.int 1000000000))) (.var 0)) (.cmp .LtE (.var 0) (.cst (.int 999999999))))))
 .skip)⟩
noncomputable def Zdv:FD:=⟨2,2,(.seq (.ite (.cmp .Gt (.var 1) (.cst (.int 0))) (.seq (.ret (.and (.cmp .LtE (.cst (.int 0)) (.var 0)) (.cmp .Lt (.var 0) (.var 1))))
 .skip) .skip)
 (.seq (.ret (.and (.cmp .Lt (.var 1) (.var 0)) (.cmp .LtE (.var 0) (.cst (.int 0)))))
 .skip))⟩
noncomputable def VW:FD:=⟨3,3,(.seq (.ret (.bin .Add (.bin .Add (.slice (.var 0) .nop (.part (.var 1))) (.tupE (.aC (.var 2) .aN))) (.slice (.var 0) (.part (.bin .Add (.var 1) (.cst (.int 1)))) .nop)))
 .skip)⟩
noncomputable def Zbb:FD:=⟨3,3,(.seq (.ite (.cmp .Eq (.var 1) (.cst (.str (S "<")))) (.seq (.ret (.cmp .Lt (.var 0) (.var 2)))
 .skip) .skip)
 (.seq (.ite (.cmp .Eq (.var 1) (.cst (.str (S "<=")))) (.seq (.ret (.cmp .LtE (.var 0) (.var 2)))
 .skip) .skip)
 (.seq (.ite (.cmp .Eq (.var 1) (.cst (.str (S "=")))) (.seq (.ret (.cmp .Eq (.var 0) (.var 2)))
 .skip) .skip)
 (.seq (.ite (.cmp .Eq (.var 1) (.cst (.str (S ">=")))) (.seq (.ret (.cmp .GtE (.var 0) (.var 2)))
 .skip) .skip)
 (.seq (.ite (.cmp .Eq (.var 1) (.cst (.str (S ">")))) (.seq (.ret (.cmp .Gt (.var 0) (.var 2)))
 .skip) .skip)
 (.seq (.ret (.cmp .NotEq (.var 0) (.var 2)))
 .skip))))))⟩
noncomputable def Zge:FD:=⟨2,2,(.seq (.ite (.cmp .Eq (.ix (.var 0) (.cst (.int 0))) (.cst (.str (S "name")))) (.seq (.ret (.ix (.var 1) (.ix (.var 0) (.cst (.int 1)))))
 .skip) .skip)
 (.seq (.ret (.ix (.var 0) (.cst (.int 1))))
 .skip))⟩
noncomputable def Zdw:FD:=⟨2,2,(.seq (.ret (.cmp .GtE (.ix (.var 1) (.cst (.int 0))) (.len (.ix (.var 0) (.cst (.int 2))))))
 .skip)⟩
noncomputable def Vw:FD:=⟨2,3,(.seq (.ite (.cmp .NotEq (.ix (.var 0) (.cst (.int 0))) (.cst (.str (S "put")))) (.seq (.ret (.var 1))
 .skip) .skip)
 (.seq (.set 2 (.call 3 (.aC (.call 5 (.aC (.ix (.var 0) (.cst (.int 2))) (.aC (.var 1) .aN)) []) (.aC (.ix (.var 0) (.cst (.int 3))) (.aC (.call 5 (.aC (.ix (.var 0) (.cst (.int 4))) (.aC (.var 1) .aN)) []) .aN))) []))
 (.seq (.ret (.call 42 (.aC (.var 1) (.aC (.ix (.var 0) (.cst (.int 1))) (.aC (.var 2) .aN))) []))
 .skip)))⟩
noncomputable def VV:FD:=⟨3,3,(.seq (.ite (.cmp .Eq (.ix (.var 0) (.cst (.int 0))) (.cst (.str (S "go")))) (.seq (.ret (.ix (.var 0) (.cst (.int 1))))
 .skip) .skip)
 (.seq (.ite (.and (.cmp .Eq (.ix (.var 0) (.cst (.int 0))) (.cst (.str (S "if")))) (.call 4 (.aC (.call 5 (.aC (.ix (.var 0) (.cst (.int 1))) (.aC (.var 2) .aN)) []) (.aC (.ix (.var 0) (.cst (.int 2))) (.aC (.call 5 (.aC (.ix (.var 0) (.cst (.int 3))) (.aC (.var 2) .aN)) []) .aN))) [])) (.seq (.ret (.ix (.var 0) (.cst (.int 4))))
 .skip) .skip)
 (.seq (.ret (.bin .Add (.var 1) (.cst (.int 1))))
 .skip)))⟩
noncomputable def Zgc:FD:=⟨2,5,(.seq (.ite (.call 7 (.aC (.var 0) (.aC (.var 1) .aN)) []) (.seq (.ret (.tupE (.aC (.cst (.str (S "none"))) .aN)))
 .skip) .skip)
 (.seq (.set 2 (.ix (.var 1) (.cst (.int 0))))
 (.seq (.set 3 (.ix (.var 1) (.cst (.int 1))))
 (.seq (.set 4 (.ix (.ix (.var 0) (.cst (.int 2))) (.var 2)))
 (.seq (.ite (.cmp .Eq (.ix (.var 4) (.cst (.int 0))) (.cst (.str (S "tell")))) (.seq (.ret (.tupE (.aC (.cst (.str (S "told"))) (.aC (.call 5 (.aC (.ix (.var 4) (.cst (.int 1))) (.aC (.var 3) .aN)) []) .aN))))
 .skip) .skip)
 (.seq (.ret (.tupE (.aC (.call 9 (.aC (.var 4) (.aC (.var 2) (.aC (.var 3) .aN))) []) (.aC (.call 8 (.aC (.var 4) (.aC (.var 3) .aN)) []) .aN))))
 .skip))))))⟩
noncomputable def c__law_cell_at:FD:=⟨2,2,(.seq (.ite (.cmp .Lt (.var 1) (.len (.var 0))) (.seq (.ret (.ix (.var 0) (.var 1)))
 .skip) .skip)
 (.seq (.ite (.cmp .Eq (.var 0) (.lstE .aN)) (.seq (.ret (.bin .Mod (.bin .Mult (.bin .Add (.bin .Mult (.var 1) (.var 1)) (.cst (.int 7))) (.cst (.int 48271))) (.cst (.int 2147483629))))
 .skip) .skip)
 (.seq (.ret (.bin .Mod (.bin .Mult (.bin .Add (.bin .Mod (.ix (.var 0) (.cst (.int 0))) (.cst (.int 2147483647))) (.cst (.int 7))) (.bin .Add (.bin .Mult (.var 1) (.var 1)) (.cst (.int 48271)))) (.cst (.int 2147483629))))
 .skip)))⟩
noncomputable def c__law_operand:FD:=⟨2,2,(.seq (.ite (.and (.cmp .Gt (.var 1) (.cst (.int 0))) (.cmp .Gt (.bin .Mod (.var 0) (.cst (.int 3))) (.cst (.int 0)))) (.seq (.ret (.tupE (.aC (.cst (.str (S "name"))) (.aC (.bin .Mod (.bin .FloorDiv (.var 0) (.cst (.int 3))) (.var 1)) .aN))))
 .skip) .skip)
 (.seq (.ret (.tupE (.aC (.cst (.str (S "number"))) (.aC (.call 19 (.aC (.bin .FloorDiv (.var 0) (.cst (.int 3))) .aN) []) .aN))))
 .skip))⟩
noncomputable def c__law_row:FD:=⟨4,9,(.seq (.set 4 (.call 28 (.aC (.bin .Mod (.bin .Mult (.var 1) (.cst (.int 48271))) (.cst (.int 2147483647))) (.aC (.var 2) .aN)) []))
 (.seq (.set 5 (.call 28 (.aC (.bin .Mod (.bin .Mult (.bin .Add (.var 1) (.cst (.int 5))) (.cst (.int 1226874159))) (.cst (.int 2147483647))) (.aC (.var 2) .aN)) []))
 (.seq (.set 6 (.bin .Mod (.bin .Mult (.var 0) (.cst (.int 48271))) (.cst (.int 2147483647))))
 (.seq (.set 7 (.bin .Mod (.bin .Mod (.bin .Mult (.bin .Add (.var 0) (.cst (.int 1))) (.cst (.int 742938285))) (.cst (.int 2147483647))) (.bin .Add (.var 3) (.cst (.int 1)))))
 (.seq (.ite (.and (.cmp .Lt (.bin .Mod (.var 0) (.cst (.int 8))) (.cst (.int 3))) (.cmp .Gt (.var 2) (.cst (.int 0)))) (.seq (.set 8 (.bin .Mod (.bin .Mod (.bin .Mult (.bin .Add (.var 1) (.cst (.int 3))) (.cst (.int 950706376))) (.cst (.int 2147483647))) (.var 2)))
 (.seq (.ret (.tupE (.aC (.cst (.str (S "put"))) (.aC (.var 8) (.aC (.var 4) (.aC (.ix (.lstE (.aC (.cst (.str (S "+"))) (.aC (.cst (.str (S "-"))) (.aC (.cst (.str (S "*"))) (.aC (.cst (.str (S "/"))) (.aC (.cst (.str (S "mod"))) .aN)))))) (.bin .Mod (.var 6) (.cst (.int 5)))) (.aC (.var 5) .aN)))))))
 .skip)) .skip)
 (.seq (.ite (.cmp .Lt (.bin .Mod (.var 0) (.cst (.int 8))) (.cst (.int 6))) (.seq (.ret (.tupE (.aC (.cst (.str (S "if"))) (.aC (.var 4) (.aC (.ix (.lstE (.aC (.cst (.str (S "<"))) (.aC (.cst (.str (S "<="))) (.aC (.cst (.str (S "="))) (.aC (.cst (.str (S ">="))) (.aC (.cst (.str (S ">"))) (.aC (.cst (.str (S "!="))) .aN))))))) (.bin .Mod (.var 6) (.cst (.int 6)))) (.aC (.var 5) (.aC (.var 7) .aN)))))))
 .skip) .skip)
 (.seq (.ite (.cmp .Eq (.bin .Mod (.var 0) (.cst (.int 8))) (.cst (.int 6))) (.seq (.ret (.ix (.lstE (.aC (.tupE (.aC (.cst (.str (S "go"))) (.aC (.var 7) .aN))) (.aC (.tupE (.aC (.cst (.str (S "skip"))) .aN)) .aN))) (.bin .Mod (.var 6) (.cst (.int 2)))))
 .skip) .skip)
 (.seq (.ret (.tupE (.aC (.cst (.str (S "tell"))) (.aC (.var 4) .aN))))
 .skip))))))))⟩
noncomputable def WX:CS:=(.seq (.set 10 (.call 19 (.aC (.bin .Add (.bin .FloorDiv (.var 2) (.cst (.int 4))) (.var 7)) .aN) []))
 (.seq (.app 9 (.tupE (.aC (.min (.var 10) (.cst (.int 5))) (.aC (.max (.var 10) (.cst (.int 5))) .aN))))
 .skip))
noncomputable def WY:CS:=(.seq (.set 8 (.call 27 (.aC (.var 0) (.aC (.bin .Add (.cst (.int 2)) (.bin .Mult (.cst (.int 2)) (.var 7))) .aN)) []))
 (.seq (.app 6 (.call 29 (.aC (.var 8) (.aC (.call 27 (.aC (.var 0) (.aC (.bin .Add (.cst (.int 3)) (.bin .Mult (.cst (.int 2)) (.var 7))) .aN)) []) (.aC (.var 4) (.aC (.var 5) .aN)))) []))
 .skip))
noncomputable def VR:FD:=⟨2,11,(.seq (.set 2 (.bin .Mod (.call 27 (.aC (.var 0) (.aC (.cst (.int 0)) .aN)) []) (.cst (.int 2147483647))))
 (.seq (.set 3 (.bin .Mod (.var 2) (.cst (.int 4))))
 (.seq (.set 4 (.bin .Add (.var 3) (.bin .Mod (.bin .Mod (.bin .Mult (.var 2) (.cst (.int 48271))) (.cst (.int 2147483647))) (.bin .Sub (.cst (.int 6)) (.var 3)))))
 (.seq (.set 5 (.bin .Mod (.call 27 (.aC (.var 0) (.aC (.cst (.int 1)) .aN)) []) (.bin .Add (.var 1) (.cst (.int 1)))))
 (.seq (.set 6 (.lstE .aN))
 (.seq (.for1 7 true (.var 5) WY)
 (.seq (.set 9 (.lstE .aN))
 (.seq (.for1 7 true (.var 3) WX)
 (.seq (.ret (.tupE (.aC (.tOf (.var 9)) (.aC (.var 4) (.aC (.tOf (.var 6)) .aN)))))
 .skip)))))))))⟩
noncomputable def Zaj:CS:=(.seq (.set 1 (.bin .Mult (.var 1) (.cst (.int 2))))
 .skip)
noncomputable def Zdx:FD:=⟨1,3,(.seq (.set 1 (.cst (.int 1)))
 (.seq (.for1 2 true (.var 0) Zaj)
 (.seq (.ret (.var 1))
 .skip)))⟩
noncomputable def Zgb:FD:=⟨2,2,(.seq (.ret (.tupE (.aC (.cst (.int 0)) (.aC (.bin .Add (.var 1) (.bin .Mult (.tupE (.aC (.cst (.int 0)) .aN)) (.bin .Sub (.ix (.var 0) (.cst (.int 1))) (.len (.var 1))))) .aN))))
 .skip)⟩
noncomputable def Qq:FD:=⟨1,1,(.seq (.ret (.isi .str (.ix (.var 0) (.cst (.int 0)))))
 .skip)⟩
noncomputable def Zb1:CS:=(.seq (.set 6 (.call 10 (.aC (.var 0) (.aC (.var 3) .aN)) []))
 (.seq (.app 4 (.var 6))
 (.seq (.ite (.call 11 (.aC (.var 6) .aN) []) (.seq (.ret (.tOf (.var 4)))
 .skip) .skip)
 (.seq (.set 3 (.var 6))
 .skip))))
noncomputable def Zgd:FD:=⟨3,7,(.seq (.set 3 (.call 6 (.aC (.var 0) (.aC (.var 1) .aN)) []))
 (.seq (.set 4 (.lstE (.aC (.var 3) .aN)))
 (.seq (.for1 5 true (.var 2) Zb1)
 (.seq (.app 4 (.ife (.call 7 (.aC (.var 0) (.aC (.var 3) .aN)) []) (.tupE (.aC (.cst (.str (S "none"))) .aN)) (.tupE (.aC (.cst (.str (S "late"))) .aN))))
 (.seq (.ret (.tOf (.var 4)))
 .skip)))))⟩
noncomputable def Zb6:FD:=⟨3,3,(.seq (.ret (.ix (.call 12 (.aC (.var 0) (.aC (.var 1) (.aC (.var 2) .aN))) []) (.neg (.cst (.int 1)))))
 .skip)⟩
noncomputable def Vy:CE:=(.comp false [] (.var 1) (.ix (.var 0) (.cst (.int 0))) (.cst (.bl true)))
noncomputable def UD:FD:=⟨1,2,(.seq (.set 1 (.slice (.var 0) .nop (.part (.neg (.cst (.int 1))))))
 (.seq (.ite (.cmp .NotEq (.ix (.ix (.var 0) (.neg (.cst (.int 1)))) (.cst (.int 0))) (.cst (.str (S "told")))) (.seq (.set 1 (.slice (.var 1) .nop (.part (.neg (.cst (.int 1))))))
 .skip) .skip)
 (.seq (.ret Vy)
 .skip)))⟩
noncomputable def Q7:CS:=(.seq (.set 1 (.bin .BitOr (.var 1) (.call 43 (.aC (.var 2) .aN) [])))
 .skip)
noncomputable def Zb7:FD:=⟨1,3,(.seq (.set 1 (.cst (.int 0)))
 (.seq (.for1 2 false (.call 14 (.aC (.var 0) .aN) []) Q7)
 (.seq (.ret (.var 1))
 .skip)))⟩
noncomputable def Zi4:FD:=⟨3,3,(.seq (.ret (.call 44 (.aC (.call 12 (.aC (.var 0) (.aC (.var 1) (.aC (.var 2) .aN))) []) .aN) []))
 .skip)⟩
noncomputable def UC:FD:=⟨2,2,(.seq (.ret (.and (.cmp .Eq (.ix (.var 0) (.cst (.int 0))) (.cst (.str (S "number")))) (.cmp .Eq (.ix (.var 1) (.cst (.int 0))) (.cst (.str (S "number"))))))
 .skip)⟩
noncomputable def VT:FD:=⟨3,3,(.seq (.ite (.cmp .Lt (.ix (.var 0) (.var 2)) (.ix (.var 0) (.var 1))) (.seq (.ret (.call 42 (.aC (.call 42 (.aC (.var 0) (.aC (.var 1) (.aC (.ix (.var 0) (.var 2)) .aN))) []) (.aC (.var 2) (.aC (.ix (.var 0) (.var 1)) .aN))) []))
 .skip) .skip)
 (.seq (.ret (.var 0))
 .skip))⟩
noncomputable def VS:FD:=⟨1,1,(.seq (.ite (.and (.cmp .Eq (.ix (.var 0) (.cst (.int 3))) (.cst (.str (S "-")))) (.cmp .Eq (.ix (.ix (.var 0) (.cst (.int 4))) (.cst (.int 0))) (.cst (.str (S "number"))))) (.seq (.ret (.bin .Add (.slice (.var 0) .nop (.part (.cst (.int 3)))) (.tupE (.aC (.cst (.str (S "+"))) (.aC (.tupE (.aC (.cst (.str (S "number"))) (.aC (.call 0 (.aC (.neg (.ix (.ix (.var 0) (.cst (.int 4))) (.cst (.int 1)))) .aN) []) .aN))) .aN)))))
 .skip) .skip)
 (.seq (.ret (.var 0))
 .skip))⟩
noncomputable def Wi:FD:=⟨1,4,(.seq (.set 1 (.ix (.var 0) (.cst (.int 2))))
 (.seq (.set 2 (.ix (.var 0) (.cst (.int 3))))
 (.seq (.set 3 (.ix (.var 0) (.cst (.int 4))))
 (.seq (.ite (.or (.and (.cmp .Eq (.var 2) (.cst (.str (S "*")))) (.cmp .Eq (.var 3) (.cst (.tup [(.str (S "number")),(.int 0)])))) (.or (.and (.cmp .Eq (.var 2) (.cst (.str (S "mod")))) (.cmp .Eq (.var 3) (.cst (.tup [(.str (S "number")),(.int 1)])))) (.and (.cmp .Eq (.var 2) (.cst (.str (S "-")))) (.cmp .Eq (.var 1) (.var 3))))) (.seq (.ret (.tupE (.aC (.cst (.str (S "put"))) (.aC (.ix (.var 0) (.cst (.int 1))) (.aC (.cst (.tup [(.str (S "number")),(.int 0)])) (.aC (.cst (.str (S "+"))) (.aC (.cst (.tup [(.str (S "number")),(.int 0)])) .aN)))))))
 .skip) .skip)
 (.seq (.ite (.and (.cmp .In (.var 2) (.tupE (.aC (.cst (.str (S "*"))) (.aC (.cst (.str (S "/"))) .aN)))) (.cmp .Eq (.var 3) (.cst (.tup [(.str (S "number")),(.int 1)])))) (.seq (.ret (.tupE (.aC (.cst (.str (S "put"))) (.aC (.ix (.var 0) (.cst (.int 1))) (.aC (.var 1) (.aC (.cst (.str (S "+"))) (.aC (.cst (.tup [(.str (S "number")),(.int 0)])) .aN)))))))
 .skip) .skip)
 (.seq (.ret (.var 0))
 .skip))))))⟩
noncomputable def Zal:FD:=⟨1,1,(.seq (.ite (.call 73 (.aC (.ix (.var 0) (.cst (.int 2))) (.aC (.ix (.var 0) (.cst (.int 4))) .aN)) []) (.seq (.ret (.tupE (.aC (.cst (.str (S "put"))) (.aC (.ix (.var 0) (.cst (.int 1))) (.aC (.tupE (.aC (.cst (.str (S "number"))) (.aC (.call 3 (.aC (.ix (.ix (.var 0) (.cst (.int 2))) (.cst (.int 1))) (.aC (.ix (.var 0) (.cst (.int 3))) (.aC (.ix (.ix (.var 0) (.cst (.int 4))) (.cst (.int 1))) .aN))) []) .aN))) (.aC (.cst (.str (S "+"))) (.aC (.cst (.tup [(.str (S "number")),(.int 0)])) .aN)))))))
 .skip) .skip)
 (.seq (.set 0 (.call 75 (.aC (.var 0) .aN) []))
 (.seq (.ite (.cmp .In (.ix (.var 0) (.cst (.int 3))) (.tupE (.aC (.cst (.str (S "+"))) (.aC (.cst (.str (S "*"))) .aN)))) (.seq (.set 0 (.call 74 (.aC (.var 0) (.aC (.cst (.int 2)) (.aC (.cst (.int 4)) .aN))) []))
 .skip) .skip)
 (.seq (.set 0 (.call 76 (.aC (.var 0) .aN) []))
 (.seq (.ite (.cmp .Eq (.var 0) (.tupE (.aC (.cst (.str (S "put"))) (.aC (.ix (.var 0) (.cst (.int 1))) (.aC (.tupE (.aC (.cst (.str (S "name"))) (.aC (.ix (.var 0) (.cst (.int 1))) .aN))) (.aC (.cst (.str (S "+"))) (.aC (.cst (.tup [(.str (S "number")),(.int 0)])) .aN))))))) (.seq (.ret (.cst (.tup [(.str (S "skip"))])))
 .skip) .skip)
 (.seq (.ret (.var 0))
 .skip))))))⟩
noncomputable def WF:FD:=⟨1,1,(.seq (.ite (.cmp .Eq (.ix (.var 0) (.cst (.int 2))) (.cst (.str (S ">")))) (.seq (.ret (.tupE (.aC (.cst (.str (S "if"))) (.aC (.ix (.var 0) (.cst (.int 3))) (.aC (.cst (.str (S "<"))) (.aC (.ix (.var 0) (.cst (.int 1))) (.aC (.ix (.var 0) (.cst (.int 4))) .aN)))))))
 .skip) .skip)
 (.seq (.ite (.cmp .Eq (.ix (.var 0) (.cst (.int 2))) (.cst (.str (S ">=")))) (.seq (.ret (.tupE (.aC (.cst (.str (S "if"))) (.aC (.ix (.var 0) (.cst (.int 3))) (.aC (.cst (.str (S "<="))) (.aC (.ix (.var 0) (.cst (.int 1))) (.aC (.ix (.var 0) (.cst (.int 4))) .aN)))))))
 .skip) .skip)
 (.seq (.ret (.var 0))
 .skip)))⟩
noncomputable def Qr:FD:=⟨1,1,(.seq (.ret (.or (.call 73 (.aC (.ix (.var 0) (.cst (.int 1))) (.aC (.ix (.var 0) (.cst (.int 3))) .aN)) []) (.cmp .Eq (.ix (.var 0) (.cst (.int 1))) (.ix (.var 0) (.cst (.int 3))))))
 .skip)⟩
noncomputable def Zb8:FD:=⟨1,2,(.seq (.set 1 (.call 4 (.aC (.ix (.ix (.var 0) (.cst (.int 1))) (.cst (.int 1))) (.aC (.ix (.var 0) (.cst (.int 2))) (.aC (.ix (.ix (.var 0) (.cst (.int 3))) (.cst (.int 1))) .aN))) []))
 (.seq (.ret (.ife (.var 1) (.tupE (.aC (.cst (.str (S "go"))) (.aC (.ix (.var 0) (.cst (.int 4))) .aN))) (.cst (.tup [(.str (S "skip"))]))))
 .skip))⟩
noncomputable def VU:FD:=⟨1,3,(.seq (.set 1 (.ix (.var 0) (.cst (.int 1))))
 (.seq (.set 2 (.ix (.var 0) (.cst (.int 3))))
 (.seq (.ite (.cmp .NotEq (.ix (.var 0) (.cst (.int 2))) (.cst (.str (S "<=")))) (.seq (.ret (.var 0))
 .skip) .skip)
 (.seq (.ite (.and (.cmp .Eq (.ix (.var 2) (.cst (.int 0))) (.cst (.str (S "number")))) (.cmp .Lt (.ix (.var 2) (.cst (.int 1))) (.cst (.int 999999999)))) (.seq (.ret (.tupE (.aC (.cst (.str (S "if"))) (.aC (.var 1) (.aC (.cst (.str (S "<"))) (.aC (.tupE (.aC (.cst (.str (S "number"))) (.aC (.bin .Add (.ix (.var 2) (.cst (.int 1))) (.cst (.int 1))) .aN))) (.aC (.ix (.var 0) (.cst (.int 4))) .aN)))))))
 .skip) .skip)
 (.seq (.ite (.and (.cmp .Eq (.ix (.var 1) (.cst (.int 0))) (.cst (.str (S "number")))) (.cmp .Gt (.ix (.var 1) (.cst (.int 1))) (.cst (.int (-1000000000))))) (.seq (.ret (.tupE (.aC (.cst (.str (S "if"))) (.aC (.tupE (.aC (.cst (.str (S "number"))) (.aC (.bin .Sub (.ix (.var 1) (.cst (.int 1))) (.cst (.int 1))) .aN))) (.aC (.cst (.str (S "<"))) (.aC (.var 2) (.aC (.ix (.var 0) (.cst (.int 4))) .aN)))))))
 .skip) .skip)
 (.seq (.ret (.var 0))
 .skip))))))⟩
noncomputable def Zb5:FD:=⟨2,2,(.seq (.ite (.cmp .Eq (.ix (.var 0) (.cst (.int 4))) (.bin .Add (.var 1) (.cst (.int 1)))) (.seq (.ret (.cst (.tup [(.str (S "skip"))])))
 .skip) .skip)
 (.seq (.set 0 (.call 78 (.aC (.var 0) .aN) []))
 (.seq (.ite (.call 79 (.aC (.var 0) .aN) []) (.seq (.ret (.call 80 (.aC (.var 0) .aN) []))
 .skip) .skip)
 (.seq (.ite (.cmp .In (.ix (.var 0) (.cst (.int 2))) (.tupE (.aC (.cst (.str (S "="))) (.aC (.cst (.str (S "!="))) .aN)))) (.seq (.set 0 (.call 74 (.aC (.var 0) (.aC (.cst (.int 1)) (.aC (.cst (.int 3)) .aN))) []))
 .skip) .skip)
 (.seq (.ret (.call 81 (.aC (.var 0) .aN) []))
 .skip)))))⟩
noncomputable def Zam:FD:=⟨2,2,(.seq (.ite (.cmp .Eq (.ix (.var 0) (.cst (.int 0))) (.cst (.str (S "put")))) (.seq (.ret (.call 77 (.aC (.var 0) .aN) []))
 .skip) .skip)
 (.seq (.ite (.cmp .Eq (.ix (.var 0) (.cst (.int 0))) (.cst (.str (S "if")))) (.seq (.ret (.call 82 (.aC (.var 0) (.aC (.var 1) .aN)) []))
 .skip) .skip)
 (.seq (.ite (.cmp .Eq (.var 0) (.tupE (.aC (.cst (.str (S "go"))) (.aC (.bin .Add (.var 1) (.cst (.int 1))) .aN)))) (.seq (.ret (.cst (.tup [(.str (S "skip"))])))
 .skip) .skip)
 (.seq (.ret (.var 0))
 .skip))))⟩
noncomputable def Z6:CE:=(.comp false [1] (.var 0) (.cmp .In (.var 0) (.var 1)) (.cst (.bl true)))
noncomputable def c_is_made_of:FD:=⟨3,3,(.seq (.ret (.and (.and (.cmp .LtE (.cst (.int 1)) (.len (.var 0))) (.cmp .LtE (.len (.var 0)) (.var 2))) (.all Z6)))
 .skip)⟩
noncomputable def c_is_name:FD:=⟨1,1,(.seq (.ret (.call 209 (.aC (.var 0) (.aC (.cst (.str (S "abcdefghijklmnopqrstuvwxyz"))) (.aC (.cst (.int 8)) .aN))) []))
 .skip)⟩
noncomputable def c_are_figures:FD:=⟨2,2,(.seq (.ret (.and (.call 209 (.aC (.var 0) (.aC (.cst (.str (S "0123456789"))) (.aC (.var 1) .aN))) []) (.or (.cmp .Eq (.var 0) (.cst (.str (S "0")))) (.cmp .NotEq (.ix (.var 0) (.cst (.int 0))) (.cst (.str (S "0")))))))
 .skip)⟩
noncomputable def c_number_in:FD:=⟨1,3,(.seq (.set 1 (.ife (.starts (.var 0) (.aC (.cst (.str (S "-"))) .aN)) (.slice (.var 0) (.part (.cst (.int 1))) .nop) (.var 0)))
 (.seq (.ite (.or (.cmp .Eq (.var 0) (.cst (.str (S "-0")))) (.not (.call 211 (.aC (.var 1) (.aC (.cst (.int 10)) .aN)) []))) (.seq (.ret (.cst .non))
 .skip) .skip)
 (.seq (.set 2 (.intOf (.var 0)))
 (.seq (.ret (.ife (.cmp .Eq (.call 0 (.aC (.var 2) .aN) []) (.var 2)) (.var 2) (.cst .non)))
 .skip))))⟩
noncomputable def c_place_in:FD:=⟨1,1,(.seq (.ret (.ife (.call 211 (.aC (.var 0) (.aC (.cst (.int 2)) .aN)) []) (.intOf (.var 0)) (.cst .non)))
 .skip)⟩
noncomputable def ZP:CS:=(.seq (.set 10 (.call 19 (.aC (.call 27 (.aC (.var 0) (.aC (.bin .Add (.cst (.int 2)) (.bin .Mult (.cst (.int 2)) (.var 7))) .aN)) []) .aN) []))
 (.seq (.set 11 (.call 19 (.aC (.call 27 (.aC (.var 0) (.aC (.bin .Add (.cst (.int 3)) (.bin .Mult (.cst (.int 2)) (.var 7))) .aN)) []) .aN) []))
 (.seq (.app 9 (.tupE (.aC (.min (.var 10) (.var 11)) (.aC (.max (.var 10) (.var 11)) .aN))))
 .skip)))
noncomputable def ZQ:CS:=(.seq (.set 8 (.call 27 (.aC (.var 0) (.aC (.bin .Add (.cst (.int 8)) (.bin .Mult (.cst (.int 2)) (.var 7))) .aN)) []))
 (.seq (.app 6 (.call 29 (.aC (.var 8) (.aC (.call 27 (.aC (.var 0) (.aC (.bin .Add (.cst (.int 9)) (.bin .Mult (.cst (.int 2)) (.var 7))) .aN)) []) (.aC (.var 4) (.aC (.var 5) .aN)))) []))
 .skip))
noncomputable def c__law_program_k11:FD:=⟨2,12,(.seq (.set 2 (.bin .Mod (.call 27 (.aC (.var 0) (.aC (.cst (.int 0)) .aN)) []) (.cst (.int 2147483647))))
 (.seq (.set 3 (.bin .Mod (.var 2) (.cst (.int 4))))
 (.seq (.set 4 (.bin .Add (.var 3) (.bin .Mod (.bin .Mod (.bin .Mult (.var 2) (.cst (.int 48271))) (.cst (.int 2147483647))) (.bin .Sub (.cst (.int 6)) (.var 3)))))
 (.seq (.set 5 (.bin .Mod (.call 27 (.aC (.var 0) (.aC (.cst (.int 1)) .aN)) []) (.bin .Add (.var 1) (.cst (.int 1)))))
 (.seq (.set 6 (.lstE .aN))
 (.seq (.for1 7 true (.var 5) ZQ)
 (.seq (.set 9 (.lstE .aN))
 (.seq (.for1 7 true (.var 3) ZP)
 (.seq (.ret (.tupE (.aC (.tOf (.var 9)) (.aC (.var 4) (.aC (.tOf (.var 6)) .aN)))))
 .skip)))))))))⟩
noncomputable def c_fits:FD:=⟨2,2,(.seq (.ite (.cmp .Eq (.var 1) (.cst (.str (S "name")))) (.seq (.ret (.call 210 (.aC (.var 0) .aN) []))
 .skip) .skip)
 (.seq (.ite (.cmp .Eq (.var 1) (.cst (.str (S "number")))) (.seq (.ret (.cmp .IsNot (.call 212 (.aC (.var 0) .aN) []) (.cst .non)))
 .skip) .skip)
 (.seq (.ite (.cmp .Eq (.var 1) (.cst (.str (S "operand")))) (.seq (.ret (.or (.call 210 (.aC (.var 0) .aN) []) (.cmp .IsNot (.call 212 (.aC (.var 0) .aN) []) (.cst .non))))
 .skip) .skip)
 (.seq (.ite (.cmp .Eq (.var 1) (.cst (.str (S "put sign")))) (.seq (.ret (.cmp .In (.var 0) (.cst (.kt [(S "+"),(S "-"),(S "*"),(S "/"),(S "mod")]))))
 .skip) .skip)
 (.seq (.ite (.cmp .Eq (.var 1) (.cst (.str (S "if sign")))) (.seq (.ret (.cmp .In (.var 0) (.cst (.kt [(S "<"),(S "<="),(S "="),(S ">="),(S ">"),(S "!=")]))))
 .skip) .skip)
 (.seq (.ite (.cmp .Eq (.var 1) (.cst (.str (S "place")))) (.seq (.ret (.cmp .IsNot (.call 213 (.aC (.var 0) .aN) []) (.cst .non)))
 .skip) .skip)
 (.seq (.ret (.cmp .Eq (.var 0) (.var 1)))
 .skip)))))))⟩
noncomputable def XO:CE:=(.comp2 [] (.aC (.slice (.var 0) (.part (.cst (.int 1))) .nop) (.aC (.var 1) .aN)) (.call 232 (.aC (.var 0) (.aC (.var 1) .aN)) []) (.cst (.bl true)))
noncomputable def c_is_line:FD:=⟨1,2,(.seq (.ite (.cmp .NotIn (.ix (.var 0) (.cst (.int 0))) (.cst (.kt [(S "take"),(S "name"),(S "put"),(S "if"),(S "go"),(S "tell"),(S "skip")]))) (.seq (.ret (.cst (.bl false)))
 .skip) .skip)
 (.seq (.set 1 (.look [(S "take"),(S "name"),(S "put"),(S "if"),(S "go"),(S "tell"),(S "skip")] [(.tup [(.str (S "name")),(.str (S "number")),(.str (S "number"))]),(.tup [(.str (S "name"))]),(.tup [(.str (S "name")),(.str (S "operand")),(.str (S "put sign")),(.str (S "operand"))]),(.tup [(.str (S "operand")),(.str (S "if sign")),(.str (S "operand")),(.str (S "go")),(.str (S "place"))]),(.tup [(.str (S "place"))]),(.tup [(.str (S "operand"))]),(.tup [])] (.ix (.var 0) (.cst (.int 0)))))
 (.seq (.ite (.or (.cmp .NotEq (.len (.var 0)) (.bin .Add (.cst (.int 1)) (.len (.var 1)))) (.not (.all XO))) (.seq (.ret (.cst (.bl false)))
 .skip) .skip)
 (.seq (.ret (.or (.cmp .NotEq (.ix (.var 0) (.cst (.int 0))) (.cst (.str (S "take")))) (.cmp .LtE (.call 212 (.aC (.ix (.var 0) (.cst (.int 2))) .aN) []) (.call 212 (.aC (.ix (.var 0) (.cst (.int 3))) .aN) []))))
 .skip))))⟩
noncomputable def ZH:CS:=(.seq (.ite (.and (.cmp .In (.var 3) (.tupE (.aC (.cst (.str (S "name"))) (.aC (.cst (.str (S "operand"))) .aN)))) (.call 210 (.aC (.var 2) .aN) [])) (.seq (.app 1 (.var 2))
 .skip) .skip)
 .skip)
noncomputable def c_names_read:FD:=⟨1,4,(.seq (.set 1 (.lstE .aN))
 (.seq (.forP 2 3 (.aC (.slice (.var 0) (.part (.cst (.int 1))) .nop) (.aC (.look [(S "take"),(S "name"),(S "put"),(S "if"),(S "go"),(S "tell"),(S "skip")] [(.tup [(.str (S "name")),(.str (S "number")),(.str (S "number"))]),(.tup [(.str (S "name"))]),(.tup [(.str (S "name")),(.str (S "operand")),(.str (S "put sign")),(.str (S "operand"))]),(.tup [(.str (S "operand")),(.str (S "if sign")),(.str (S "operand")),(.str (S "go")),(.str (S "place"))]),(.tup [(.str (S "place"))]),(.tup [(.str (S "operand"))]),(.tup [])] (.ix (.var 0) (.cst (.int 0)))) .aN)) ZH)
 (.seq (.ret (.var 1))
 .skip)))⟩
noncomputable def c_operand_in:FD:=⟨2,2,(.seq (.ite (.call 210 (.aC (.var 0) .aN) []) (.seq (.ret (.tupE (.aC (.cst (.str (S "name"))) (.aC (.ix (.var 1) (.var 0)) .aN))))
 .skip) .skip)
 (.seq (.ret (.tupE (.aC (.cst (.str (S "number"))) (.aC (.call 212 (.aC (.var 0) .aN) []) .aN))))
 .skip))⟩
noncomputable def YV:CS:=(.seq (.ite (.cmp .Eq (.var 4) (.cst (.str (S "name")))) (.seq (.app 2 (.ix (.var 1) (.var 3)))
 .skip) (.seq (.ite (.cmp .Eq (.var 4) (.cst (.str (S "operand")))) (.seq (.app 2 (.call 235 (.aC (.var 3) (.aC (.var 1) .aN)) []))
 .skip) (.seq (.ite (.cmp .Eq (.var 4) (.cst (.str (S "place")))) (.seq (.app 2 (.call 213 (.aC (.var 3) .aN) []))
 .skip) (.seq (.ite (.cmp .NotEq (.var 4) (.cst (.str (S "go")))) (.seq (.app 2 (.var 3))
 .skip) .skip)
 .skip))
 .skip))
 .skip))
 .skip)
noncomputable def c_row_of:FD:=⟨2,5,(.seq (.set 2 (.lstE (.aC (.ix (.var 0) (.cst (.int 0))) .aN)))
 (.seq (.forP 3 4 (.aC (.slice (.var 0) (.part (.cst (.int 1))) .nop) (.aC (.look [(S "take"),(S "name"),(S "put"),(S "if"),(S "go"),(S "tell"),(S "skip")] [(.tup [(.str (S "name")),(.str (S "number")),(.str (S "number"))]),(.tup [(.str (S "name"))]),(.tup [(.str (S "name")),(.str (S "operand")),(.str (S "put sign")),(.str (S "operand"))]),(.tup [(.str (S "operand")),(.str (S "if sign")),(.str (S "operand")),(.str (S "go")),(.str (S "place"))]),(.tup [(.str (S "place"))]),(.tup [(.str (S "operand"))]),(.tup [])] (.ix (.var 0) (.cst (.int 0)))) .aN)) YV)
 (.seq (.ret (.tOf (.var 2)))
 .skip)))⟩
noncomputable def c_Draft___init__:FD:=⟨1,1,(.seq (.put 0 (.cst (.str (S "takes"))) (.lstE .aN))
 (.seq (.put 0 (.cst (.str (S "names"))) .dnew)
 (.seq (.put 0 (.cst (.str (S "rows"))) (.lstE .aN))
 (.seq (.put 0 (.cst (.str (S "aims"))) (.lstE .aN))
 .skip))))⟩
noncomputable def c_Draft_has_room:FD:=⟨2,3,(.seq (.ite (.cmp .Eq (.var 1) (.cst (.str (S "take")))) (.seq (.set 2 (.and (.cmp .Eq (.len (.dict [(S "names")] (.var 0))) (.len (.dict [(S "takes")] (.var 0)))) (.cmp .Eq (.len (.dict [(S "rows")] (.var 0))) (.cst (.int 0)))))
 (.seq (.ret (.and (.var 2) (.cmp .Lt (.len (.dict [(S "takes")] (.var 0))) (.cst (.int 3)))))
 .skip)) .skip)
 (.seq (.ite (.cmp .Eq (.var 1) (.cst (.str (S "name")))) (.seq (.ret (.and (.cmp .Eq (.len (.dict [(S "rows")] (.var 0))) (.cst (.int 0))) (.cmp .Lt (.len (.dict [(S "names")] (.var 0))) (.cst (.int 5)))))
 .skip) .skip)
 (.seq (.ret (.cmp .Lt (.len (.dict [(S "rows")] (.var 0))) (.cst (.int 12))))
 .skip)))⟩
noncomputable def c_Draft_read_line:FD:=⟨3,3,(.seq (.ite (.or (.not (.call 233 (.aC (.var 1) .aN) [])) (.not (.meth [(237,239)] (.var 0) (.aC (.ix (.var 1) (.cst (.int 0))) .aN)))) (.seq .stop
 .skip) .skip)
 (.seq (.ite (.cmp .In (.ix (.var 1) (.cst (.int 0))) (.tupE (.aC (.cst (.str (S "take"))) (.aC (.cst (.str (S "name"))) .aN)))) (.seq (.act (.meth [(237,241)] (.var 0) (.aC (.var 1) (.aC (.var 2) .aN))))
 .skip) (.seq (.act (.meth [(237,242)] (.var 0) (.aC (.var 1) (.aC (.var 2) .aN))))
 .skip))
 .skip))⟩
noncomputable def c_Draft_read_name:FD:=⟨3,3,(.seq (.ite (.cmp .In (.ix (.var 1) (.cst (.int 1))) (.dict [(S "names")] (.var 0))) (.seq .stop
 .skip) .skip)
 (.seq (.dput 0 (.dict [(S "names")] (.var 0)) (.ix (.var 1) (.cst (.int 1))) (.len (.dict [(S "names")] (.var 0))))
 (.seq (.ite (.cmp .Eq (.ix (.var 1) (.cst (.int 0))) (.cst (.str (S "take")))) (.seq (.app2 (.dict [(S "takes")] (.var 0)) (.tupE (.aC (.call 212 (.aC (.ix (.var 1) (.cst (.int 2))) .aN) []) (.aC (.call 212 (.aC (.ix (.var 1) (.cst (.int 3))) .aN) []) .aN))))
 .skip) .skip)
 .skip)))⟩
noncomputable def ZL:CS:=(.seq (.ite (.cmp .NotIn (.var 3) (.dict [(S "names")] (.var 0))) (.seq .stop
 .skip) .skip)
 .skip)
noncomputable def c_Draft_read_row:FD:=⟨3,5,(.seq (.for1 3 false (.call 234 (.aC (.var 1) .aN) []) ZL)
 (.seq (.set 4 (.call 236 (.aC (.var 1) (.aC (.dict [(S "names")] (.var 0)) .aN)) []))
 (.seq (.app2 (.dict [(S "rows")] (.var 0)) (.var 4))
 (.seq (.ite (.cmp .In (.ix (.var 4) (.cst (.int 0))) (.tupE (.aC (.cst (.str (S "if"))) (.aC (.cst (.str (S "go"))) .aN)))) (.seq (.app2 (.dict [(S "aims")] (.var 0)) (.tupE (.aC (.var 2) (.aC (.ix (.var 4) (.neg (.cst (.int 1)))) .aN))))
 .skip) .skip)
 .skip))))⟩
noncomputable def ZA:CS:=(.seq (.ite (.cmp .Gt (.var 2) (.len (.dict [(S "rows")] (.var 0)))) (.seq .stop
 .skip) .skip)
 .skip)
noncomputable def c_Draft_check_places:FD:=⟨1,3,(.seq (.for2 1 2 (.dict [(S "aims")] (.var 0)) ZA)
 .skip)⟩
noncomputable def c_Draft_told:FD:=⟨1,1,(.seq (.ret (.tupE (.aC (.tOf (.dict [(S "takes")] (.var 0))) (.aC (.len (.dict [(S "names")] (.var 0))) (.aC (.tOf (.dict [(S "rows")] (.var 0))) .aN)))))
 .skip)⟩
noncomputable def Yo:CS:=(.seq (.ite (.and (.cmp .NotEq (.var 3) (.cst (.str (S "")))) (.not (.starts (.var 3) (.aC (.cst (.str (S "#"))) .aN)))) (.seq (.act (.meth [(237,240)] (.var 1) (.aC (.tix (.var 3) (.aC (.cst (.str (S " "))) .aN)) (.aC (.var 2) .aN))))
 .skip) .skip)
 .skip)
noncomputable def c_read:FD:=⟨1,4,(.seq (.set 1 (.isc [237,238] .aN))
 (.seq (.forE 2 3 (.tix (.var 0) (.aC (.cst (.str (S "\n"))) .aN)) Yo)
 (.seq (.act (.meth [(237,243)] (.var 1) .aN))
 (.seq (.ret (.meth [(237,244)] (.var 1) .aN))
 .skip))))⟩
noncomputable def XN:CE:=(.comp false [] (.var 0) (.call 246 (.aC (.var 0) .aN) []) (.cst (.bl true)))
noncomputable def c__law_kinds:FD:=⟨1,1,(.seq (.ite (.isi .tuple (.var 0)) (.seq (.ret XN)
 .skip) .skip)
 (.seq (.ite (.isi .str (.var 0)) (.seq (.ret (.cst (.str (S "text"))))
 .skip) .skip)
 (.seq (.ret (.ix (.lstE (.aC (.cst (.str (S "other"))) (.aC (.cst (.str (S "whole"))) .aN))) (.intOf (.call 17 (.aC (.var 0) .aN) []))))
 .skip)))⟩
noncomputable def c__law_read:FD:=⟨1,2,(.seq (.set 1 (.cst .non))
 (.seq (.seq (.set 1 (.call 245 (.aC (.var 0) .aN) []))
 .skip)
 (.seq (.ret (.var 1))
 .skip)))⟩
noncomputable def Yq:CE:=(.comp true [0,2] (.cst (.int 8)) (.ix (.var 2) (.bin .Mod (.bin .FloorDiv (.var 1) (.bin .Add (.var 0) (.cst (.int 1)))) (.cst (.int 26)))) (.cst (.bl true)))
noncomputable def YX:CE:=(.comp true [4,1] (.cst (.int 5)) (.slice (.var 1) .nop (.part (.bin .Add (.bin .Add (.cst (.int 1)) (.bin .Mod (.bin .FloorDiv (.var 2) (.cst (.int 4))) (.cst (.int 4)))) (.var 0)))) (.cst (.bl true)))
noncomputable def YY:CE:=(.comp true [1,5] (.cst (.int 5)) (.ix (.var 2) (.bin .Mod (.bin .Add (.bin .FloorDiv (.var 1) (.cst (.int 4))) (.var 0)) (.cst (.int 8)))) (.cst (.bl true)))
noncomputable def Yn:CS:=(.seq (.set 8 (.ix (.var 2) (.bin .Mod (.bin .Add (.bin .FloorDiv (.var 1) (.cst (.int 256))) (.bin .Mult (.var 3) (.bin .Add (.cst (.int 1)) (.bin .Mod (.bin .FloorDiv (.var 1) (.cst (.int 6656))) (.cst (.int 5)))))) (.cst (.int 26)))))
 (.seq (.app 7 (.bin .Add (.bin .Add (.slice (.var 4) .nop (.part (.var 6))) (.var 8)) (.slice (.var 4) (.part (.bin .Add (.var 6) (.cst (.int 1)))) .nop)))
 .skip))
noncomputable def c__law_names:FD:=⟨2,9,(.seq (.set 2 (.cst (.str (S "abcdefghijklmnopqrstuvwxyz"))))
 (.seq (.set 4 (.joinE (.cst (.str (S ""))) Yq))
 (.seq (.ite (.cmp .Eq (.bin .Mod (.var 1) (.cst (.int 4))) (.cst (.int 0))) (.seq (.ret YX)
 .skip) .skip)
 (.seq (.ite (.cmp .Eq (.bin .Mod (.var 1) (.cst (.int 4))) (.cst (.int 1))) (.seq (.set 5 (.lstE (.aC (.cst (.str (S "go"))) (.aC (.cst (.str (S "put"))) (.aC (.cst (.str (S "if"))) (.aC (.cst (.str (S "mod"))) (.aC (.cst (.str (S "take"))) (.aC (.cst (.str (S "name"))) (.aC (.cst (.str (S "tell"))) (.aC (.cst (.str (S "skip"))) .aN))))))))))
 (.seq (.ret YY)
 .skip)) .skip)
 (.seq (.set 4 (.slice (.var 4) .nop (.part (.bin .Add (.cst (.int 1)) (.bin .Mod (.bin .FloorDiv (.var 1) (.cst (.int 4))) (.cst (.int 8)))))))
 (.seq (.set 6 (.bin .Mod (.bin .FloorDiv (.var 1) (.cst (.int 32))) (.len (.var 4))))
 (.seq (.set 7 (.lstE .aN))
 (.seq (.for1 3 true (.cst (.int 5)) Yn)
 (.seq (.ret (.var 7))
 .skip)))))))))⟩
noncomputable def c__law_word_k13:FD:=⟨2,2,(.seq (.ite (.cmp .Eq (.ix (.var 0) (.cst (.int 0))) (.cst (.str (S "name")))) (.seq (.ret (.ix (.var 1) (.ix (.var 0) (.cst (.int 1)))))
 .skip) .skip)
 (.seq (.ret (.strOf (.ix (.var 0) (.cst (.int 1)))))
 .skip))⟩
noncomputable def c__law_line_k13:FD:=⟨2,3,(.seq (.ite (.cmp .Eq (.ix (.var 0) (.cst (.int 0))) (.cst (.str (S "put")))) (.seq (.set 2 (.bin .Add (.bin .Add (.bin .Add (.bin .Add (.bin .Add (.cst (.str (S "put "))) (.ix (.var 1) (.ix (.var 0) (.cst (.int 1))))) (.cst (.str (S " ")))) (.call 214 (.aC (.ix (.var 0) (.cst (.int 2))) (.aC (.var 1) .aN)) [])) (.cst (.str (S " ")))) (.ix (.var 0) (.cst (.int 3)))))
 (.seq (.ret (.bin .Add (.bin .Add (.var 2) (.cst (.str (S " ")))) (.call 214 (.aC (.ix (.var 0) (.cst (.int 4))) (.aC (.var 1) .aN)) [])))
 .skip)) .skip)
 (.seq (.ite (.cmp .Eq (.ix (.var 0) (.cst (.int 0))) (.cst (.str (S "if")))) (.seq (.set 2 (.bin .Add (.bin .Add (.bin .Add (.bin .Add (.bin .Add (.cst (.str (S "if "))) (.call 214 (.aC (.ix (.var 0) (.cst (.int 1))) (.aC (.var 1) .aN)) [])) (.cst (.str (S " ")))) (.ix (.var 0) (.cst (.int 2)))) (.cst (.str (S " ")))) (.call 214 (.aC (.ix (.var 0) (.cst (.int 3))) (.aC (.var 1) .aN)) [])))
 (.seq (.ret (.bin .Add (.bin .Add (.var 2) (.cst (.str (S " go ")))) (.strOf (.ix (.var 0) (.cst (.int 4))))))
 .skip)) .skip)
 (.seq (.ite (.cmp .Eq (.ix (.var 0) (.cst (.int 0))) (.cst (.str (S "go")))) (.seq (.ret (.bin .Add (.cst (.str (S "go "))) (.strOf (.ix (.var 0) (.cst (.int 1))))))
 .skip) .skip)
 (.seq (.ite (.cmp .Eq (.ix (.var 0) (.cst (.int 0))) (.cst (.str (S "tell")))) (.seq (.ret (.bin .Add (.cst (.str (S "tell "))) (.call 214 (.aC (.ix (.var 0) (.cst (.int 1))) (.aC (.var 1) .aN)) [])))
 .skip) .skip)
 (.seq (.ret (.cst (.str (S "skip"))))
 .skip)))))⟩
noncomputable def YW:CE:=(.comp false [1] (.ix (.var 0) (.cst (.int 2))) (.call 221 (.aC (.var 0) (.aC (.var 1) .aN)) []) (.cst (.bl true)))
noncomputable def ZS:CS:=(.seq (.ite (.cmp .Lt (.var 3) (.len (.ix (.var 0) (.cst (.int 0))))) (.seq (.set2 4 5 (.ix (.ix (.var 0) (.cst (.int 0))) (.var 3)))
 (.seq (.app 2 (.bin .Add (.bin .Add (.bin .Add (.bin .Add (.bin .Add (.cst (.str (S "take "))) (.ix (.var 1) (.var 3))) (.cst (.str (S " ")))) (.strOf (.var 4))) (.cst (.str (S " ")))) (.strOf (.var 5))))
 .skip)) (.seq (.app 2 (.bin .Add (.cst (.str (S "name "))) (.ix (.var 1) (.var 3))))
 .skip))
 .skip)
noncomputable def c__law_lines:FD:=⟨2,6,(.seq (.set 2 (.lstE .aN))
 (.seq (.for1 3 true (.ix (.var 0) (.cst (.int 1))) ZS)
 (.seq (.ret (.bin .Add (.var 2) YW))
 .skip)))⟩
noncomputable def Yy:CS:=(.seq (.app 2 (.ix (.var 0) (.var 3)))
 (.seq (.set 4 (.bin .Mod (.bin .FloorDiv (.var 1) (.bin .Add (.cst (.int 3)) (.bin .Mult (.cst (.int 2)) (.var 3)))) (.cst (.int 9))))
 (.seq (.ite (.cmp .Lt (.var 4) (.cst (.int 3))) (.seq (.set 2 (.bin .Add (.var 2) (.bin .Mult (.lstE (.aC (.ix (.lstE (.aC (.cst (.str (S ""))) (.aC (.cst (.str (S "#"))) (.aC (.bin .Add (.cst (.str (S "#"))) (.ix (.var 0) (.var 3))) .aN)))) (.var 4)) .aN)) (.bin .Add (.cst (.int 1)) (.bin .Mod (.bin .FloorDiv (.var 1) (.bin .Add (.cst (.int 5)) (.var 3))) (.cst (.int 3)))))))
 .skip) .skip)
 .skip)))
noncomputable def c__law_text:FD:=⟨2,5,(.seq (.set 2 (.bin .Mult (.lstE (.aC (.cst (.str (S ""))) .aN)) (.bin .Mod (.var 1) (.cst (.int 3)))))
 (.seq (.for1 3 true (.len (.var 0)) Yy)
 (.seq (.ret (.joinE (.cst (.str (S "\n"))) (.var 2)))
 .skip)))⟩
noncomputable def XQ:CE:=(.comp false [] (.slice (.ix (.var 1) (.cst (.int 2))) .nop (.part (.cst (.int 1)))) (.var 0) (.cmp .In (.ix (.var 0) (.cst (.int 0))) (.tupE (.aC (.cst (.str (S "put"))) (.aC (.cst (.str (S "tell"))) (.aC (.cst (.str (S "skip"))) .aN))))))
noncomputable def c_law_k13:FD:=⟨1,8,(.seq (.set 1 (.call 30 (.aC (.var 0) (.aC (.cst (.int 12)) .aN)) []))
 (.seq (.set 2 (.call 249 (.aC (.call 27 (.aC (.var 0) (.aC (.cst (.int 32)) .aN)) []) (.aC (.call 27 (.aC (.var 0) (.aC (.cst (.int 33)) .aN)) []) .aN)) []))
 (.seq (.set 3 (.call 251 (.aC (.call 250 (.aC (.var 1) (.aC (.var 2) .aN)) []) (.aC (.call 27 (.aC (.var 0) (.aC (.cst (.int 34)) .aN)) []) .aN)) []))
 (.seq (.set 4 (.call 248 (.aC (.var 3) .aN) []))
 (.seq (.ite (.or (.cmp .NotEq (.var 4) (.var 1)) (.cmp .NotEq (.call 246 (.aC (.var 4) .aN) []) (.call 246 (.aC (.var 1) .aN) []))) (.seq (.ret (.cst (.bl false)))
 .skip) .skip)
 (.seq (.set 5 XQ)
 (.seq (.set 6 (.bin .Add (.slice (.var 1) .nop (.part (.cst (.int 2)))) (.tupE (.aC (.tOf (.var 5)) .aN))))
 (.seq (.set 7 (.call 250 (.aC (.var 6) (.aC (.rs false (.var 2)) .aN)) []))
 (.seq (.ite (.cmp .NotEq (.call 248 (.aC (.call 251 (.aC (.var 7) (.aC (.call 27 (.aC (.var 0) (.aC (.cst (.int 35)) .aN)) []) .aN)) []) .aN) []) (.var 6)) (.seq (.ret (.cst (.bl false)))
 .skip) .skip)
 (.seq (.ret (.cmp .Eq (.call 248 (.aC (.var 3) .aN) []) (.var 1)))
 .skip))))))))))⟩
end Dp

noncomputable section
namespace Dp
open PySem
def YN(x:Int):Int:=(x+1000000000) % 2000000000 - 1000000000
def Sm(a:Int):Prop:=-1000000000<=a/\a<=999999999
instance {a:Int}:Decidable (Sm a):=inferInstanceAs (Decidable (_/\_))
theorem Sm.lim{a:Int}(h:Sm a):ZI a=true:=Xt (by have:=h.1;omega) (by have:=h.2;omega)
structure NumT(T:Nat->Option FD):Prop where
 t0:T 0=some c_around
 t1:T 1=some Zb4
 t2:T 2=some Jf
 t3:T 3=some ZdA
section
variable {T:Nat->Ot FD}{n:Nat}{a b x:Int}{s:Str}
theorem Zde(h:T 0=some c_around):Zh T (n+1) 0 [.int x]=some (.int (YN x)):=by
 rw[ZB (f:=c_around) h rfl rfl]
 (rw[show ZR c_around.body=[] from rfl];simp[c_around,YN])
end
def Vf(c:Int):Int:=if c % 3=0 then ([-1000000000,-999999999,-2,-1,0,1,2,999999999]:Li Int).getD (c / 3 % 8).toNat 0 else if c % 3=1 then c / 3 % 13 - 6 else c / 3 * 48271 % 2000000000 - 1000000000
theorem r8(c:Int):c % 8=0\/c % 8=1\/c % 8=2\/c % 8=3\/c % 8=4\/c % 8=5\/c % 8=6\/c % 8=7:=by omega
theorem JX(c:Int):Sm (Vf c):=by
 unfold Vf;split
 ·rcases r8 (c / 3) with h|h|h|h|h|h|h|h<;>rw[h]<;>exact⟨by decide,by decide⟩
 ·split
  ·exact⟨by omega,by omega⟩
  ·exact⟨by omega,by omega⟩
section
variable {T:Nat->Ot FD}{n:Nat}{a b c x:Int}{s:Str}
theorem Za3(h:T 17=some c__law_whole):Zh T (n+1) 17 [.int x]=some (.bl true):=by
 rw[ZB (f:=c__law_whole) h rfl rfl]
 (rw[show ZR c__law_whole.body=[] from rfl];simp[c__law_whole])
theorem Za2(h:T 19=some c__law_small_by):Zh T (n+1) 19 [.int c]=some (.int (Vf c)):=by
 rw[ZB (f:=c__law_small_by) h rfl rfl];unfold Vf
 (rw[show ZR c__law_small_by.body=[] from rfl];simp[c__law_small_by,ZI])
 split
 ·rcases r8 (c / 3) with h|h|h|h|h|h|h|h<;>rw[h]<;>simp
 ·split<;>rfl
end
inductive Opd where
 |name (i:Nat)|num (c:Int)
inductive Row where
 |put (x:Nat) (y:Opd) (s:Str) (z:Opd)|ifr (y:Opd) (s:Str) (z:Opd) (t:Nat)|go (t:Nat)|tell (y:Opd)|skip
def Z3:Opd->P
 |.name i=>.tup [.str (S "name"),.int (i:Int)]
 |.num c=>.tup [.str (S "number"),.int c]
def Zz:Row->P
 |.put x y s z=>.tup [.str (S "put"),.int (x:Int),Z3 y,.str s,Z3 z]
 |.ifr y s z t=>.tup [.str (S "if"),Z3 y,.str s,Z3 z,.int (t:Int)]
 |.go t=>.tup [.str (S "go"),.int (t:Int)]
 |.tell y=>.tup [.str (S "tell"),Z3 y]
 |.skip=>.tup [.str (S "skip")]
structure Prog where
 takes:P
 many:Nat
 rows:List Row
def Zp(p:Prog):P:=.tup [p.takes,.int (p.many:Int),.tup (p.rows.map Zz)]
abbrev StM:=Nat×Li Int
inductive Out where
 |none|told (v:Int)|late
def YB(m:Nat):Opd->Prop
 |.name i=>i < m
 |.num c=>Sm c
def Wn(m n:Nat):Row->Prop
 |.put x y _ z=>x < m/\YB m y/\YB m z
 |.ifr y _ z t=>YB m y/\YB m z/\t<=n
 |.go t=>t<=n
 |.tell y=>YB m y
 |.skip=>True
structure ProgOk(p:Prog):Prop where
 rows:∀ r∈p.rows,Wn p.many p.rows.length r
 many:p.many<=100
 size:p.rows.length<=100
structure VsOk(m:Nat)(vs:List Int):Prop where
 len:vs.length=m
 sm:∀ v∈vs,Sm v
inductive Thing where
 |st (s:StM)|out (o:Out)
structure StOkM(p:Prog)(s:StM):Prop where
 k:s.1<=p.rows.length
 vs:VsOk p.many s.2
structure MoveT(T:Nat->Option FD):Prop where
 num:NumT T
 t4:T 4=some Zbb
 t5:T 5=some Zge
 t7:T 7=some Zdw
 t8:T 8=some Vw
 t9:T 9=some VV
 t10:T 10=some Zgc
 t42:T 42=some VW
structure MachT(T:Nat->Option FD):Prop extends MoveT T where
 t6:T 6=some Zgb
variable{M:Li Nat}{e:CE}{π:Zt}
section
variable {T:Nat->Ot FD}{n:Nat}{p:Prog}{s:StM}{vs:Li Int}{o:Opd}{r:Row}{k m:Nat}{ins:Li Int}
theorem Yp{F:PFn}{c:CE}{r:CS}{v:P}(h:pe F c π=some (.bl true))(he:pe F e π=some v):px F M (.seq (.ite c (.seq (.ret e) .skip) .skip) r) π=some (.rt v):=by
 rw[Zf,Zx,h,Zs,if_pos rfl,Zf,Zfj,he];rfl
theorem ZM{F:PFn}{c:CE}{a r:CS}(h:pe F c π=some (.bl false)):px F M (.seq (.ite c a .skip) r) π=px F M r π:=by
 rw[Zf,Zx,h,Zs,if_neg Bf,Zo,Ze]
theorem WD{F:PFn}{r:CS}{v:P}(h:pe F e π=some v):px F [] (.seq (.set k e) r) π=px F [] r (ZK π k v):=by
 rw[Zf,Zhs,h,Ob,Ze]
theorem Z4{F:PFn}{r:CS}{v:P}(h:pe F e π=some v):px F M (.seq (.ret e) r) π=some (.rt v):=by
 rw[Zf,Zfj,h];rfl
structure TrailT(T:Nat->Option FD):Prop extends MachT T where
 t11:T 11=some Qq
 t12:T 12=some Zgd
structure SeenT(T:Nat->Option FD):Prop extends TrailT T where
 t13:T 13=some Zb6
 t14:T 14=some UD
 t15:T 15=some Zi4
 t43:T 43=some Zdx
 t44:T 44=some Zb7
end
def ZdK(ns:Li Int)(k:Nat):Int:=if k < ns.length then ns.getD k 0 else if ns=[] then ((k:Int) * k+7) * 48271 % 2147483629 else (ns.getD 0 0 % 2147483647+7) * ((k:Int) * k+48271) % 2147483629
def ZcQ(x:Int)(m:Nat):Opd:=if 0 < m/\0 < x % 3 then .name (x / 3 % (m:Int)).toNat else .num (Vf (x / 3))
theorem ZjM(x:Int)(m:Nat):YB m (ZcQ x m):=by
 unfold ZcQ;split
 ·rename_i h
  show(x / 3 % (m:Int)).toNat < m;have:=bZ (x / 3) (show 0 < (m:Int) by omega)
  omega
 ·exact JX _
def Zc1(i:Int):Str:=([S "+",S "-",S "*",S "/",S "mod"]:Li Str).getD i.toNat (S "+")
def Zc0(i:Int):Str:=([S "<",S "<=",S "=",S ">=",S ">",S "!="]:Li Str).getD i.toNat (S "<")
structure ProgT(T:Nat->Option FD):Prop where
 t19:T 19=some c__law_small_by
 t27:T 27=some c__law_cell_at
 t28:T 28=some c__law_operand
 t29:T 29=some c__law_row
 t30:T 30=some VR
section
variable {T:Nat->Ot FD}{n:Nat}{ns:Li Int}{k m size:Nat}{x c d:Int}
theorem Zi6{F:PFn}(h:k < ns.length):px F [] c__law_cell_at.body [some (.lst false (ns.map .int)),some (.int (k:Int))]=some (.rt (.int (ns.getD k 0))):=by
 have e:(ns.map P.int)[k]?=some (.int (ns.getD k 0)):=by
  rw[aQ,cM,Lg h];rfl
 have h':(k:Int) < (ns.length:Int):=by omega
 simp[c__law_cell_at,h',h,e]
theorem Zi7{F:PFn}{j:Int}(hj:¬j < 0)(lk:ZI j=true):px F [] c__law_cell_at.body [some (.lst false []),some (.int j)]=some (.rt (.int ((j * j+7) * 48271 % 2147483629))):=by
 have l2:ZI 48271=true:=by decide
 simp[c__law_cell_at,lk,l2,hj]
theorem Zi8{F:PFn}{j a:Int}{xs:Li P}(hj:¬j < (xs.length:Int)+1)(lk:ZI j=true)(la:ZI (a % 2147483647+7)=true):px F [] c__law_cell_at.body [some (.lst false (.int a :: xs)),some (.int j)]=some (.rt (.int ((a % 2147483647+7) * (j * j+48271) % 2147483629))):=by
 simp[c__law_cell_at,lk,la,hj]
theorem Zbx(hk:k<=100000):ZI (k:Int)=true:=Xt (by omega) (by omega)
theorem Zci{F:PFn}(hk:k<=100000):px F [] c__law_cell_at.body [some (.lst false (ns.map .int)),some (.int (k:Int))]=some (.rt (.int (ZdK ns k))):=by
 unfold ZdK;by_cases h:k < ns.length
 ·rw[if_pos h];exact Zi6 h
 ·rw[if_neg h]
  cases ns with
  |nil=>exact Zi7 (by omega) (Zbx hk)
  |cons a ns=>
   rw[if_neg (by intro z;cases z)]
   have q0:=bU a (show(2147483647:Int)≠0 by omega)
   have q1:=bZ a (show(0:Int) < 2147483647 by omega)
   exact Zi8 (xs:=ns.map P.int) (by simp at h ⊢;omega) (Zbx hk) (Xt (by omega) (by omega))
theorem Zdf(h:T 27=some c__law_cell_at)(hk:k<=100000):Zh T (n+1) 27 [.lst false (ns.map .int),.int (k:Int)]=some (.int (ZdK ns k)):=by
 rw[ZB (f:=c__law_cell_at) h rfl rfl];show Yk (px (Zh T n) [] c__law_cell_at.body [some (.lst false (ns.map .int)),some (.int (k:Int))])=_;rw[Zci hk];rfl
theorem ZeZ{F:PFn}(hF:∀ c,F 19 [.int c]=some (.int (Vf c)))(hm:m<=100):px F [] c__law_operand.body [some (.int x),some (.int (m:Int))]=some (.rt (Z3 (ZcQ x m))):=by
 unfold ZcQ;by_cases h1:0 < m
 ·have h1':(0:Int) < (m:Int):=by omega
  by_cases h2:0 < x % 3
  ·have q:=bU (x / 3) (show(m:Int)≠0 by omega)
   have e:((x / 3 % (m:Int)).toNat:Int)=x / 3 % (m:Int):=by omega
   rw[if_pos ⟨h1,h2⟩];simp[c__law_operand,h1,h2,Z3,e]
  ·rw[if_neg (fun z=>h2 z.2)]
   simp[c__law_operand,h1,h2,Z3,hF]
 ·rw[if_neg (fun z=>h1 z.1)]
  simp[c__law_operand,h1,Z3,hF]
theorem ZhX(i:Int):atP [.str (S "+"),.str (S "-"),.str (S "*"),.str (S "/"),.str (S "mod")] (i % 5)=some (.str (Zc1 (i % 5))):=by
 have h:i % 5=0\/i % 5=1\/i % 5=2\/i % 5=3\/i % 5=4:=by omega
 rcases h with h|h|h|h|h<;>rw[h]<;>rfl
theorem ZhW(i:Int):atP [.str (S "<"),.str (S "<="),.str (S "="),.str (S ">="),.str (S ">"),.str (S "!=")] (i % 6)=some (.str (Zc0 (i % 6))):=by
 have h:i % 6=0\/i % 6=1\/i % 6=2\/i % 6=3\/i % 6=4\/i % 6=5:=by omega
 rcases h with h|h|h|h|h|h<;>rw[h]<;>rfl
end
structure MadeT(T:Nat->Option FD):Prop where
 num:NumT T
 t4:T 4=some Zbb
 t42:T 42=some VW
 t73:T 73=some UC
 t74:T 74=some VT
 t75:T 75=some VS
 t76:T 76=some Wi
 t77:T 77=some Zal
 t78:T 78=some WF
 t79:T 79=some Qr
 t80:T 80=some Zb8
 t81:T 81=some VU
 t82:T 82=some Zb5
 t83:T 83=some Zam
section
variable {T:Nat->Ot FD}{n:Nat}{y z:Opd}{s:Str}{x t k:Nat}
theorem Zjb:Zz (.put x y s z)=.tup [.str (S "put"),.int (x:Int),Z3 y,.str s,Z3 z]:=rfl
theorem Zk1:Zz (.ifr y s z t)=.tup [.str (S "if"),Z3 y,.str s,Z3 z,.int (t:Int)]:=rfl
def PSg(s:Str):Prop:=s=S "+"\/s=S "-"\/s=S "*"\/s=S "/"\/s=S "mod"
def ISg(s:Str):Prop:=s=S "<"\/s=S "<="\/s=S "="\/s=S ">="\/s=S ">"\/s=S "!="
end
variable{ws:Li Str}
section
variable {n:Nat}{F:PFn}{π:Zt}{x y:Str}{a b:CE}{j k:Nat}
theorem XZ:pe F (.strOf a) π=(pe F a π).bind XC:=Yv
theorem JM:pe F (.joinE a b) π=(pe F a π).bind fun x=>(pe F b π).bind fun y=>Ug x y:=X0
theorem Z2(h:x.cps.toList=y.cps.toList):x=y:=by
 cases x;cases y
 congr 1
 exact Array.ext' h
theorem Zk:x.cps.toList.length=x.length:=bD
theorem ZY:(x++y).cps.toList=x.cps.toList++y.cps.toList:=by
 show(x.cps++y.cps).toList=_;rw[Array.toList_append]
theorem WN{m:Nat}:(toString m).toList=Nat.toDigits 10 m:=by
 show(Nat.repr m).toList=_;rw[Nat.toList_repr]
theorem Zbw{i:Int}(h1:-1000000000000 < i)(h2:i < 1000000000000):(Str.ofString (toString i)).length<=13:=by
 rw[Str.ofString_eq_toList];show Array.size _<=13;rw[aI,aD];cases i with
 |ofNat m=>
  rw[show toString (Int.ofNat m)=toString m from rfl,WN];have hm:m < 10 ^ 12:=by have:(Int.ofNat m:Int)=(m:Int):=rfl;omega
  have:=PyProof.Rows.digits10_le (by decide) hm
  omega
 |negSucc m=>
  have hm:m+1 < 10 ^ 12:=by have:Int.negSucc m=-((m:Int)+1):=rfl;omega
  have:=PyProof.Rows.digits10_le (by decide) hm
  have e:(toString (Int.negSucc m)).toList='-' :: Nat.toDigits 10 (m+1):=by
   show("-"++toString (m+1)).toList=_;rw[String.toList_append,WN];rfl
  rw[e,aY];omega
theorem Uv:∀ {ys:Li Str},Vu (ys.map P.str)=some ys
 |[]=>rfl
 |y :: ys=>by
  show(Vu (ys.map P.str)).map (y :: ·)=_;rw[Uv];rfl
structure Tx(F:PFn)(π:Zt)(j:Nat)(a:CE)(x:Str):Prop where
 e:pe F a π=some (.str x)
 l:x.length<=j
theorem Tx.add(ha:Tx F π j a x)(hb:Tx F π k b y)(h:j+k<=1000):Tx F π (j+k) (.bin .Add a b) (x++y):=by
 have h1:=ha.l;have h2:=hb.l;refine⟨?_,?_⟩
 ·rw[ZE,ha.e,hb.e]
  show(if Xh .Add=true/\x.length+y.length<=Zc then some (P.str (x++y)) else none)=_
  rw[if_pos ⟨rfl,by unfold Zc;omega⟩]
 ·rw[<-Zk,ZY,aH,Zk,Zk];omega
theorem Tx.cst{s:Str}(h:s.length<=j):Tx F π j (.cst (.str s)) s:=⟨by rfl,h⟩
def gl(s:Str)(ws:Li Str):Str:=⟨(Y3 s ws).toArray⟩
theorem Yz{s:Str}:(gl s ws).cps.toList=Y3 s ws:=bO
theorem W4{s:Str}(hs:s.length=1):∀ {ws:Li Str},(∀ w∈ws,w.length<=j)->(Ye s ws).length<=ws.length * (j+1)
 |[],_=>by show 0<=_;omega
 |w :: ws,h=>by
  have h1:=h w Ls;have h2:=W4 hs (ws:=ws) fun z hz=>h z (Lm _ hz)
  show((s.cps.toList++w.cps.toList)++Ye s ws).length<=(ws.length+1) * (j+1);rw[aH,aH,Zk,Zk,hs,Nat.add_mul];omega
theorem Zd8{s:Str}(hs:s.length=1){ws:Li Str}(h:∀ w∈ws,w.length<=j):(Y3 s ws).length<=ws.length * (j+1):=by
 cases ws with
 |nil=>show 0<=_;omega
 |cons w ws=>
  have h1:=h w Ls;have h2:=W4 hs (ws:=ws) fun z hz=>h z (Lm _ hz)
  show(w.cps.toList++Ye s ws).length<=(ws.length+1) * (j+1);rw[aH,Zk,Nat.add_mul];omega
theorem Zd7{s:Str}(hs:s.length=1){ws:Li Str}(h:∀ w∈ws,w.length<=j):(gl s ws).length<=ws.length * (j+1):=by
 rw[<-Zk,Yz];exact Zd8 hs h
theorem Zg1{s:Str}(hs:s.length=1){ws:Li Str}{m:Bool}(h:∀ w∈ws,w.length<=j)(hl:ws.length * (j+1)<=100000):Ug (.str s) (.lst m (ws.map P.str))=some (.str (gl s ws)):=by
 have h2:=W4 hs h;show(if s.length=0 then W7 (ws.map P.str) else W6 s (ws.map P.str))=_
 rw[if_neg (by omega)]
 unfold W6;rw[Uv];simp only;rw[if_pos (by unfold Zc;omega)]
 rfl
theorem Qs{α:Type}{f c:P->Ot P}{enc g:α->P}:∀ {l:Li α},(∀ a∈l,c (enc a)=some (.bl true))->(∀ a∈l,f (enc a)=some (g a))->YF f c (l.map enc)=some (l.map g)
 |[],_,_=>rfl
 |a :: l,hc,hf=>by
  have e:=Qs (l:=l) (fun z hz=>hc z (Lm _ hz)) (fun z hz=>hf z (Lm _ hz))
  rw[aM,aM];unfold YF;rw[hc a Ls,hf a Ls];simp only;rw[e]
theorem XY{α:Type}{it elt:CE}{rng:Bool}{fr:Li Nat}{x:P}{enc g:α->P}{l:Li α}(hi:pe F it π=some x)(hw:Xp rng x=some (l.map enc))(hl:l.length<=1000)(hf:∀ a∈l,pe F elt (Xk π fr (enc a))=some (g a)):pe F (.comp rng fr it elt (.cst (.bl true))) π=some (.lst true (l.map g)):=by
 rw[QU,hi,Ob,hw,Ob,if_pos (by rw[aD];exact hl),Qs (enc:=enc) (g:=g) (c:=fun p=>pe F (.cst (.bl true)) (Xk π fr p)) (fun _ _=>rfl) hf]
 rfl
end
noncomputable def num:Li (Str×Nat):=[(S "HuntError",177),(S "TextError",222),(S "TextError.__init__",223),(S "NoLine",224),(S "Twice",225),(S "NoName",226),(S "NoPlace",227),(S "around",0),(S "is_made_of",209),(S "is_name",210),(S "are_figures",211),(S "number_in",212),(S "place_in",213),(S "fits",232),(S "is_line",233),(S "names_read",234),(S "operand_in",235),(S "row_of",236),(S "Draft",237),(S "Draft.__init__",238),(S "Draft.has_room",239),(S "Draft.read_line",240),(S "Draft.read_name",241),(S "Draft.read_row",242),(S "Draft.check_places",243),(S "Draft.told",244),(S "read",245),(S "_law_whole",17),(S "_law_cell_at",27),(S "_law_small_by",19),(S "_law_operand",28),(S "_law_row",29),(S "_law_program",30),(S "_law_names",249),(S "_law_word",214),(S "_law_line",221),(S "_law_lines",250),(S "_law_text",251),(S "_law_kinds",246),(S "_law_read",248),(S "law",16)]
noncomputable def T:Nat->Ot FD
 |0=>some c_around
 |209=>some c_is_made_of
 |210=>some c_is_name
 |211=>some c_are_figures
 |212=>some c_number_in
 |213=>some c_place_in
 |232=>some c_fits
 |233=>some c_is_line
 |234=>some c_names_read
 |235=>some c_operand_in
 |236=>some c_row_of
 |238=>some c_Draft___init__
 |239=>some c_Draft_has_room
 |240=>some c_Draft_read_line
 |241=>some c_Draft_read_name
 |242=>some c_Draft_read_row
 |243=>some c_Draft_check_places
 |244=>some c_Draft_told
 |245=>some c_read
 |17=>some c__law_whole
 |27=>some c__law_cell_at
 |19=>some c__law_small_by
 |28=>some c__law_operand
 |29=>some c__law_row
 |30=>some c__law_program_k11
 |249=>some c__law_names
 |214=>some c__law_word_k13
 |221=>some c__law_line_k13
 |250=>some c__law_lines
 |251=>some c__law_text
 |246=>some c__law_kinds
 |248=>some c__law_read
 |16=>some c_law_k13
 |_=>none
variable{f t:Nat}{g:Int}
section
variable {F:PFn}{π:Zt}{m size:Nat}{c d:Int}
theorem Zim{a:CE}{v w:Int}(h:pe F a π=some (.int v))(h1:0 < w)(h2:w < 1073741824):pe F (.bin .FloorDiv a (.cst (.int w))) π=some (.int (v / w)):=by
 rw[ZE,h,YJ,Yg,Ob,Ob,YC,if_pos ⟨h1,h2⟩]
theorem Zjz{a b:CE}{v w:Int}(h:pe F a π=some (.int v))(h2:pe F b π=some (.int w))(h1:0 < w):pe F (.bin .Mod a b) π=some (.int (v % w)):=by
 rw[ZE,h,h2,Ob,Ob,Xq,if_pos h1]
theorem Xd{v:Int}:pe F (.cst (.int v)) π=some (.int v):=by rw[YJ,Yg]
theorem Y0{a:CE}{v w:Int}(h:pe F a π=some (.int v))(h1:0 < w):pe F (.bin .Mod a (.cst (.int w))) π=some (.int (v % w)):=Zjz h Xd h1
theorem WC{a b:CE}{v w:Int}(h:pe F a π=some (.int v))(h2:pe F b π=some (.int w)):pe F (.bin .Add a b) π=some (.int (v+w)):=by
 rw[ZE,h,h2,Ob,Ob,X8]
theorem Ziw{a b:CE}{v w:Int}(h:pe F a π=some (.int v))(h2:pe F b π=some (.int w))(hl:ZI v=true):pe F (.bin .Mult a b) π=some (.int (v * w)):=by
 rw[ZE,h,h2,Ob,Ob,Za8,hl,Bool.true_or,if_pos rfl]
theorem ZeL{a:CE}{v w:Int}(h:pe F a π=some (.int v))(hl:ZI w=true):pe F (.bin .Mult a (.cst (.int w))) π=some (.int (v * w)):=by
 rw[ZE,h,Xd,Ob,Ob,Za8,hl,dI,if_pos rfl]
theorem UQ{a b:CE}{x y:P}(ha:pe F a π=some x)(hb:pe F b π=some y):pe F (.call f (.aC a (.aC b .aN)) []) π=F f [x,y]:=by
 rw[pe_call,Zn,Zn,ha,hb];rfl
theorem Zbz{a:CE}{v w:Int}(h:pe F a π=some (.int v)):pe F (.cmp .Lt a (.cst (.int w))) π=some (.bl (decide (v < w))):=by
 rw[Yc,h,Xd];rfl
def SgR:Row->Prop
 |.put _ _ s _=>PSg s
 |.ifr _ s _ _=>ISg s
 |_=>True
theorem pSg(i:Int):PSg (Zc1 i):=by
 unfold Zc1 PSg;generalize i.toNat=k
 match k with
 |0=>exact .inl rfl
 |1=>exact .inr (.inl rfl)
 |2=>exact .inr (.inr (.inl rfl))
 |3=>exact .inr (.inr (.inr (.inl rfl)))
 |4=>exact .inr (.inr (.inr (.inr rfl)))
 |k+5=>exact .inl rfl
theorem iSg(i:Int):ISg (Zc0 i):=by
 unfold Zc0 ISg;generalize i.toNat=k
 match k with
 |0=>exact .inl rfl
 |1=>exact .inr (.inl rfl)
 |2=>exact .inr (.inr (.inl rfl))
 |3=>exact .inr (.inr (.inr (.inl rfl)))
 |4=>exact .inr (.inr (.inr (.inr (.inl rfl))))
 |5=>exact .inr (.inr (.inr (.inr (.inr rfl))))
 |k+6=>exact .inl rfl
theorem ZbA{v:Int}{q:Nat}(h:0 < q):∃ t:Nat,v % (q:Int)=(t:Int)/\t < q:=by
 have a:=bU v (show(q:Int)≠0 by omega)
 have b:=bZ v (show 0 < (q:Int) by omega)
 exact⟨(v % (q:Int)).toNat,by omega,by omega⟩
theorem Zkm(h:pe F (.var 6) π=some (.int g)):pe F (.ix (.lstE (.aC (.cst (.str (S "+"))) (.aC (.cst (.str (S "-"))) (.aC (.cst (.str (S "*"))) (.aC (.cst (.str (S "/"))) (.aC (.cst (.str (S "mod"))) .aN)))))) (.bin .Mod (.var 6) (.cst (.int 5)))) π=some (.str (Zc1 (g % 5))):=by
 rw[pe_ix,Y0 h (by decide)]
 exact ZhX g
theorem Zkn(h:pe F (.var 6) π=some (.int g)):pe F (.ix (.lstE (.aC (.cst (.str (S "<"))) (.aC (.cst (.str (S "<="))) (.aC (.cst (.str (S "="))) (.aC (.cst (.str (S ">="))) (.aC (.cst (.str (S ">"))) (.aC (.cst (.str (S "!="))) .aN))))))) (.bin .Mod (.var 6) (.cst (.int 6)))) π=some (.str (Zc0 (g % 6))):=by
 rw[pe_ix,Y0 h (by decide)]
 exact ZhW g
theorem Zic{a b:CE}{p q:Bool}(h:pe F a π=some (.bl p))(h2:pe F b π=some (.bl q)):pe F (.and a b) π=some (.bl (p&&q)):=by
 rw[pe_and,h,h2];cases p<;>rfl
theorem Zhy{y z:Opd}(hy:YB m y)(hz:YB m z)(ht:t<=size):∃ r,Wn m size r/\SgR r/\px F [] (match c__law_row.body with
 |.seq _ (.seq _ (.seq _ (.seq _ q)))=>q
 |q=>q) [some (.int c),some (.int d),some (.int (m:Int)),some (.int (size:Int)),some (Z3 y),some (Z3 z),some (.int g),some (.int (t:Int)),none]=some (.rt (Zz r)):=by
 have k8:pe F (.bin .Mod (.var 0) (.cst (.int 8))) [some (.int c),some (.int d),some (.int (m:Int)),some (.int (size:Int)),some (Z3 y),some (Z3 z),some (.int g),some (.int (t:Int)),none]=some (.int (c % 8)):=Y0 rfl (by decide)
 have km:pe F (.cmp .Gt (.var 2) (.cst (.int 0))) [some (.int c),some (.int d),some (.int (m:Int)),some (.int (size:Int)),some (Z3 y),some (Z3 z),some (.int g),some (.int (t:Int)),none]=some (.bl (decide ((0:Int) < (m:Int)))):=rfl;show ∃ r,Wn m size r/\SgR r/\px F [] (.seq _ _) _=_;by_cases h1:c % 8 < 3/\0 < m
 ·obtain⟨x,ex,hx⟩:=ZbA (v:=(d+3) * 950706376 % 2147483647) h1.2
  refine⟨.put x y (Zc1 (g % 5)) z,⟨hx,hy,hz⟩,pSg _,?_⟩;rw[Zf,Zx,Zic (Zbz k8) km,aK h1.1,aK (by omega),Zs,if_pos (by rfl),WD (v:=.int (x:Int)) (by
   rw[<-ex];exact Zjz (Y0 (ZeL (WC (v:=d) rfl Xd) (Xt (by omega) (by omega))) (by omega)) rfl (by omega)),Z4 (v:=Zz (.put x y (Zc1 (g % 5)) z)) (by
   rw[Wc,Zn,Zn,Zn,Zn,Zkm rfl];rfl)]
  rfl
 ·have nb:(decide (c % 8 < 3)&&decide ((0:Int) < (m:Int)))=false:=by
   rw[Bool.and_eq_false_iff,decide_eq_false_iff_not,decide_eq_false_iff_not];omega
  rw[ZM (by rw[Zic (Zbz k8) km,nb])]
  by_cases h6:c % 8 < 6
  ·refine⟨.ifr y (Zc0 (g % 6)) z t,⟨hy,hz,ht⟩,iSg _,?_⟩
   rw[Yp (v:=Zz (.ifr y (Zc0 (g % 6)) z t)) (by rw[Zbz k8,aK h6]) (by
    rw[Wc,Zn,Zn,Zn,Zkn rfl];rfl)]
  ·rw[ZM (by rw[Zbz k8,aO h6])]
   by_cases h7:c % 8=6
   ·have k7:pe F (.cmp .Eq (.bin .Mod (.var 0) (.cst (.int 8))) (.cst (.int 6))) [some (.int c),some (.int d),some (.int (m:Int)),some (.int (size:Int)),some (Z3 y),some (Z3 z),some (.int g),some (.int (t:Int)),none]=some (.bl true):=by
     rw[Yc,k8,h7];rfl
    have r2:g % 2=0\/g % 2=1:=by omega
    rcases r2 with h|h
    ·refine⟨.go t,ht,trivial,?_⟩
     rw[Yp (v:=Zz (.go t)) k7 (by rw[pe_ix,Y0 (v:=g) rfl (by decide),h];rfl)]
    ·refine⟨.skip,trivial,trivial,?_⟩
     rw[Yp (v:=Zz .skip) k7 (by rw[pe_ix,Y0 (v:=g) rfl (by decide),h];rfl)]
   ·refine⟨.tell y,hy,trivial,?_⟩
    rw[ZM (by
     rw[Yc,k8,Xd];show some (P.bl (decide (c % 8=6)))=_;rw[aO h7]),Z4 (v:=Zz (.tell y)) (by rfl)]
theorem Zj5(hF:∀ x,∃ o,YB m o/\F 28 [.int x,.int (m:Int)]=some (Z3 o)):∃ r,Wn m size r/\SgR r/\px F [] c__law_row.body [some (.int c),some (.int d),some (.int (m:Int)),some (.int (size:Int)),none,none,none,none,none]=some (.rt (Zz r)):=by
 obtain⟨y,hy,ey⟩:=hF (d * 48271 % 2147483647);obtain⟨z,hz,ez⟩:=hF ((d+5) * 1226874159 % 2147483647);obtain⟨g,hg⟩:∃ g,c * 48271 % 2147483647=g:=⟨_,rfl⟩;obtain⟨t,et,ht⟩:=ZbA (v:=(c+1) * 742938285 % 2147483647) (q:=size+1) (by omega)
 obtain⟨r,r1,r2,r3⟩:=Zhy (F:=F) (c:=c) (d:=d) (g:=g) hy hz (show t<=size by omega)
 refine⟨r,r1,r2,?_⟩;have L:∀ v:Int,-(2 ^ 64) < v->v < 2 ^ 64->ZI v=true:=fun v=>Xt
 unfold c__law_row;rw[WD (v:=Z3 y) (by exact(UQ (Y0 (ZeL (v:=d) rfl (L _ (by omega) (by omega))) (by omega)) rfl).trans ey),WD (v:=Z3 z) (by exact(UQ (Y0 (ZeL (WC (v:=d) rfl Xd) (L _ (by omega) (by omega))) (by omega)) rfl).trans ez),WD (v:=.int g) (by rw[<-hg];exact Y0 (ZeL (v:=c) rfl (L _ (by omega) (by omega))) (by omega)),WD (v:=.int (t:Int)) (by
  rw[<-et];exact Zjz (Y0 (ZeL (WC (v:=c) rfl Xd) (L _ (by omega) (by omega))) (by omega)) (WC (v:=(size:Int)) rfl Xd) (by omega))]
 exact r3
end
variable{x1 x2 x3 x8 x10 x11 x4 x5:Ot P}{rs ts:Li P}{j:Nat}
section
variable {n m size:Nat}{F:PFn}{π:Zt}{r:Row}{o:Opd}{ns:Li Int}
def nuS(c:Int):Str:=Str.ofString (toString c)
theorem ZaW{c:Int}(h:Sm c):XC (.int c)=some (.str (nuS c)):=by
 show(if ZI c=true then some (P.str (Str.ofString (toString c))) else none)=_
 rw[if_pos h.lim];rfl
theorem ZbP(h:t<=1000):XC (.int (t:Int))=some (.str (nuS (t:Int))):=by
 show(if ZI (t:Int)=true then some (P.str (Str.ofString (toString (t:Int)))) else none)=_
 rw[if_pos (Xt (by omega) (by omega))];rfl
def SgL(s:Str):Prop:=s.length<=3
abbrev WV:=SgR
theorem PSg.len{s:Str}(h:PSg s):SgL s:=by rcases h with h|h|h|h|h<;>subst h<;>unfold SgL<;>decide +kernel
theorem ISg.len{s:Str}(h:ISg s):SgL s:=by rcases h with h|h|h|h|h|h<;>subst h<;>unfold SgL<;>decide +kernel
theorem Vb{c:Int}(h:Sm c):(nuS c).length<=13:=Zbw (by have:=h.1;omega) (by have:=h.2;omega)
theorem QQ(h:t<=1000):(nuS (t:Int)).length<=13:=Zbw (by omega) (by omega)
def ln(ws:Li Str):Str:=gl (S " ") ws
theorem ZkS:(S " ").length=1:=by decide +kernel
def XR(p:Int×Int):P:=.tup [.int p.1,.int p.2]
def KSm(p:Int×Int):Prop:=Sm p.1/\Sm p.2/\p.1<=p.2
theorem Zj7{sc:P}{x9:Ot P}{a b:Int}{r:P}(h1:F 27 [sc,.int (8+2 * (j:Int))]=some (.int a))(h2:F 27 [sc,.int (9+2 * (j:Int))]=some (.int b))(h3:F 29 [.int a,.int b,.int (m:Int),.int (size:Int)]=some r)(hl:rs.length < Zc) :
  px F [6,9] ZQ [some sc,x1,x2,x3,some (.int (m:Int)),some (.int (size:Int)),some (.lst true rs),some (.int (j:Int)),x8,x9,x10,x11]=some (.nx [some sc,x1,x2,x3,some (.int (m:Int)),some (.int (size:Int)),some (.lst true (rs++[r])),some (.int (j:Int)),some (.int a),x9,x10,x11]):=by
 have l2:ZI 2=true:=by decide
 unfold ZQ;rw[Zf,Z1 (p:=.int a) (by simp[l2,h1]) rfl rfl,Ze,Zf]
 simp only[Zm,Zl];rw[X1 (xs:=rs) rfl];have e:pe F (.call 29 (.aC (.var 8) (.aC (.call 27 (.aC (.var 0) (.aC (.bin .Add (.cst (.int 9)) (.bin .Mult (.cst (.int 2)) (.var 7))) .aN)) []) (.aC (.var 4) (.aC (.var 5) .aN)))) []) [some sc,x1,x2,x3,some (.int (m:Int)),some (.int (size:Int)),some (.lst true rs),some (.int (j:Int)),some (.int a),x9,x10,x11]=some r:=by
  simp[l2,h2,h3]
 rw[e,Ob,if_pos (by rw[aK hl];rfl),Ze]
 rfl
theorem ZhZ{sc:P}{x6:Ot P}{a b v w:Int}(h1:F 27 [sc,.int (2+2 * (j:Int))]=some (.int a))(h2:F 27 [sc,.int (3+2 * (j:Int))]=some (.int b))(h3:F 19 [.int a]=some (.int v))(h4:F 19 [.int b]=some (.int w))(hl:ts.length < Zc) :
  px F [6,9] ZP [some sc,x1,x2,x3,x4,x5,x6,some (.int (j:Int)),x8,some (.lst true ts),x10,x11]=some (.nx [some sc,x1,x2,x3,x4,x5,x6,some (.int (j:Int)),x8,some (.lst true (ts++[XR (if w < v then w else v,if w > v then w else v)])),some (.int v),some (.int w)]):=by
 have l2:ZI 2=true:=by decide
 unfold ZP;rw[Zf,Z1 (p:=.int v) (by simp[l2,h1,h3]) rfl rfl,Ze,Zf]
 simp only[Zm,Zl];rw[Z1 (p:=.int w) (by simp[l2,h2,h4]) rfl rfl,Ze,Zf]
 simp only[Zm,Zl];rw[X1 (xs:=ts) rfl];have e:pe F (.tupE (.aC (.min (.var 10) (.var 11)) (.aC (.max (.var 10) (.var 11)) .aN))) [some sc,x1,x2,x3,x4,x5,x6,some (.int (j:Int)),x8,some (.lst true ts),some (.int v),some (.int w)]=some (XR (if w < v then w else v,if w > v then w else v)):=by
  simp[XR]
 rw[e,Ob,if_pos (by rw[aK hl];rfl),Ze]
 rfl
structure Sh(p:Prog)(tk:List (Int×Int)):Prop where
 rows:∀ r∈p.rows,Wn p.many p.rows.length r/\WV r
 takes:p.takes=.tup (tk.map XR)
 sm:∀ q∈tk,KSm q
 tkl:tk.length<=p.many
 tk3:tk.length<=3
 many:p.many<=5
 size:p.rows.length<=12
theorem ZjS(h27:∀ k:Nat,k<=1000->∃ c,F 27 [.lst false (ns.map .int),.int (k:Int)]=some (.int c))(h29:∀ c d,∀ m size:Nat,m<=100->size<=100->∃ r,Wn m size r/\WV r/\F 29 [.int c,.int d,.int (m:Int),.int (size:Int)]=some (Zz r))(h19:∀ c,∃ v,Sm v/\F 19 [.int c]=some (.int v)) :
  ∃ p tk,Sh p tk/\px F [6,9] c__law_program_k11.body [some (.lst false (ns.map .int)),some (.int 12),none,none,none,none,none,none,none,none,none,none]=some (.rt (Zp p)):=by
 obtain⟨c0,ec0⟩:=h27 0 (by omega)
 obtain⟨c1,ec1⟩:=h27 1 (by omega)
 have ec0:F 27 [.lst false (ns.map .int),.int 0]=some (.int c0):=ec0;have ec1:F 27 [.lst false (ns.map .int),.int 1]=some (.int c1):=ec1;have l2:ZI 48271=true:=by decide
 obtain⟨hd,ehd⟩:∃ hd,hd=c0 % 2147483647:=⟨_,rfl⟩;obtain⟨tk,etk,htk⟩:∃ tk:Nat,hd % 4=(tk:Int)/\tk<=3:=⟨(hd % 4).toNat,by omega,by omega⟩
 have p6:(0:Int) < 6 - (tk:Int):=by omega
 have p7:(tk:Int) < 6:=by omega
 obtain⟨w,ew,hw⟩:∃ w:Nat,hd * 48271 % 2147483647 % (6 - (tk:Int))=(w:Int)/\w+tk<=5:=⟨(hd * 48271 % 2147483647 % (6 - (tk:Int))).toNat,(Int.toNat_of_nonneg (bU _ (by omega))).symm,by have:=bZ (hd * 48271 % 2147483647) p6;have:=bU (hd * 48271 % 2147483647) (show(6 - (tk:Int))≠0 by omega);omega⟩
 obtain⟨m,hm⟩:∃ m,m=tk+w:=⟨_,rfl⟩;obtain⟨size,es,hs⟩:∃ size:Nat,c1 % 13=(size:Int)/\size<=12:=⟨(c1 % 13).toNat,by omega,by omega⟩
 obtain⟨π1,l1,rs,y7,y8,hl,hr,rfl⟩:=YZ (B:=fun d π=>px F [6,9] ZQ (ZK π 7 d)) (fun i π=>∃ (rs:Li Row) (y7 y8:Ot P),rs.length=i/\(∀ r∈rs,Wn m size r/\WV r)/\π=[some (.lst false (ns.map .int)),some (.int 12),some (.int hd),some (.int (tk:Int)),some (.int (m:Int)),some (.int (size:Int)),some (.lst true (rs.map Zz)),y7,y8,none,none,none]) (m:=size) (fun i hi π hπ=>by
  obtain⟨rs,y7,y8,hl,hr,rfl⟩:=hπ;obtain⟨a,ea⟩:=h27 (8+2 * i) (by omega)
  obtain⟨b,eb⟩:=h27 (9+2 * i) (by omega)
  rw[show((8+2 * i:Nat):Int)=8+2 * (i:Int) by omega]at ea
  rw[show((9+2 * i:Nat):Int)=9+2 * (i:Int) by omega]at eb
  obtain⟨r,ok,len,er⟩:=h29 a b m size (by omega) (by omega)
  have tn:=Zj7 (x1:=some (.int 12)) (x2:=some (.int hd)) (x3:=some (.int (tk:Int))) (x8:=y8) (x9:=none) (x10:=none) (x11:=none) (rs:=rs.map Zz) ea eb er (by rw[aD];unfold Zc;omega)
  refine⟨_,tn,rs++[r],some (.int (i:Int)),some (.int a),by simp[hl],fun q hq=>?_,by rw[bP];rfl⟩
  rcases aR.mp hq with z|z
  ·exact hr q z
  ·rw[bH.mp z];exact⟨ok,len⟩) (π:=[some (.lst false (ns.map .int)),some (.int 12),some (.int hd),some (.int (tk:Int)),some (.int (m:Int)),some (.int (size:Int)),some (.lst true []),none,none,none,none,none]) ⟨[],none,none,rfl,(fun _ z=>nomatch z),rfl⟩
 obtain⟨π2,l2',ts,z7,z10,z11,hl2,hk,rfl⟩:=YZ (B:=fun d π=>px F [6,9] ZP (ZK π 7 d)) (fun i π=>∃ (ts:Li (Int×Int)) (z7 z10 z11:Ot P),ts.length=i/\(∀ q∈ts,KSm q)/\π=[some (.lst false (ns.map .int)),some (.int 12),some (.int hd),some (.int (tk:Int)),some (.int (m:Int)),some (.int (size:Int)),some (.lst true (rs.map Zz)),z7,y8,some (.lst true (ts.map XR)),z10,z11]) (m:=tk) (fun i hi π hπ=>by
  obtain⟨ts,z7,z10,z11,hl,hk,rfl⟩:=hπ;obtain⟨a,ea⟩:=h27 (2+2 * i) (by omega)
  obtain⟨b,eb⟩:=h27 (3+2 * i) (by omega)
  rw[show((2+2 * i:Nat):Int)=2+2 * (i:Int) by omega]at ea
  rw[show((3+2 * i:Nat):Int)=3+2 * (i:Int) by omega]at eb
  obtain⟨v,sv,ev⟩:=h19 a;obtain⟨u,su,eu⟩:=h19 b;have tn:=ZhZ (x1:=some (.int 12)) (x2:=some (.int hd)) (x3:=some (.int (tk:Int))) (x4:=some (.int (m:Int))) (x5:=some (.int (size:Int))) (x6:=some (.lst true (rs.map Zz))) (x8:=y8) (x10:=z10) (x11:=z11) (ts:=ts.map XR) ea eb ev eu (by rw[aD];unfold Zc;omega)
  refine⟨_,tn,ts++[(if u < v then u else v,if u > v then u else v)],some (.int (i:Int)),some (.int v),some (.int u),by simp[hl],fun q hq=>?_,by rw[bP];rfl⟩
  rcases aR.mp hq with z|z
  ·exact hk q z
  ·rw[bH.mp z]
   refine⟨?_,?_,?_⟩
   ·show Sm (if u < v then u else v)
    split
    ·exact su
    ·exact sv
   ·show Sm (if u > v then u else v)
    split
    ·exact su
    ·exact sv
   ·show(if u < v then u else v)<=(if u > v then u else v)
    split<;>split<;>omega) (π:=[some (.lst false (ns.map .int)),some (.int 12),some (.int hd),some (.int (tk:Int)),some (.int (m:Int)),some (.int (size:Int)),some (.lst true (rs.map Zz)),y7,y8,some (.lst true []),none,none]) ⟨[],y7,none,none,rfl,(fun _ z=>nomatch z),rfl⟩
 refine⟨⟨.tup (ts.map XR),m,rs⟩,ts,⟨fun r hr'=>?_,rfl,hk,?_,?_,?_,?_⟩,?_⟩
 ·show Wn m rs.length r/\WV r
  rw[hl];exact hr r hr'
 ·show ts.length<=m;omega
 ·show ts.length<=3;omega
 ·show m<=5;omega
 ·show rs.length<=12;omega
 unfold c__law_program_k11;rw[Zf,Z1 (p:=.int hd) (by simp[ec0,ehd]) rfl rfl,Ze]
 simp only[Zm,Zl];rw[Zf,Z1 (p:=.int (tk:Int)) (by simp[etk]) rfl rfl,Ze]
 simp only[Zm,Zl];rw[Zf,Z1 (p:=.int (m:Int)) (by simp[l2,p7,ew,hm]) rfl rfl,Ze]
 simp only[Zm,Zl];rw[Zf,Z1 (p:=.int (size:Int)) (by simp[ec1,es]) rfl rfl,Ze]
 simp only[Zm,Zl];rw[Zf,Y5 (p:=.lst true []) (by simp) rfl rfl,Ze]
 simp only[Zm,Zl];rw[Zf,WR (n:=size) (by simp) (by omega) rfl,l1,Ze]
 rw[Zf,Y5 (p:=.lst true []) (by simp) rfl rfl,Ze]
 simp only[Zm,Zl];rw[Zf,WR (n:=tk) (by simp) (by omega) rfl,l2',Ze]
 rw[Z4 (v:=Zp ⟨.tup (ts.map XR),m,rs⟩) (by simp[Zp])]
theorem ZiI:∃ p tk,Sh p tk/\Zh T (n+4) 30 [.lst false (ns.map .int),.int 12]=some (Zp p):=by
 rw[ZB (f:=c__law_program_k11) rfl rfl rfl,show ZR c__law_program_k11.body=[6,9] from rfl];show ∃ p tk,Sh p tk/\Yk (px (Zh T (n+3)) [6,9] c__law_program_k11.body [some (.lst false (ns.map .int)),some (.int 12),none,none,none,none,none,none,none,none,none,none])=_;have o28:∀ m:Nat,m<=100->∀ x,Zh T (n+2) 28 [.int x,.int (m:Int)]=some (Z3 (ZcQ x m)):=fun m hm x=>by
  rw[ZB (f:=c__law_operand) rfl rfl rfl];show Yk (px (Zh T (n+1)) [] c__law_operand.body [some (.int x),some (.int (m:Int))])=_;rw[ZeZ (fun c=>Za2 rfl) hm]
  rfl
 obtain⟨p,tk,sh,e⟩:=ZjS (F:=Zh T (n+3)) (ns:=ns) (fun k hk=>⟨_,Zdf rfl (by omega)⟩) (fun c d m size hm hs=>by
  obtain⟨r,a,b,e⟩:=Zj5 (F:=Zh T (n+2)) (c:=c) (d:=d) (m:=m) (size:=size) fun x=>⟨ZcQ x m,ZjM x m,o28 m hm x⟩
  refine⟨r,a,b,?_⟩;rw[ZB (f:=c__law_row) rfl rfl rfl];show Yk (px (Zh T (n+2)) [] c__law_row.body [some (.int c),some (.int d),some (.int (m:Int)),some (.int (size:Int)),none,none,none,none,none])=_;rw[e];rfl) (fun c=>⟨_,JX c,Za2 rfl⟩)
 refine⟨p,tk,sh,?_⟩;rw[e];rfl
end
section
variable {n:Nat}{F:PFn}{π:Zt}{a b:CE}{x sg:Str}{m:Int}
theorem ZcS:pe F (.starts a b) π=(pe F a π).bind fun x=>(pe F b π).bind fun y=>Wg x y:=X0
structure Wd(x:Str):Prop where
 len:x.length<=60
 asc:∀ c∈x.cps.toList,c < 128
theorem Wd.le(h:Wd x):x.length<=Zc:=aF h.len (by decide)
theorem Wd.all(h:Wd x):x.cps.all (fun c=>decide (c < 128))=true:=by
 rw[<-Array.all_toList,aW];exact fun c hc=>aK (h.asc c hc)
theorem Wd.walk(h:Wd x):Xp false (.str x)=some ((chS x).map .str):=by
 show(if x.cps.all (fun c=>decide (c < 128))=true then some ((chS x).map P.str) else none)=_
 rw[if_pos h.all]
theorem Zgh:(chS x).length=x.length:=by
 unfold chS;rw[aD];exact bD
theorem len_str(h:Wd x):QI (.str x)=some (.int (x.length:Int)):=by
 show(if x.length<=Zc then some (P.int x.length) else none)=_
 rw[if_pos h.le]
def mkd(x sg:Str):Bool:=(chS x).all fun c=>QT sg c
theorem ZcJ(h:Wd x):pe F Z6 [some (.str x),some (.str sg),some (.int m)]=some (.lst true (((chS x).map fun c=>QT sg c).map P.bl)):=by
 unfold Z6;rw[QU];show(Xp false (.str x)).bind _=_;rw[h.walk,Ob,if_pos (by rw[aD,Zgh];have:=h.len;omega)]
 rw[ZdM (c:=fun p=>pe F (.cst (.bl true)) (Xk [some (.str x),some (.str sg),some (.int m)] [1] p)) (g:=fun p=>match p with
  |.str c=>.bl (QT sg c)
  |p=>p) (fun _ _=>rfl) (fun p hp=>by
  obtain⟨c,_,rfl⟩:=aT.mp hp;rfl)]
 rw[Ob,bB,bB];rfl
def mdB(x sg:Str)(m:Int):Bool:=decide ((1:Int)<=x.length)&&decide ((x.length:Int)<=m)&&mkd x sg
theorem Zdg(h:Wd x):Zh T (n+1) 209 [.str x,.str sg,.int m]=some (.bl (mdB x sg m)):=by
 rw[ZB (f:=c_is_made_of) rfl rfl rfl,show ZR c_is_made_of.body=[] from rfl];have e:=ZcJ (F:=Zh T n) (sg:=sg) (m:=m) h;have l:=len_str h;have q:X2 (fun l=>l.all id) (.lst true (((chS x).map fun c=>QT sg c).map P.bl))=some (.bl (mkd x sg)):=by
  rw[Qd];unfold mkd;rw[List.all_map];rfl
 show Yk (px (Zh T n) [] (.seq (.ret (.and (.and (.cmp .LtE (.cst (.int 1)) (.len (.var 0))) (.cmp .LtE (.len (.var 0)) (.var 2))) (.all Z6))) .skip) [some (.str x),some (.str sg),some (.int m)])=_;rw[Z4 (v:=.bl (mdB x sg m)) (by
  have c1:pe (Zh T n) (.cmp .LtE (.cst (.int 1)) (.len (.var 0))) [some (.str x),some (.str sg),some (.int m)]=some (.bl (decide ((1:Int)<=x.length))):=by
   rw[Yc,Ze6];show((QI (.str x)).bind fun y=>YD .LtE (.int 1) y)=_
   rw[l];rfl
  have c2:pe (Zh T n) (.cmp .LtE (.len (.var 0)) (.var 2)) [some (.str x),some (.str sg),some (.int m)]=some (.bl (decide ((x.length:Int)<=m))):=by
   rw[Yc,Ze6];show((QI (.str x)).bind fun y=>YD .LtE y (.int m))=_
   rw[l];rfl
  have c3:pe (Zh T n) (.all Z6) [some (.str x),some (.str sg),some (.int m)]=some (.bl (mkd x sg)):=by
   rw[Ze3,e];exact q
  rw[pe_and,pe_and,c1,c2,c3];unfold mdB;cases decide ((1:Int)<=x.length)<;>cases decide ((x.length:Int)<=m)<;>rfl)]
 rfl
theorem ZiH(h:Wd x):Zh T (n+2) 210 [.str x]=some (.bl (mdB x (S "abcdefghijklmnopqrstuvwxyz") 8)):=by
 rw[ZB (f:=c_is_name) rfl rfl rfl,show ZR c_is_name.body=[] from rfl];have e:=Zdg (n:=n) (sg:=S "abcdefghijklmnopqrstuvwxyz") (m:=8) h;show Yk (px (Zh T (n+1)) [] (.seq (.ret (.call 209 (.aC (.var 0) (.aC (.cst (.str (S "abcdefghijklmnopqrstuvwxyz"))) (.aC (.cst (.int 8)) .aN))) [])) .skip) [some (.str x)])=_;rw[Z4 (v:=.bl (mdB x (S "abcdefghijklmnopqrstuvwxyz") 8)) (by exact e)]
 rfl
end
section
variable {n:Nat}{F:PFn}{π:Zt}{x y:Str}{m:Int}{c:Nat}{l r:Li Nat}
def FG:Str:=S "0123456789"
def fz(x:Str):Bool:=match x.cps.toList with
 |[]=>false
 |c :: r=>!(c==48)||r.isEmpty
def Wv(x:Str)(m:Int):Bool:=mdB x FG m&&fz x
theorem eq0:(x=S "0")↔x.cps.toList=[48]:=⟨fun h=>by rw[h];rfl,fun h=>Z2 (h.trans rfl)⟩
theorem ch0:((⟨#[c]⟩:Str)=S "0")↔c=48:=by rw[eq0];simp
theorem ix0(h:Wd x)(e:x.cps.toList=c :: r):ixP (.str x) (.int 0)=some (.str ⟨#[c]⟩):=by
 show(if x.length<=Zc then atP ((chS x).map .str) 0 else none)=_
 rw[if_pos h.le];show atP ((chS x).map P.str) ((0:Nat):Int)=_;rw[Yb rfl];unfold chS;rw[e];rfl
theorem Zia(h:Wd x):Zh T (n+2) 211 [.str x,.int m]=some (.bl (Wv x m)):=by
 rw[ZB (f:=c_are_figures) rfl rfl rfl,show ZR c_are_figures.body=[] from rfl];have e:=Zdg (n:=n) (sg:=FG) (m:=m) h;show Yk (px (Zh T (n+1)) [] c_are_figures.body [some (.str x),some (.int m)])=_;unfold c_are_figures;have e1:pe (Zh T (n+1)) (.call 209 (.aC (.var 0) (.aC (.cst (.str (S "0123456789"))) (.aC (.var 1) .aN))) []) [some (.str x),some (.int m)]=some (.bl (mdB x FG m)):=e
 rw[Z4 (v:=.bl (Wv x m)) (by
  rw[pe_and,e1];unfold Wv;cases q:mdB x FG m with
  |false=>rfl
  |true=>
   have hl:1<=x.length:=by
    unfold mdB at q;simp only[Ba,aS]at q;omega
   cases e:x.cps.toList with
   |nil=>rw[<-Zk,e]at hl;exact absurd hl (by decide)
   |cons c r=>
    have i0:=ix0 h e;have k1:pe (Zh T (n+1)) (.cmp .Eq (.var 0) (.cst (.str (S "0")))) [some (.str x),some (.int m)]=some (.bl (decide (x=S "0"))):=Zbd;have k2:pe (Zh T (n+1)) (.cmp .NotEq (.ix (.var 0) (.cst (.int 0))) (.cst (.str (S "0")))) [some (.str x),some (.int m)]=some (.bl (!decide ((⟨#[c]⟩:Str)=S "0"))):=by
     rw[Yc,pe_ix];show((ixP (.str x) (.int 0)).bind fun x=>YD .NotEq x (.str (S "0")))=_
     rw[i0];exact Zgk
    show V1 (some (P.bl true)) (pe (Zh T (n+1)) (.or _ _) _) _=_;rw[pe_or,k1,k2];have ef:fz x=(decide (x=S "0")||!decide ((⟨#[c]⟩:Str)=S "0")):=by
     unfold fz;rw[e];by_cases h1:c=48
     ·subst h1
      by_cases h2:r=[]
      ·subst h2
       have:x=S "0":=eq0.mpr e;simp[this]
      ·have:¬x=S "0":=fun z=>by rw[eq0.mp z]at e;cases e;exact h2 rfl
       have h3:(⟨#[48]⟩:Str)=S "0":=ch0.mpr rfl;simp[this,h3,h2]
     ·have h3:¬(⟨#[c]⟩:Str)=S "0":=fun z=>h1 (ch0.mp z)
      simp[h1,h3]
    rw[ef];cases decide (x=S "0")<;>cases decide ((⟨#[c]⟩:Str)=S "0")<;>rfl)]
 rfl
theorem ZdU:∀ c,c < 128->QT FG ⟨#[c]⟩=UF c:=by decide +kernel
theorem Zd4(h:Wd x)(f:Wv x m=true):Ue x.cps.toList=true:=by
 have hl:=h.len;unfold Wv mdB mkd at f;simp only[Ba,aS,aW]at f;obtain⟨⟨⟨f1,_⟩,f3⟩,_⟩:=f;unfold Ue;simp only[Ba,aS,cT,List.isEmpty_eq_false_iff,aW];refine⟨⟨fun z=>?_,fun c hc=>?_⟩,by rw[Zk];omega⟩
 ·rw[<-Zk,z]at f1;exact absurd f1 (by decide)
 ·rw[<-ZdU c (h.asc c hc)]
  exact f3 _ (aT.mpr ⟨c,hc,rfl⟩)
theorem ZgB(h:Ue (c :: r)=true):c≠45:=by
 unfold Ue at h;simp only[Ba,bA]at h;have:=h.1.2.1;unfold UF at this;simp only[Ba,aS]at this;omega
theorem Zev(f:Ue x.cps.toList=true):QE (.str x)=some (.int (dgV x.cps.toList:Int)):=by
 have e:WJ x=some (dgV x.cps.toList:Int):=by
  unfold WJ;split
  ·rename_i r e
   rw[e]at f;exact absurd rfl (ZgB f)
  ·rw[if_pos f]
 show(match WJ x with
  |some i=>some (P.int i)
  |none=>none)=_
 rw[e]
theorem Zjr(e:x.cps.toList=45 :: r)(f:Ue r=true):QE (.str x)=some (.int (-(dgV r:Int))):=by
 have e:WJ x=some (-(dgV r:Int)):=by
  unfold WJ;rw[e];show(if Ue r=true then some (-(dgV r:Int)) else none)=_
  rw[if_pos f]
 show(match WJ x with
  |some i=>some (P.int i)
  |none=>none)=_
 rw[e]
def tlS(x:Str):Str:=W0 x (some 1) none
theorem VH:(tlS x).cps.toList=x.cps.toList.drop 1:=by
 show((x.cps.toList.drop (Nat.min 1 x.length)).take (x.length - Nat.min 1 x.length))=_;rw[<-Zk];cases x.cps.toList with
 |nil=>rfl
 |cons c r=>
  have:Nat.min 1 (c :: r).length=1:=by rw[aY];exact cC (by omega)
  rw[this];show r.take (r.length+1 - 1)=r;rw[Nat.add_sub_cancel,dU]
theorem ZlT(h:Wd x):Wd (tlS x):=⟨by
 have:=h.len;rw[<-Zk,VH,cG,Zk];omega,fun c hc=>h.asc c (List.mem_of_mem_drop (by rw[<-VH];exact hc))⟩
theorem ZlP(h:Wd x):Ys (.str x) (some 1) none=some (.str (tlS x)):=by
 show(if x.length<=Zc then some (P.str (W0 x (some 1) none)) else none)=_
 rw[if_pos h.le];rfl
def ngB(x:Str):Bool:=x.cps.toList.head?==some 45
theorem ZlQ:stW x (S "-")=ngB x:=by
 unfold stW ngB;show(x.cps.toList.take 1==[45])=_;cases x.cps.toList with
 |nil=>rfl
 |cons c r=>simp
theorem neg0:(x=S "-0")↔x.cps.toList=[45,48]:=⟨fun h=>by rw[h];rfl,fun h=>Z2 (h.trans rfl)⟩
def ZaF(x:Str):P:=
 if x=S "-0" then .non
 else if ngB x=true then (if Wv (tlS x) 10=true/\(dgV (x.cps.toList.drop 1):Int)<=1000000000 then .int (-(dgV (x.cps.toList.drop 1):Int)) else .non)
 else if Wv x 10=true/\(dgV x.cps.toList:Int) < 1000000000 then .int (dgV x.cps.toList:Int) else .non
theorem ZkM(h:Wd x):Zh T (n+3) 212 [.str x]=some (ZaF x):=by
 rw[ZB (f:=c_number_in) rfl rfl rfl,show ZR c_number_in.body=[] from rfl];show Yk (px (Zh T (n+2)) [] c_number_in.body [some (.str x),none,none])=_;unfold c_number_in;have k0:pe (Zh T (n+2)) (.starts (.var 0) (.aC (.cst (.str (S "-"))) .aN)) [some (.str x),none,none]=some (.bl (ngB x)):=by
  rw[ZcS];show Wg (.str x) (.tup [.str (S "-")])=_;show some (P.bl (stW x (S "-")))=_;rw[ZlQ]
 have k1:pe (Zh T (n+2)) (.ife (.starts (.var 0) (.aC (.cst (.str (S "-"))) .aN)) (.slice (.var 0) (.part (.cst (.int 1))) .nop) (.var 0)) [some (.str x),none,none]=some (.str (if ngB x=true then tlS x else x)):=by
  rw[QV,k0];cases ngB x with
  |true=>exact ZlP h
  |false=>rfl
 rw[WD k1];simp only[Zm,Zl];generalize hy:(if ngB x=true then tlS x else x)=y
 have wy:Wd y:=by rw[<-hy];split<;>first|exact ZlT h|exact h
 have k2:∀ {z:Ot P},pe (Zh T (n+2)) (.cmp .Eq (.var 0) (.cst (.str (S "-0")))) [some (.str x),some (.str y),z]=some (.bl (decide (x=S "-0"))):=Zbd;have k3:pe (Zh T (n+2)) (.call 211 (.aC (.var 1) (.aC (.cst (.int 10)) .aN)) []) [some (.str x),some (.str y),none]=some (.bl (Wv y 10)):=Zia (n:=n) wy;by_cases h0:x=S "-0"
 ·rw[Yp (v:=.non) (by rw[pe_or,k2,aK h0];rfl) rfl]
  unfold ZaF;rw[if_pos h0];rfl
 ·unfold ZaF
  rw[if_neg h0];cases f:Wv y 10 with
  |false=>
   rw[f]at k3;rw[Yp (v:=.non) (by rw[pe_or,k2,aO h0,pe_not,k3];rfl) rfl]
   cases g:ngB x with
   |true=>
    rw[g,if_pos rfl]at hy;rw[if_pos rfl,hy,if_neg (fun z=>by rw[f]at z;exact Bf z.1)];rfl
   |false=>
    rw[g,if_neg Bf]at hy;rw[if_neg Bf,hy,if_neg (fun z=>by rw[f]at z;exact Bf z.1)];rfl
  |true=>
   rw[f]at k3;rw[ZM (by rw[pe_or,k2,aO h0,pe_not,k3];rfl)]
   have fy:=Zd4 wy f;have ar:∀ v:Int,Zh T (n+2) 0 [.int v]=some (.int (YN v)):=fun v=>Zde (n:=n+1) rfl
   have last:∀ v:Int,QE (.str x)=some (.int v)->Yk (px (Zh T (n+2)) [] (.seq (.set 2 (.intOf (.var 0))) (.seq (.ret (.ife (.cmp .Eq (.call 0 (.aC (.var 2) .aN) []) (.var 2)) (.var 2) (.cst .non))) .skip)) [some (.str x),some (.str y),none])=some (if YN v=v then .int v else .non):=fun v hv=>by
    rw[WD (v:=.int v) (by exact hv)]
    simp only[Zm,Zl];rw[Z4 (v:=if YN v=v then .int v else .non) (by
     have kk:pe (Zh T (n+2)) (.cmp .Eq (.call 0 (.aC (.var 2) .aN) []) (.var 2)) [some (.str x),some (.str y),some (.int v)]=some (.bl (decide (YN v=v))):=by
      rw[Yc];show((Zh T (n+2) 0 [.int v]).bind fun z=>YD .Eq z (.int v))=_
      rw[ar];exact Zgj
     rw[QV,kk];by_cases q:YN v=v
     ·rw[aK q,if_pos q];rfl
     ·rw[aO q,if_neg q];rfl)]
    rfl
   have rng:∀ v:Int,YN v=v↔-1000000000<=v/\v<=999999999:=fun v=>by unfold YN;omega
   cases g:ngB x with
   |true=>
    rw[g,if_pos rfl]at hy;have e:x.cps.toList=45 :: x.cps.toList.drop 1:=by
     unfold ngB at g;cases e:x.cps.toList with
     |nil=>rw[e]at g;cases g
     |cons c r=>
      rw[e]at g;have g45:c=45:=by simpa using g
      rw[g45];rfl
    rw[<-hy,VH]at fy;rw[last _ (Zjr e fy),if_pos rfl,hy,f];by_cases q:(dgV (x.cps.toList.drop 1):Int)<=1000000000
    ·rw[if_pos ((rng _).mpr (by omega)),if_pos ⟨rfl,q⟩]
    ·rw[if_neg (fun z=>q (by have:=(rng _).mp z;omega)),if_neg (fun z=>q z.2)]
   |false=>
    rw[g,if_neg Bf]at hy;rw[if_neg Bf];subst hy;rw[last _ (Zev fy),f];by_cases q:(dgV x.cps.toList:Int) < 1000000000
    ·rw[if_pos ((rng _).mpr (by omega)),if_pos ⟨rfl,q⟩]
    ·rw[if_neg (fun z=>q (by have:=(rng _).mp z;omega)),if_neg (fun z=>q z.2)]
def plP(x:Str):P:=if Wv x 2=true then .int (dgV x.cps.toList:Int) else .non
theorem ZfS(h:Wd x):Zh T (n+3) 213 [.str x]=some (plP x):=by
 rw[ZB (f:=c_place_in) rfl rfl rfl,show ZR c_place_in.body=[] from rfl];show Yk (px (Zh T (n+2)) [] c_place_in.body [some (.str x)])=_;unfold c_place_in plP;have k1:pe (Zh T (n+2)) (.call 211 (.aC (.var 0) (.aC (.cst (.int 2)) .aN)) []) [some (.str x)]=some (.bl (Wv x 2)):=Zia (n:=n) h;cases f:Wv x 2 with
 |false=>
  rw[f]at k1;rw[Z4 (v:=.non) (by rw[QV,k1];rfl)];rfl
 |true=>
  rw[f]at k1;rw[Z4 (v:=.int (dgV x.cps.toList:Int)) (by rw[QV,k1];exact Zev (Zd4 h f))];rfl
end
section
variable {n:Nat}{x:Str}{m:Int}{c:Int}{i t:Nat}
def dgl(n:Nat):Li Nat:=(Nat.toDigits 10 n).map Char.toNat
theorem V2:∀ c∈dgl n,UF c=true:=by
 intro c hc;obtain⟨ch,hch,rfl⟩:=aT.mp hc;have h:=Nat.isDigit_of_mem_toDigits (by decide) (by decide) hch
 unfold Char.isDigit at h;simp only[Ba,aS]at h;have h1:48<=ch.val.toNat:=h.1;have h2:ch.val.toNat<=57:=h.2;unfold UF;rw[Ba,aS,aS];exact⟨h1,h2⟩
theorem Qt:0 < (dgl n).length:=by unfold dgl;rw[aD];exact Nat.length_toDigits_pos
theorem Zgs{k:Nat}(hk:1<=k)(h:n < 10 ^ k):(dgl n).length<=k:=by
 unfold dgl;rw[aD];exact PyProof.Rows.digits10_le hk h
theorem Qu:dgV (dgl n)=n:=by
 have h:=Nat.ofDigitChars_ten_toDigits (n:=n);rw[Nat.ofDigitChars_eq_foldl]at h;unfold dgV dgl;rw[List.foldl_map];refine Eq.trans ?_ h
 congr 1
 funext a ch
 show a * 10+(ch.toNat - 48)=10 * a+(ch.toNat - '0'.toNat);rw[Nat.mul_comm];rfl
theorem Zmq:∀ n,n < 10->0 < n->¬(Nat.digitChar n).toNat=48:=by decide
theorem V3:∀ (k n:Nat),n<=k->0 < n->(dgl n).head?≠some 48
 |0,n,h,h0=>by omega
 |k+1,n,h,h0=>by
  unfold dgl;by_cases c:n < 10
  ·rw[Nat.toDigits_of_lt_base c]
   intro e;exact Zmq n c h0 (Option.some.inj e)
  ·rw[Nat.toDigits_of_base_le (by decide) (by omega),bP,List.head?_append]
   have h2:=V3 k (n / 10) (by omega) (by omega)
   unfold dgl at h2;have h3:0 < ((Nat.toDigits 10 (n / 10)).map Char.toNat).length:=Qt;cases e:(Nat.toDigits 10 (n / 10)).map Char.toNat with
   |nil=>rw[e]at h3;exact absurd h3 (by decide)
   |cons a l=>rw[e]at h2;exact h2
theorem QR:(nuS (n:Int)).cps.toList=dgl n:=by
 unfold nuS dgl;rw[Str.ofString_eq_toList];show(((toString n).toList.map Char.toNat).toArray).toList=_;rw[bO,WN]
theorem ZaE:(nuS (Int.negSucc n)).cps.toList=45 :: dgl (n+1):=by
 unfold nuS dgl;rw[Str.ofString_eq_toList];show(((toString (Int.negSucc n)).toList.map Char.toNat).toArray).toList=_;have e:(toString (Int.negSucc n)).toList='-' :: Nat.toDigits 10 (n+1):=by
  show("-"++toString (n+1)).toList=_;rw[String.toList_append,WN];rfl
 rw[bO,e,aM];rfl
theorem Qx{k:Nat}(e:x.cps.toList=dgl n)(hk:1<=k)(h:n < 10 ^ k):Wv x (k:Int)=true:=by
 have l1:x.length=(dgl n).length:=by rw[<-Zk,e]
 have l2:=Zgs hk h;have l3:=Qt (n:=n);unfold Wv mdB mkd;rw[Ba,Ba,Ba,aS,aS,aW];refine⟨⟨⟨by omega,by omega⟩,fun w hw=>?_⟩,?_⟩
 ·unfold chS at hw
  rw[e]at hw;obtain⟨c,hc,rfl⟩:=aT.mp hw;have d:=V2 c hc;have d2:=d;unfold UF at d2;rw[Ba,aS,aS]at d2;rw[ZdU c (by omega)]
  exact d
 ·unfold fz
  rw[e];by_cases h0:n=0
  ·subst h0;rfl
  ·have h2:=V3 n n (aB _) (by omega)
   cases q:dgl n with
   |nil=>rw[q]at l3;exact absurd l3 (by decide)
   |cons a l=>
    rw[q]at h2;have:a≠48:=fun z=>h2 (by rw[z];rfl)
    show(!(a==48)||l.isEmpty)=true;rw[bV.mpr this];rfl
theorem Jm{r:Li Nat}:dgl n≠45 :: r:=by
 intro e;have:=V2 (n:=n) 45 (by rw[e];exact Ls)
 exact absurd this (by decide)
theorem ZjE(h:Sm c):ZaF (nuS c)=.int c:=by
 obtain⟨h1,h2⟩:=h;cases c with
 |ofNat k=>
  have h2:(k:Int)<=999999999:=h2;show ZaF (nuS (k:Int))=.int (k:Int);have e:=QR (n:=k);have g:ngB (nuS (k:Int))=false:=by
   unfold ngB;rw[e];cases q:dgl k with
   |nil=>rfl
   |cons a l=>
    have:a≠45:=fun z=>Jm (n:=k) (r:=l) (by rw[q,z])
    show(some a==some 45)=false;simp[this]
  unfold ZaF;rw[if_neg (fun z=>Jm (n:=k) (r:=[48]) (by rw[<-e,neg0.mp z])),g,if_neg Bf,e,Qu,if_pos ⟨Qx (k:=10) e (by decide) (by omega),by omega⟩]
 |negSucc k=>
  have h1:(-1000000000:Int)<=-((k:Int)+1):=h1;have e:=ZaE (n:=k);have g:ngB (nuS (Int.negSucc k))=true:=by
   unfold ngB;rw[e];rfl
  have e2:(tlS (nuS (Int.negSucc k))).cps.toList=dgl (k+1):=by rw[VH,e];rfl
  have n0:¬nuS (Int.negSucc k)=S "-0":=fun z=>by
   have:=neg0.mp z;rw[e]at this;have h3:=V3 (k+1) (k+1) (aB _) (by omega)
   rw[List.cons.injEq]at this;rw[this.2]at h3;exact h3 rfl
  unfold ZaF;rw[if_neg n0,g,if_pos rfl,e,List.drop_one,List.tail_cons,Qu,if_pos ⟨Qx (k:=10) e2 (by decide) (by omega),by omega⟩]
  show P.int (-((k+1:Nat):Int))=_;rw[Int.negSucc_eq]
  congr 1
theorem ZlF(h:t < 100):plP (nuS (t:Int))=.int (t:Int):=by
 have e:=QR (n:=t);unfold plP;rw[if_pos (show Wv (nuS (t:Int)) 2=true from Qx (k:=2) e (by decide) (by omega)),e,Qu]
def AZ:Str:=S "abcdefghijklmnopqrstuvwxyz"
def nmB(x:Str):Bool:=mdB x AZ 8
theorem Zmm:∀ c,c < 58->QT AZ ⟨#[c]⟩=false:=by decide +kernel
theorem ZeT:∃ a l,(nuS c).cps.toList=a :: l/\a < 58:=by
 cases c with
 |ofNat k=>
  have e:=QR (n:=k);have l3:=Qt (n:=k);cases q:dgl k with
  |nil=>rw[q]at l3;exact absurd l3 (by decide)
  |cons a l=>
   have:=V2 (n:=k) a (by rw[q];exact Ls)
   unfold UF at this;rw[Ba,aS,aS]at this;exact⟨a,l,e.trans q,by omega⟩
 |negSucc k=>exact⟨45,_,ZaE,by decide⟩
theorem Zhe:nmB (nuS c)=false:=by
 obtain⟨a,l,e,h⟩:=ZeT (c:=c);unfold nmB mdB mkd chS;rw[e,aM,bA,Zmm a h,Bool.false_and,Bool.and_false]
theorem ZeS:∀ a∈(nuS c).cps.toList,a < 58/\45<=a:=by
 intro a ha;cases c with
 |ofNat k=>
  rw[show nuS (Int.ofNat k)=nuS (k:Int) from rfl,QR]at ha;have:=V2 a ha;unfold UF at this;rw[Ba,aS,aS]at this;omega
 |negSucc k=>
  rw[ZaE]at ha;rcases aJ.mp ha with rfl|ha
  ·omega
  ·have:=V2 a ha
   unfold UF at this;rw[Ba,aS,aS]at this;omega
theorem ZfI(h:(nuS c).length<=13):Wd (nuS c):=⟨by omega,fun a ha=>by have:=ZeS a ha;omega⟩
def Vis(x:Str):Prop:=∀ c∈x.cps.toList,33<=c
structure Nms(N:Nat->Str):Prop where
 nm:∀ i,i < 5->nmB (N i)=true
 wd:∀ i,i < 5->Wd (N i)
 inj:∀ i j,i < 5->j < 5->N i=N j->i=j
 vis:∀ i,i < 5->Vis (N i)
theorem Q5(h:Wd x):Zh T (n+2) 210 [.str x]=some (.bl (nmB x)):=ZiH h
end
section
variable {n m:Nat}{F:PFn}{π:Zt}{x s:Str}{c:Int}{i t:Nat}{o:Opd}{N:Nat->Str}
theorem Zgy{b:Bool}(h:F 210 [.str x]=some (.bl b)):px F [] c_fits.body [some (.str x),some (.str (S "name"))]=some (.rt (.bl b)):=by
 unfold c_fits;rw[Yp (by rfl) (by exact h)]
theorem Zcv{v:Int}(h:F 212 [.str x]=some (.int v)):px F [] c_fits.body [some (.str x),some (.str (S "number"))]=some (.rt (.bl true)):=by
 unfold c_fits;rw[ZM (by rfl),Yp (v:=.bl true) (by rfl) (by
  rw[Yc,show pe F (.call 212 (.aC (.var 0) .aN) []) [some (.str x),some (.str (S "number"))]=some (.int v) from h];rfl)]
theorem Zgz(h:F 210 [.str x]=some (.bl true)):px F [] c_fits.body [some (.str x),some (.str (S "operand"))]=some (.rt (.bl true)):=by
 unfold c_fits;rw[ZM (by rfl),ZM (by rfl),Yp (v:=.bl true) (by rfl) (by
  rw[pe_or,show pe F (.call 210 (.aC (.var 0) .aN) []) [some (.str x),some (.str (S "operand"))]=some (.bl true) from h];rfl)]
theorem ZgA{v:Int}(h:F 210 [.str x]=some (.bl false))(h2:F 212 [.str x]=some (.int v)):px F [] c_fits.body [some (.str x),some (.str (S "operand"))]=some (.rt (.bl true)):=by
 unfold c_fits;rw[ZM (by rfl),ZM (by rfl),Yp (v:=.bl true) (by rfl) (by
  rw[pe_or,show pe F (.call 210 (.aC (.var 0) .aN) []) [some (.str x),some (.str (S "operand"))]=some (.bl false) from h,Yc,show pe F (.call 212 (.aC (.var 0) .aN) []) [some (.str x),some (.str (S "operand"))]=some (.int v) from h2];rfl)]
theorem Zla(h:PSg s):px F [] c_fits.body [some (.str s),some (.str (S "put sign"))]=some (.rt (.bl true)):=by
 unfold c_fits;rw[ZM (by rfl),ZM (by rfl),ZM (by rfl),Yp (v:=.bl true) (by rfl) (by
  rcases h with h|h|h|h|h<;>subst h<;>rfl)]
theorem Zk9(h:ISg s):px F [] c_fits.body [some (.str s),some (.str (S "if sign"))]=some (.rt (.bl true)):=by
 unfold c_fits;rw[ZM (by rfl),ZM (by rfl),ZM (by rfl),ZM (by rfl),Yp (v:=.bl true) (by rfl) (by
  rcases h with h|h|h|h|h|h<;>subst h<;>rfl)]
theorem Zd2{v:Int}(h:F 213 [.str x]=some (.int v)):px F [] c_fits.body [some (.str x),some (.str (S "place"))]=some (.rt (.bl true)):=by
 unfold c_fits;rw[ZM (by rfl),ZM (by rfl),ZM (by rfl),ZM (by rfl),ZM (by rfl),Yp (v:=.bl true) (by rfl) (by
  rw[Yc,show pe F (.call 213 (.aC (.var 0) .aN) []) [some (.str x),some (.str (S "place"))]=some (.int v) from h];rfl)]
theorem Zk8:px F [] c_fits.body [some (.str (S "go")),some (.str (S "go"))]=some (.rt (.bl true)):=by
 unfold c_fits;rw[ZM (by rfl),ZM (by rfl),ZM (by rfl),ZM (by rfl),ZM (by rfl),ZM (by rfl),Z4 (v:=.bl true) (by rfl)]
theorem XF{k:Str}{b:Bool}(h:px (Zh T n) [] c_fits.body [some (.str x),some (.str k)]=some (.rt (.bl b))):Zh T (n+1) 232 [.str x,.str k]=some (.bl b):=by
 rw[ZB (f:=c_fits) rfl rfl rfl,show ZR c_fits.body=[] from rfl];show Yk (px (Zh T n) [] c_fits.body [some (.str x),some (.str k)])=_;rw[h];rfl
def Fit(n:Nat)(x k:Str):Prop:=Zh T n 232 [.str x,.str k]=some (.bl true)
def opN(N:Nat->Str):Opd->Str
 |.name i=>N i
 |.num c=>nuS c
theorem Zg8(hN:Nms N)(h:i < 5):Zh T (n+2) 210 [.str (N i)]=some (.bl true):=by rw[Q5 (hN.wd i h),hN.nm i h]
theorem ZjB(h:Sm c):Zh T (n+2) 210 [.str (nuS c)]=some (.bl false):=by rw[Q5 (ZfI (Vb h)),Zhe]
theorem Za0(h:Sm c):Zh T (n+3) 212 [.str (nuS c)]=some (.int c):=by rw[ZkM (ZfI (Vb h)),ZjE h]
theorem ZlD(h:t < 100):Zh T (n+3) 213 [.str (nuS (t:Int))]=some (.int (t:Int)):=by rw[ZfS (ZfI (QQ (by omega))),ZlF h]
theorem V8(hN:Nms N)(h:i < 5):Fit (n+4) (N i) (S "name"):=XF (Zgy (Zg8 (n:=n+1) hN h))
theorem V9(h:Sm c):Fit (n+4) (nuS c) (S "number"):=XF (Zcv (Za0 (n:=n) h))
theorem Zbk(hN:Nms N)(hm:m<=5)(h:YB m o):Fit (n+4) (opN N o) (S "operand"):=by
 cases o with
 |name i=>exact XF (Zgz (Zg8 (n:=n+1) hN (by have:i < m:=h;omega)))
 |num c=>exact XF (ZgA (ZjB (n:=n+1) h) (Za0 (n:=n) h))
theorem Zjh(h:PSg s):Fit (n+4) s (S "put sign"):=XF (Zla h)
theorem Zjg(h:ISg s):Fit (n+4) s (S "if sign"):=XF (Zk9 h)
theorem Zcy(h:t < 100):Fit (n+4) (nuS (t:Int)) (S "place"):=XF (Zd2 (ZlD (n:=n) h))
theorem Zjf:Fit (n+4) (S "go") (S "go"):=XF Zk8
def kinds(k:Str):Li Str:=if k=S "take" then [S "name",S "number",S "number"] else if k=S "name" then [S "name"] else if k=S "put" then [S "name",S "operand",S "put sign",S "operand"] else if k=S "if" then [S "operand",S "if sign",S "operand",S "go",S "place"] else if k=S "go" then [S "place"] else if k=S "tell" then [S "operand"] else []
def WW(k:Str):Prop:=k=S "take"\/k=S "name"\/k=S "put"\/k=S "if"\/k=S "go"\/k=S "tell"\/k=S "skip"
def LKf:CE:=(.look [(S "take"),(S "name"),(S "put"),(S "if"),(S "go"),(S "tell"),(S "skip")] [(.tup [(.str (S "name")),(.str (S "number")),(.str (S "number"))]),(.tup [(.str (S "name"))]),(.tup [(.str (S "name")),(.str (S "operand")),(.str (S "put sign")),(.str (S "operand"))]),(.tup [(.str (S "operand")),(.str (S "if sign")),(.str (S "operand")),(.str (S "go")),(.str (S "place"))]),(.tup [(.str (S "place"))]),(.tup [(.str (S "operand"))]),(.tup [])] (.ix (.var 0) (.cst (.int 0))))
theorem Zg0{k:P}{b:Bool}{ws:Li P}:pe F (.ix (.var 0) (.cst (.int 0))) (some (.lst b (k :: ws)) :: π)=some k:=by
 show atP (k :: ws) ((0:Nat):Int)=_;rw[Yb rfl];rfl
theorem ZeI{k:Str}{b:Bool}{ws:Li P}(h:WW k):pe F LKf (some (.lst b (.str k :: ws)) :: π)=some (.tup ((kinds k).map P.str)):=by
 have e:pe F (.ix (.var 0) (.cst (.int 0))) (some (.lst b (.str k :: ws)) :: π)=some (.str k):=Zg0;unfold LKf;rw[Zhn,e];rcases h with h|h|h|h|h|h|h<;>subst h<;>rfl
theorem sl1{b:Bool}{k:P}{ws:Li P}:pe F (.slice (.var 0) (.part (.cst (.int 1))) .nop) (some (.lst b (k :: ws)) :: π)=some (.lst true ws):=by
 show some (P.lst true (Zcm (k :: ws) (some 1) none))=_
 congr 2
 show((k :: ws).drop (Nat.min 1 (k :: ws).length)).take ((k :: ws).length - Nat.min 1 (k :: ws).length)=ws;have:Nat.min 1 (k :: ws).length=1:=by rw[aY];exact cC (by omega)
 rw[this,aY,Nat.add_sub_cancel];exact dU
theorem VI{α β:Type}{f:α->β}:∀ {xs ys:Li α},(xs.map f).zip (ys.map f)=(xs.zip ys).map fun p=>(f p.1,f p.2)
 |[],_=>rfl
 |_ :: _,[]=>rfl
 |x :: xs,y :: ys=>by
  show(f x,f y) :: (xs.map f).zip (ys.map f)=_;rw[VI];rfl
theorem ZfY{k:Str}{b:Bool}{ws:Li Str}(hn:ws.length<=900)(h:∀ p∈ws.zip (kinds k),F 232 [.str p.1,.str p.2]=some (.bl true)):pe F (.all XO) [some (.lst b ((k :: ws).map P.str)),some (.tup ((kinds k).map P.str))]=some (.bl true):=by
 have e0:pe F (.aC (.slice (.var 0) (.part (.cst (.int 1))) .nop) (.aC (.var 1) .aN)) [some (.lst b ((k :: ws).map P.str)),some (.tup ((kinds k).map P.str))]=some (.tup [.lst true (ws.map P.str),.tup ((kinds k).map P.str)]):=by
  rw[Zn,aM,sl1];rfl
 have ez:ZbU (ws.map P.str) ((kinds k).map P.str)=(ws.zip (kinds k)).map fun p=>P.tup [.str p.1,.str p.2]:=by
  unfold ZbU;rw[VI,bB];rfl
 have hl:(ws.zip (kinds k)).length<=900:=by rw[cJ];omega
 unfold XO;rw[Ze3,Ze4 e0 (show X7 _=some _ from rfl) (by rw[ez,aD];omega),ez]
 rw[Qs (enc:=fun p:Str×Str=>P.tup [.str p.1,.str p.2]) (g:=fun _=>P.bl true) (fun _ _=>rfl) (fun p hp=>h p hp),Ob,Ob]
 have:(ws.zip (kinds k)).map (fun _=>P.bl true)=((ws.zip (kinds k)).map fun _=>true).map P.bl:=by rw[bB];rfl
 rw[this,Qd]
 congr 2
 rw[List.all_map,aW];exact fun _ _=>rfl
theorem ZcG{k:Str}{b:Bool}{ws:Li Str}(hk:WW k)(hl:ws.length=(kinds k).length)(h:∀ p∈ws.zip (kinds k),F 232 [.str p.1,.str p.2]=some (.bl true))(ht:k=S "take"->∃ x y z a b,ws=[x,y,z]/\F 212 [.str y]=some (.int a)/\F 212 [.str z]=some (.int b)/\a<=b):px F [] c_is_line.body [some (.lst b ((k :: ws).map P.str)),none]=some (.rt (.bl true)):=by
 have l5:(kinds k).length<=5:=by rcases hk with h|h|h|h|h|h|h<;>subst h<;>exact(by decide)
 unfold c_is_line;have e0:pe F (.cmp .NotIn (.ix (.var 0) (.cst (.int 0))) (.cst (.kt [(S "take"),(S "name"),(S "put"),(S "if"),(S "go"),(S "tell"),(S "skip")]))) [some (.lst b ((k :: ws).map P.str)),none]=some (.bl false):=by
  rw[Yc,aM,Zg0];rcases hk with h|h|h|h|h|h|h<;>subst h<;>rfl
 rw[ZM e0,WD (v:=.tup ((kinds k).map P.str)) (by exact ZeI hk)]
 simp only[Zm,Zl];have e1:pe F (.cmp .NotEq (.len (.var 0)) (.bin .Add (.cst (.int 1)) (.len (.var 1)))) [some (.lst b ((k :: ws).map P.str)),some (.tup ((kinds k).map P.str))]=some (.bl false):=by
  show some (P.bl (!decide ((((k :: ws).map P.str).length:Int)=1+(((kinds k).map P.str).length:Int))))=_;rw[aD,aD,aY,hl,aK (by omega)]
  rfl
 rw[ZM (by rw[pe_or,e1,pe_not,ZfY (by omega) h];rfl)]
 by_cases c:k=S "take"
 ·obtain⟨x,y,z,a,a',rfl,hy,hz,hle⟩:=ht c
  subst c;rw[Z4 (v:=.bl true) (by
   have z1:pe F (.call 212 (.aC (.ix (.var 0) (.cst (.int 2))) .aN) []) [some (.lst b ((S "take" :: [x,y,z]).map P.str)),some (.tup ((kinds (S "take")).map P.str))]=some (.int a):=hy;have z2:pe F (.call 212 (.aC (.ix (.var 0) (.cst (.int 3))) .aN) []) [some (.lst b ((S "take" :: [x,y,z]).map P.str)),some (.tup ((kinds (S "take")).map P.str))]=some (.int a'):=hz;rw[pe_or,show pe F (.cmp .NotEq (.ix (.var 0) (.cst (.int 0))) (.cst (.str (S "take")))) [some (.lst b ((S "take" :: [x,y,z]).map P.str)),some (.tup ((kinds (S "take")).map P.str))]=some (.bl false) from rfl,Yc,z1,z2]
   show some (P.bl (decide (a<=a')))=_;rw[aK hle])]
 ·rw[Z4 (v:=.bl true) (by
   rw[pe_or,show pe F (.cmp .NotEq (.ix (.var 0) (.cst (.int 0))) (.cst (.str (S "take")))) [some (.lst b ((k :: ws).map P.str)),some (.tup ((kinds k).map P.str))]=some (.bl (!decide (k=S "take"))) from(by rw[Yc,aM,Zg0];rfl),aO c]
   rfl)]
theorem VN{k:Str}{b:Bool}{ws:Li Str}(hk:WW k)(hl:ws.length=(kinds k).length)(h:∀ p∈ws.zip (kinds k),Fit n p.1 p.2)(ht:k=S "take"->∃ x y z a b,ws=[x,y,z]/\Zh T n 212 [.str y]=some (.int a)/\Zh T n 212 [.str z]=some (.int b)/\a<=b):Zh T (n+1) 233 [.lst b ((k :: ws).map P.str)]=some (.bl true):=by
 rw[ZB (f:=c_is_line) rfl rfl rfl,show ZR c_is_line.body=[] from rfl];show Yk (px (Zh T n) [] c_is_line.body [some (.lst b ((k :: ws).map P.str)),none])=_;rw[ZcG hk hl h ht];rfl
end
variable{acc:Li P}{x0:Ot P}
section
variable {n m:Nat}{F:PFn}{π:Zt}{x s:Str}{c:Int}{i t:Nat}{o:Opd}{b:Bool}{N:Nat->Str}
def nmP(N:Nat->Str)(m:Nat):Li P:=(List.range m).map fun i=>.tup [.str (N i),.int (i:Int)]
theorem Qy{α:Type}{f:α->Bool}{g:Nat->α}:∀ {l:Li Nat}{i:Nat},i∈l->f (g i)=true->(∀ j∈l,f (g j)=true->j=i)->(l.map g).find? f=some (g i)
 |k :: l,i,h,h1,h2=>by
  rw[aM];by_cases c:f (g k)=true
  ·rw[dD c,h2 k Ls c]
  ·rw[cQ c]
   refine Qy ?_ h1 fun j hj=>h2 j (Lm _ hj)
   rcases aJ.mp h with rfl|h
   ·exact absurd h1 c
   ·exact h
theorem Zlq(hN:Nms N)(hm:m<=5)(h:i < m):ixP (.dic b (nmP N m)) (.str (N i))=some (.int (i:Int)):=by
 have ob:Zbs (nmP N m)=false:=by
  unfold nmP;cases m with
  |zero=>rfl
  |succ k=>rw[dQ];rfl
 have e:(nmP N m).find? (ZcC (N i))=some (.tup [.str (N i),.int (i:Int)]):=Qy (g:=fun i=>P.tup [.str (N i),.int (i:Int)]) (bM.mpr h) (show decide (N i=N i)=true from aK rfl) fun j hj hd=>by
  have:N j=N i:=of_decide_eq_true (show decide (N j=N i)=true from hd);exact hN.inj j i (by have:=bM.mp hj;omega) (by omega) this
 show((if Zbs (nmP N m)=true then none else some (W1 (nmP N m) (N i))):Ot (Ot P)).join=_
 rw[ob,if_neg Bf];unfold W1;rw[e];rfl
theorem ZmM{d:P}(h:F 210 [.str x]=some (.bl true)){v:P}(e:ixP d (.str x)=some v):px F [] c_operand_in.body [some (.str x),some d]=some (.rt (.tup [.str (S "name"),v])):=by
 unfold c_operand_in;rw[Yp (v:=.tup [.str (S "name"),v]) (by exact h) (by
  rw[Wc,Zn,Zn,show pe F (.ix (.var 1) (.var 0)) [some (.str x),some d]=some v from e];rfl)]
theorem ZmN{d:P}{v:P}(h:F 210 [.str x]=some (.bl false))(e:F 212 [.str x]=some v):px F [] c_operand_in.body [some (.str x),some d]=some (.rt (.tup [.str (S "number"),v])):=by
 unfold c_operand_in;rw[ZM (by exact h),Z4 (v:=.tup [.str (S "number"),v]) (by
  rw[Wc,Zn,Zn,show pe F (.call 212 (.aC (.var 0) .aN) []) [some (.str x),some d]=some v from e];rfl)]
theorem Zdi{d:P}{v:P}(h:px (Zh T n) [] c_operand_in.body [some (.str x),some d]=some (.rt v)):Zh T (n+1) 235 [.str x,d]=some v:=by
 rw[ZB (f:=c_operand_in) rfl rfl rfl,show ZR c_operand_in.body=[] from rfl];show Yk (px (Zh T n) [] c_operand_in.body [some (.str x),some d])=_;rw[h];rfl
inductive Pr(N:Nat->Str)(m:Nat):Str×Str->List P->List Str->Prop
 |name (i:Nat) (h:i < m):Pr N m (N i,S "name") [.int (i:Int)] [N i]
 |opn (i:Nat) (h:i < m):Pr N m (N i,S "operand") [Z3 (.name i)] [N i]
 |opc (c:Int) (h:Sm c):Pr N m (nuS c,S "operand") [Z3 (.num c)] []
 |ps (s:Str) (h:PSg s):Pr N m (s,S "put sign") [.str s] []
 |is (s:Str) (h:ISg s):Pr N m (s,S "if sign") [.str s] []
 |go:Pr N m (S "go",S "go") [] []
 |pl (t:Nat) (h:t < 100):Pr N m (nuS (t:Int),S "place") [.int (t:Int)] []
inductive Prs(N:Nat->Str)(m:Nat):List (Str×Str)->List P->List Str->Prop
 |nil:Prs N m [] [] []
 |cons {p:Str×Str}{l:List (Str×Str)}{ts us:List P}{ns ms:List Str} (h:Pr N m p ts ns) (r:Prs N m l us ms):Prs N m (p :: l) (ts++us) (ns++ms)
theorem Pr.fit(hN:Nms N){p:Str×Str}{ns:Li Str}(hm:m<=5)(h:Pr N m p ts ns):Fit (n+4) p.1 p.2:=by
 cases h with
 |name i h=>exact V8 hN (by omega)
 |opn i h=>exact Zbk hN hm (o:=.name i) h
 |opc c h=>exact Zbk hN hm (o:=.num c) h
 |ps s h=>exact Zjh h
 |is s h=>exact Zjg h
 |go=>exact Zjf
 |pl t h=>exact Zcy h
theorem Prs.fit(hN:Nms N){l:Li (Str×Str)}{ns:Li Str}(hm:m<=5)(h:Prs N m l ts ns):∀ p∈l,Fit (n+4) p.1 p.2:=by
 induction h with
 |nil=>exact fun p hp=>absurd hp (aU)
 |cons h r ih=>
  intro p hp;rcases aJ.mp hp with rfl|hp
  ·exact h.fit hN hm
  ·exact ih p hp
theorem Prs.names{l:Li (Str×Str)}{ns:Li Str}(h:Prs N m l ts ns):∀ w∈ns,∃ i,i < m/\w=N i:=by
 induction h with
 |nil=>exact fun p hp=>absurd hp (aU)
 |cons h r ih=>
  intro w hw;rcases aR.mp hw with hw|hw
  ·cases h with
   |name i h=>exact⟨i,h,bH.mp hw⟩
   |opn i h=>exact⟨i,h,bH.mp hw⟩
   |_=>exact absurd hw (aU)
  ·exact ih w hw
theorem Prs.len{l:Li (Str×Str)}{ns:Li Str}(h:Prs N m l ts ns):ts.length<=l.length/\ns.length<=l.length:=by
 induction h with
 |nil=>exact⟨aB _,aB _⟩
 |cons h r ih=>
  rw[aH,aH,aY];cases h<;>simp only[aY,dB]<;>omega
theorem Zhd{p:Str×Str}{ns:Li Str}(h:Pr N m p ts ns)(hm:m<=5)(hl:acc.length < 1000)(e1:∀ i,i < 5->F 210 [.str (N i)]=some (.bl true))(e2:∀ c,Sm c->F 210 [.str (nuS c)]=some (.bl false)) :
  px F [1] ZH [x0,some (.lst true acc),some (.str p.1),some (.str p.2)]=some (.nx [x0,some (.lst true (acc++ns.map P.str)),some (.str p.1),some (.str p.2)]):=by
 have yes:∀ {w k:Str} (h1:F 210 [.str w]=some (.bl true)) (hk:pe F (.cmp .In (.var 3) (.tupE (.aC (.cst (.str (S "name"))) (.aC (.cst (.str (S "operand"))) .aN)))) [x0,some (.lst true acc),some (.str w),some (.str k)]=some (.bl true)),px F [1] ZH [x0,some (.lst true acc),some (.str w),some (.str k)]=some (.nx [x0,some (.lst true (acc++[.str w])),some (.str w),some (.str k)]):=by
  intro w k h1 hk;unfold ZH;have z:pe F (.call 210 (.aC (.var 2) .aN) []) [x0,some (.lst true acc),some (.str w),some (.str k)]=some (.bl true):=h1;rw[Zf,Zx,pe_and,hk,ZdN,if_pos rfl,z,Zs,if_pos rfl,Zf,X1 (xs:=acc) rfl,show pe F (.var 2) [x0,some (.lst true acc),some (.str w),some (.str k)]=some (.str w) from rfl,Ob,if_pos (by rw[aK (show acc.length < Zc by unfold Zc;omega)];rfl),Ze,Zo,Ze,Zo]
  rfl
 have no:∀ {w k:Str} (hk:pe F (.and (.cmp .In (.var 3) (.tupE (.aC (.cst (.str (S "name"))) (.aC (.cst (.str (S "operand"))) .aN)))) (.call 210 (.aC (.var 2) .aN) [])) [x0,some (.lst true acc),some (.str w),some (.str k)]=some (.bl false)),px F [1] ZH [x0,some (.lst true acc),some (.str w),some (.str k)]=some (.nx [x0,some (.lst true (acc++[])),some (.str w),some (.str k)]):=by
  intro w k hk;unfold ZH;rw[Zf,Zx,hk,Zs,if_neg Bf,Zo,Ze,Zo,bE]
 cases h with
 |name i h=>exact yes (e1 i (by omega)) rfl
 |opn i h=>exact yes (e1 i (by omega)) rfl
 |opc c h=>exact no (by
   rw[pe_and,show pe F (.call 210 (.aC (.var 2) .aN) []) [x0,some (.lst true acc),some (.str (nuS c)),some (.str (S "operand"))]=some (.bl false) from e2 c h];rfl)
 |ps s h=>exact no rfl
 |is s h=>exact no rfl
 |go=>exact no rfl
 |pl t h=>exact no rfl
theorem ZbE{x0:Ot P}(hm:m<=5)(e1:∀ i,i < 5->F 210 [.str (N i)]=some (.bl true))(e2:∀ c,Sm c->F 210 [.str (nuS c)]=some (.bl false)):∀ {l:Li (Str×Str)}{ts:Li P}{ns:Li Str},Prs N m l ts ns->∀ {acc:Li P}{x2 x3:Ot P},acc.length+ns.length < 900->
  ∃ y2 y3,XA (fun x y π=>px F [1] ZH (ZK (ZK π 2 x) 3 y)) (l.map fun p=>(P.str p.1,P.str p.2)) [x0,some (.lst true acc),x2,x3]=some (.nx [x0,some (.lst true (acc++ns.map P.str)),y2,y3])
 |_,_,_,.nil,acc,x2,x3,_=>⟨x2,x3,by rw[show List.map P.str []=[] from rfl,bE];rfl⟩
 |_,_,_,.cons (p:=p) (l:=l) (ns:=ns) (ms:=ms) h r,acc,x2,x3,hl=>by
  rw[aH]at hl;have e:=Zhd (x0:=x0) (acc:=acc) h hm (by omega) e1 e2
  obtain⟨y2,y3,e3⟩:=ZbE (x0:=x0) hm e1 e2 r (acc:=acc++ns.map P.str) (x2:=some (.str p.1)) (x3:=some (.str p.2)) (by rw[aH,aD];omega)
  refine⟨y2,y3,?_⟩;rw[bP,<-bN,<-e3];show(match px F [1] ZH [x0,some (.lst true acc),some (.str p.1),some (.str p.2)] with
   |some (.nx π')=>XA _ (l.map fun p:Str×Str=>(P.str p.1,P.str p.2)) π'
   |some (.ct π')=>XA _ (l.map fun p:Str×Str=>(P.str p.1,P.str p.2)) π'
   |some (.bk π')=>some (.nx π')
   |some (.rt v)=>some (.rt v)
   |none=>none)=_
  rw[e]
theorem ZfR(hN:Nms N){k:Str}{ns:Li Str}(hm:m<=5)(hk:WW k)(h:Prs N m (ws.zip (kinds k)) ts ns)(hn:ns.length<=5):Zh T (n+3) 234 [.lst b ((k :: ws).map P.str)]=some (.lst true (ns.map P.str)):=by
 rw[ZB (f:=c_names_read) rfl rfl rfl,show ZR c_names_read.body=[1] from rfl];show Yk (px (Zh T (n+2)) [1] c_names_read.body [some (.lst b ((k :: ws).map P.str)),none,none,none])=_;unfold c_names_read;rw[Zf,Y5 (p:=.lst true []) (by rfl) rfl rfl,Ze]
 simp only[Zm,Zl];obtain⟨y2,y3,e⟩:=ZbE (x0:=some (.lst b ((k :: ws).map P.str))) (F:=Zh T (n+2)) hm (fun i h=>Zg8 hN h) (fun c h=>ZjB h) h (acc:=[]) (x2:=none) (x3:=none) (by rw[dB];omega)
 rw[Zf,ZbL (m:=true) (xs:=ws.map P.str) (ys:=(kinds k).map P.str) (by
  rw[Zn,aM,sl1,Zn,show pe (Zh T (n+2)) (.look _ _ _) [some (.lst b (.str k :: ws.map P.str)),some (.lst true []),none,none]=some (.tup ((kinds k).map P.str)) from ZeI hk];rfl) rfl,VI,e,Ze,Z4 (v:=.lst true (ns.map P.str)) (by rfl)]
 rfl
theorem Zhx{p:Str×Str}{ns:Li Str}{d:P}(h:Pr N m p ts ns)(hl:acc.length < 1000)(e1:∀ i,i < m->ixP d (.str (N i))=some (.int (i:Int)))(e2:∀ i,i < m->F 235 [.str (N i),d]=some (Z3 (.name i)))(e3:∀ c,Sm c->F 235 [.str (nuS c),d]=some (Z3 (.num c)))(e4:∀ t:Nat,t < 100->F 213 [.str (nuS (t:Int))]=some (.int (t:Int))) :
  px F [2,2,2,2] YV [x0,some d,some (.lst true acc),some (.str p.1),some (.str p.2)]=some (.nx [x0,some d,some (.lst true (acc++ts)),some (.str p.1),some (.str p.2)]):=by
 have hs:decide (acc.length < Zc)=true:=aK (by unfold Zc;omega)
 have ap:∀ {w k:Str}{a:CE}{v:P},pe F a [x0,some d,some (.lst true acc),some (.str w),some (.str k)]=some v->noM [2,2,2,2] a=true->px F [2,2,2,2] (.seq (.app 2 a) .skip) [x0,some d,some (.lst true acc),some (.str w),some (.str k)]=some (.nx [x0,some d,some (.lst true (acc++[v])),some (.str w),some (.str k)]):=by
  intro w k a v e hn;rw[Zf,X1 (xs:=acc) rfl,e,Ob,if_pos (by unfold ZT;rw[hs,hn];rfl),Ze,Zo]
  rfl
 have c1:∀ {w k:Str}{l:Str},pe F (.cmp .Eq (.var 4) (.cst (.str l))) [x0,some d,some (.lst true acc),some (.str w),some (.str k)]=some (.bl (decide (k=l))):=rfl;have c2:∀ {w k:Str}{l:Str},pe F (.cmp .NotEq (.var 4) (.cst (.str l))) [x0,some d,some (.lst true acc),some (.str w),some (.str k)]=some (.bl (!decide (k=l))):=rfl;unfold YV;cases h with
 |name i h=>
  rw[Zf,Zx,c1,Zs,if_pos (by rfl),ap (v:=.int (i:Int)) (by exact e1 i h) rfl,Ze,Zo]
 |opn i h=>
  rw[Zf,Zx,c1,Zs,if_neg (by simp),Zf,Zx,c1,Zs,if_pos (by rfl),ap (v:=Z3 (.name i)) (by exact e2 i h) rfl,Ze,Zo,Ze,Zo]
 |opc c h=>
  rw[Zf,Zx,c1,Zs,if_neg (by simp),Zf,Zx,c1,Zs,if_pos (by rfl),ap (v:=Z3 (.num c)) (by exact e3 c h) rfl,Ze,Zo,Ze,Zo]
 |ps s h=>
  rw[Zf,Zx,c1,Zs,if_neg (by simp),Zf,Zx,c1,Zs,if_neg (by simp),Zf,Zx,c1,Zs,if_neg (by simp),Zf,Zx,c2,Zs,if_pos (by simp),ap (v:=.str s) rfl rfl,Ze,Zo,Ze,Zo,Ze,Zo,Ze,Zo]
 |is s h=>
  rw[Zf,Zx,c1,Zs,if_neg (by simp),Zf,Zx,c1,Zs,if_neg (by simp),Zf,Zx,c1,Zs,if_neg (by simp),Zf,Zx,c2,Zs,if_pos (by simp),ap (v:=.str s) rfl rfl,Ze,Zo,Ze,Zo,Ze,Zo,Ze,Zo]
 |go=>
  rw[Zf,Zx,c1,Zs,if_neg (by simp),Zf,Zx,c1,Zs,if_neg (by simp),Zf,Zx,c1,Zs,if_neg (by simp),Zf,Zx,c2,Zs,if_neg (by simp),Zo,Ze,Zo,Ze,Zo,Ze,Zo,Ze,Zo,bE]
 |pl t h=>
  rw[Zf,Zx,c1,Zs,if_neg (by simp),Zf,Zx,c1,Zs,if_neg (by simp),Zf,Zx,c1,Zs,if_pos (by rfl),ap (v:=.int (t:Int)) (by exact e4 t h) rfl,Ze,Zo,Ze,Zo,Ze,Zo]
theorem ZbN{x0:Ot P}{d:P}(e1:∀ i,i < m->ixP d (.str (N i))=some (.int (i:Int)))(e2:∀ i,i < m->F 235 [.str (N i),d]=some (Z3 (.name i)))(e3:∀ c,Sm c->F 235 [.str (nuS c),d]=some (Z3 (.num c)))(e4:∀ t:Nat,t < 100->F 213 [.str (nuS (t:Int))]=some (.int (t:Int))):∀ {l:Li (Str×Str)}{ts:Li P}{ns:Li Str},Prs N m l ts ns->∀ {acc:Li P}{x2 x3:Ot P},acc.length+ts.length < 900->
  ∃ y2 y3,XA (fun x y π=>px F [2,2,2,2] YV (ZK (ZK π 3 x) 4 y)) (l.map fun p=>(P.str p.1,P.str p.2)) [x0,some d,some (.lst true acc),x2,x3]=some (.nx [x0,some d,some (.lst true (acc++ts)),y2,y3])
 |_,_,_,.nil,acc,x2,x3,_=>⟨x2,x3,by rw[bE];rfl⟩
 |_,_,_,.cons (p:=p) (l:=l) (ts:=ts) h r,acc,x2,x3,hl=>by
  rw[aH]at hl;have e:=Zhx (x0:=x0) (acc:=acc) h (by omega) e1 e2 e3 e4
  obtain⟨y2,y3,e5⟩:=ZbN (x0:=x0) e1 e2 e3 e4 r (acc:=acc++ts) (x2:=some (.str p.1)) (x3:=some (.str p.2)) (by rw[aH];omega)
  refine⟨y2,y3,?_⟩;rw[<-bN,<-e5];show(match px F [2,2,2,2] YV [x0,some d,some (.lst true acc),some (.str p.1),some (.str p.2)] with
   |some (.nx π')=>XA _ (l.map fun p:Str×Str=>(P.str p.1,P.str p.2)) π'
   |some (.ct π')=>XA _ (l.map fun p:Str×Str=>(P.str p.1,P.str p.2)) π'
   |some (.bk π')=>some (.nx π')
   |some (.rt v)=>some (.rt v)
   |none=>none)=_
  rw[e]
theorem ZfT(hN:Nms N){k:Str}{ns:Li Str}{b':Bool}(hm:m<=5)(hk:WW k)(h:Prs N m (ws.zip (kinds k)) ts ns)(hn:ts.length<=5):Zh T (n+5) 236 [.lst b ((k :: ws).map P.str),.dic b' (nmP N m)]=some (.tup (.str k :: ts)):=by
 rw[ZB (f:=c_row_of) rfl rfl rfl,show ZR c_row_of.body=[2,2,2,2] from rfl];show Yk (px (Zh T (n+4)) [2,2,2,2] c_row_of.body [some (.lst b ((k :: ws).map P.str)),some (.dic b' (nmP N m)),none,none,none])=_;unfold c_row_of;rw[Zf,Y5 (p:=.lst true [.str k]) (by
  rw[QW,Zn,aM,Zg0];rfl) rfl rfl,Ze]
 simp only[Zm,Zl];have a1:∀ i,i < m->ixP (.dic b' (nmP N m)) (.str (N i))=some (.int (i:Int)):=fun i h=>Zlq hN hm h
 obtain⟨y2,y3,e⟩:=ZbN (x0:=some (.lst b ((k :: ws).map P.str))) (F:=Zh T (n+4)) a1 (fun i h=>Zdi (ZmM (Zg8 (n:=n+1) hN (by omega)) (a1 i h))) (fun c h=>Zdi (ZmN (ZjB (n:=n+1) h) (Za0 (n:=n) h))) (fun t h=>ZlD (n:=n+1) h) h (acc:=[.str k]) (x2:=none) (x3:=none) (by rw[cI];omega)
 rw[Zf,ZbL (m:=true) (xs:=ws.map P.str) (ys:=(kinds k).map P.str) (by
  rw[Zn,aM,sl1,Zn,show pe (Zh T (n+4)) (.look _ _ _) [some (.lst b (.str k :: ws.map P.str)),some (.dic b' (nmP N m)),some (.lst true [.str k]),none,none]=some (.tup ((kinds k).map P.str)) from ZeI hk];rfl) rfl,VI,e,Ze,Z4 (v:=.tup (.str k :: ts)) (by rfl)]
 rfl
end
section
variable {n m:Nat}{F:PFn}{π:Zt}{x s:Str}{c:Int}{i t:Nat}{o:Opd}{b:Bool}{N:Nat->Str}{r:Row}{p:Prog}{tk:Li (Int×Int)}
def woN(N:Nat->Str):Row->Li Str
 |.put x y s z=>[S "put",N x,opN N y,s,opN N z]
 |.ifr y s z t=>[S "if",opN N y,s,opN N z,S "go",nuS (t:Int)]
 |.go t=>[S "go",nuS (t:Int)]
 |.tell y=>[S "tell",opN N y]
 |.skip=>[S "skip"]
structure Lr(N:Nat->Str)(m:Nat)(r:Row)(k:Str)(ws:List Str)(ts:List P)(ns:List Str):Prop where
 wo:woN N r=k :: ws
 wd:WW k
 nt:k≠S "take"/\k≠S "name"
 ln:ws.length=(kinds k).length
 pr:Prs N m (ws.zip (kinds k)) ts ns
 en:Zz r=.tup (.str k :: ts)
 l5:ws.length<=5
theorem Ur(h:YB m o):∃ ns,Pr N m (opN N o,S "operand") [Z3 o] ns:=by
 cases o with
 |name i=>exact⟨_,.opn i h⟩
 |num c=>exact⟨_,.opc c h⟩
theorem Zj6{q:Nat}(hq:q < 100)(h:Wn m q r)(hs:WV r):∃ k ws ts ns,Lr N m r k ws ts ns:=by
 have e:kinds (S "put")=[S "name",S "operand",S "put sign",S "operand"]/\kinds (S "if")=[S "operand",S "if sign",S "operand",S "go",S "place"]/\kinds (S "go")=[S "place"]/\kinds (S "tell")=[S "operand"]/\kinds (S "skip")=[]:=⟨rfl,rfl,rfl,rfl,rfl⟩
 have d:(S "put"≠S "take"/\S "put"≠S "name")/\(S "if"≠S "take"/\S "if"≠S "name")/\(S "go"≠S "take"/\S "go"≠S "name")/\(S "tell"≠S "take"/\S "tell"≠S "name")/\(S "skip"≠S "take"/\S "skip"≠S "name"):=by simp
 obtain⟨e1,e2,e3,e4,e5⟩:=e;obtain⟨d1,d2,d3,d4,d5⟩:=d;cases r with
 |put x y s z=>
  obtain⟨h1,h2,h3⟩:=h;obtain⟨n1,q1⟩:=Ur h2;obtain⟨n2,q2⟩:=Ur h3;exact⟨S "put",[N x,opN N y,s,opN N z],_,_,rfl,.inr (.inr (.inl rfl)),d1,by rw[e1];rfl,by rw[e1];exact .cons (.name x h1) (.cons q1 (.cons (.ps s hs) (.cons q2 .nil))),rfl,(show 4<=5 by decide)⟩
 |ifr y s z t=>
  obtain⟨h1,h2,h3⟩:=h;obtain⟨n1,q1⟩:=Ur h1;obtain⟨n2,q2⟩:=Ur h2;exact⟨S "if",[opN N y,s,opN N z,S "go",nuS (t:Int)],_,_,rfl,.inr (.inr (.inr (.inl rfl))),d2,by rw[e2];rfl,by rw[e2];exact .cons q1 (.cons (.is s hs) (.cons q2 (.cons .go (.cons (.pl t (by omega)) .nil)))),rfl,(show 5<=5 by decide)⟩
 |go t=>exact⟨S "go",[nuS (t:Int)],_,_,rfl,.inr (.inr (.inr (.inr (.inl rfl)))),d3,by rw[e3];rfl,by rw[e3];exact .cons (.pl t (by have:t<=q:=h;omega)) .nil,rfl,(show 1<=5 by decide)⟩
 |tell y=>
  obtain⟨n1,q1⟩:=Ur (show YB m y from h);exact⟨S "tell",[opN N y],_,_,rfl,.inr (.inr (.inr (.inr (.inr (.inl rfl))))),d4,by rw[e4];rfl,by rw[e4];exact .cons q1 .nil,rfl,(show 1<=5 by decide)⟩
 |skip=>exact⟨S "skip",[],_,_,rfl,.inr (.inr (.inr (.inr (.inr (.inr rfl))))),d5,rfl,by rw[e5];exact .nil,rfl,(show 0<=5 by decide)⟩
def aim:Row->Ot Nat
 |.ifr _ _ _ t=>some t
 |.go t=>some t
 |_=>none
end
mutual
def toD:P->D
 |.bl b=>.bl b
 |.int i=>.int i
 |.str x=>.str x
 |.tup ps=>.tup (Uw ps)
 |_=>.non
def Uw:Li P->Li D
 |[]=>[]
 |p :: ps=>toD p :: Uw ps
end
mutual
def pln:P->Bool
 |.non=>true
 |.bl _=>true
 |.int _=>true
 |.str _=>true
 |.tup ps=>VA ps
 |_=>false
def VA:Li P->Bool
 |[]=>true
 |p :: ps=>pln p&&VA ps
end
variable{i n:Nat}{ps:Li P}{ds:Li D}{v:D}{ρ':Env}
section
variable {fz:Fz}{st st' st1 st2:Za}
mutual
theorem Xw:∀ {p:P},pln p=true->Rel fz st p (toD p)
 |.non,_=>.non
 |.bl b,_=>.bl b
 |.int i,_=>.int i
 |.str x,_=>.str x
 |.tup ps,h=>.tup (WS (show VA ps=true from h))
 |.lst _ _,h=>nomatch h
 |.dct _ _,h=>nomatch h
 |.obj _,h=>nomatch h
 |.kt _,h=>nomatch h
 |.dic _ _,h=>nomatch h
theorem WS:∀ {ps:Li P},VA ps=true->Rels fz st ps (Uw ps)
 |[],_=>.nil
 |p :: ps,h=>.cons (Xw (bR.mp h).1) (WS (bR.mp h).2)
end
mutual
theorem WB:∀ {p:P}{d:D},pln p=true->Rel fz st p d->d=toD p
 |.non,_,_,.non=>rfl
 |.bl b,_,_,.bl _=>rfl
 |.int i,_,_,.int _=>rfl
 |.str x,_,_,.str _=>rfl
 |.tup ps,_,h,.tup r=>congrArg D.tup (QZ (show VA ps=true from h) r)
 |.lst _ _,_,h,_=>nomatch h
 |.dct _ _,_,h,_=>nomatch h
 |.obj _,_,h,_=>nomatch h
 |.kt _,_,h,_=>nomatch h
 |.dic _ _,_,h,_=>nomatch h
theorem QZ:∀ {ps:Li P}{ds:Li D},VA ps=true->Rels fz st ps ds->ds=Uw ps
 |[],_,_,.nil=>rfl
 |p :: ps,_,h,.cons a r=>by rw[WB (bR.mp h).1 a,QZ (bR.mp h).2 r];rfl
end
theorem Xo:∀ {ps:Li P},Uw ps=ps.map toD
 |[]=>rfl
 |p :: ps=>by
  show toD p :: Uw ps=_;rw[Xo];rfl
theorem Xm:∀ {ps:Li P},(∀ p∈ps,pln p=true)->VA ps=true
 |[],_=>rfl
 |p :: ps,h=>by
  show(pln p&&VA ps)=true;rw[h p Ls,Xm fun q hq=>h q (Lm _ hq)];rfl
theorem ZbJ{r:Row}:pln (Zz r)=true:=by
 cases r with
 |put x y s z=>cases y<;>cases z<;>rfl
 |ifr y s z t=>cases y<;>cases z<;>rfl
 |tell y=>cases y<;>rfl
 |_=>rfl
theorem Vr{p:Prog}{tk:Li (Int×Int)}(h:Sh p tk):pln (Zp p)=true:=by
 unfold Zp;rw[h.takes];show(VA (tk.map XR)&&(true&&(VA (p.rows.map Zz)&&true)))=true;rw[Xm fun q hq=>by obtain⟨a,_,rfl⟩:=aT.mp hq;rfl,Xm fun q hq=>by obtain⟨a,_,rfl⟩:=aT.mp hq;exact ZbJ]
 rfl
theorem J5:Uw (ws.map P.str)=ws.map D.str:=by rw[Xo,bB];rfl
theorem JO:VA (ws.map P.str)=true:=Xm fun q hq=>by obtain⟨a,_,rfl⟩:=aT.mp hq;rfl
structure Grw(st st':Za):Prop where
 old:∀ i,i < st.length->st'[i]?=st[i]?
 len:st.length<=st'.length
theorem Grw.refl:Grw st st:=⟨fun _ _=>rfl,aB _⟩
theorem Grw.trans(a:Grw st st1)(b:Grw st1 st2):Grw st st2:=⟨fun i h=>(b.old i (aP h a.len)).trans (a.old i h),aF a.len b.len⟩
theorem Grw.get{c:YU}(a:Grw st st')(h:st[i]?=some c):st'[i]?=some c:=(a.old i (Zr h)).trans h
theorem Grw.push{c:YU}:Grw st (st++[c]):=⟨fun i h=>aZ h,by rw[aH];omega⟩
def Al(st:Za):Fz:=fun i=>i < st.length
theorem Za6{fz':Fz}{p:P}{d:D}(n:Next (Al st) st fz' st')(r:Rel fz' st' p d):Grw st st'/\Rel (Al st') st' p d:=⟨⟨n.old,n.len⟩,r.mono (fun i h=>n.bd i h) fun _ _=>rfl⟩
theorem We{p:P}(h:Zh T n f ps=some p)(r:Rels (Al st) st ps ds):∃ d st',run T n f ds st=some (d,st')/\Grw st st'/\Rel (Al st') st' p d:=by
 obtain⟨d,st',fz',e,n1,r1⟩:=(Q0 T n).1 f ps p h (Al st) st ds (fun _ h=>h) r
 exact⟨d,st',e,Za6 n1 r1⟩
theorem YS{ρ:Env}{p:P}(h:pe (Zh T n) e π=some p)(E:EnvAll (Al st) st π ρ):∃ d st',ev (run T n) e ρ st=some (d,st')/\Grw st st'/\Rel (Al st') st' p d:=by
 obtain⟨d,st',fz',e,n1,r1⟩:=Zd (Q0 T n) e π p h (Al st) st ρ (fun _ h=>h) E
 exact⟨d,st',e,Za6 n1 r1⟩
theorem WA{p:P}(h:Zh T n f ps=some p)(hp:pln p=true)(r:Rels (Al st) st ps ds):∃ st',run T n f ds st=some (toD p,st')/\Grw st st':=by
 obtain⟨d,st',e,x,r1⟩:=We h r;rw[WB hp r1]at e;exact⟨st',e,x⟩
theorem Wf{w:Nat}{b:Bool}(h:st[w]?=some (b,ws.map D.str)):Rel (Al st) st (.lst b (ws.map P.str)) (.lst w):=.lst (Zr h) h (by rw[<-J5];exact WS JO)
def obC(s:Nat):YU:=(true,[.int 237,.tup [.str (S "takes"),.lst (s+1)],.tup [.str (S "names"),.dic (s+2)],.tup [.str (S "rows"),.lst (s+3)],.tup [.str (S "aims"),.lst (s+4)]])
structure Dr(st:Za)(s:Nat)(tk nm rw am:List D):Prop where
 o:st[s]?=some (obC s)
 t:st[s+1]?=some (true,tk)
 n:st[s+2]?=some (true,nm)
 r:st[s+3]?=some (true,rw)
 a:st[s+4]?=some (true,am)
variable {s:Nat}{tk nm rw am:Li D}
theorem Dr.ext(d:Dr st s tk nm rw am)(x:Grw st st'):Dr st' s tk nm rw am:=⟨x.get d.o,x.get d.t,x.get d.n,x.get d.r,x.get d.a⟩
structure Kp(s:Nat)(st st':Za):Prop where
 old:∀ i,i < st.length->(i < s\/s+5<=i)->st'[i]?=st[i]?
 len:st.length<=st'.length
theorem Grw.kp(x:Grw st st'):Kp s st st':=⟨fun i h _=>x.old i h,x.len⟩
theorem Kp.trans(a:Kp s st st1)(b:Kp s st1 st2):Kp s st st2:=⟨fun i h h'=>(b.old i (aP h a.len) h').trans (a.old i h h'),aF a.len b.len⟩
theorem Kp.set{c:YU}(h:s<=j)(h':j < s+5):Kp s st (st.set j c):=⟨fun i _ hi=>by rw[bY,if_neg (by omega)],by rw[bQ];exact aB _⟩
theorem ZG{c:YU}(h:i < st.length):(st.set i c)[j]?=if i=j then some c else st[j]?:=by
 rw[bY];split
 ·rename_i e
  subst e
  first|rfl|rw[if_pos h]
 ·rfl
theorem Dr.setT{l:Li D}(d:Dr st s tk nm rw am):Dr (st.set (s+1) (true,l)) s l nm rw am:=by
 have h:=Zr d.t;exact⟨by rw[ZG h,if_neg (by omega)];exact d.o,by rw[ZG h,if_pos rfl],by rw[ZG h,if_neg (by omega)];exact d.n,by rw[ZG h,if_neg (by omega)];exact d.r,by rw[ZG h,if_neg (by omega)];exact d.a⟩
theorem Dr.setN{l:Li D}(d:Dr st s tk nm rw am):Dr (st.set (s+2) (true,l)) s tk l rw am:=by
 have h:=Zr d.n;exact⟨by rw[ZG h,if_neg (by omega)];exact d.o,by rw[ZG h,if_neg (by omega)];exact d.t,by rw[ZG h,if_pos rfl],by rw[ZG h,if_neg (by omega)];exact d.r,by rw[ZG h,if_neg (by omega)];exact d.a⟩
theorem Dr.setR{l:Li D}(d:Dr st s tk nm rw am):Dr (st.set (s+3) (true,l)) s tk nm l am:=by
 have h:=Zr d.r;exact⟨by rw[ZG h,if_neg (by omega)];exact d.o,by rw[ZG h,if_neg (by omega)];exact d.t,by rw[ZG h,if_neg (by omega)];exact d.n,by rw[ZG h,if_pos rfl],by rw[ZG h,if_neg (by omega)];exact d.a⟩
theorem Dr.setA{l:Li D}(d:Dr st s tk nm rw am):Dr (st.set (s+4) (true,l)) s tk nm rw l:=by
 have h:=Zr d.a;exact⟨by rw[ZG h,if_neg (by omega)];exact d.o,by rw[ZG h,if_neg (by omega)];exact d.t,by rw[ZG h,if_neg (by omega)];exact d.n,by rw[ZG h,if_neg (by omega)];exact d.r,by rw[ZG h,if_pos rfl]⟩
variable {F:Nat->Fn}{ρ:Env}
theorem Zbj{f:Str}(d:Dr st s tk nm rw am)(h:Yl [.tup [.str (S "takes"),.lst (s+1)],.tup [.str (S "names"),.dic (s+2)],.tup [.str (S "rows"),.lst (s+3)],.tup [.str (S "aims"),.lst (s+4)]] f=some v):ev F (.dict [f] (.var 0)) (some (.dic s) :: ρ) st=some (v,st):=by
 show Zd5 [f] (.dic s) st=_;unfold Zd5;simp only[d.o,obC,h]
theorem Qw(d:Dr st s tk nm rw am):ev F (.dict [(S "takes")] (.var 0)) (some (.dic s) :: ρ) st=some (.lst (s+1),st):=Zbj d rfl
theorem WH(d:Dr st s tk nm rw am):ev F (.dict [(S "names")] (.var 0)) (some (.dic s) :: ρ) st=some (.dic (s+2),st):=Zbj d rfl
theorem Zas(d:Dr st s tk nm rw am):ev F (.dict [(S "rows")] (.var 0)) (some (.dic s) :: ρ) st=some (.lst (s+3),st):=Zbj d rfl
theorem Zd1(d:Dr st s tk nm rw am):ev F (.dict [(S "aims")] (.var 0)) (some (.dic s) :: ρ) st=some (.lst (s+4),st):=Zbj d rfl
theorem Ziu{c:YU}(h:ev F e ρ st=some (.lst j,st))(h2:st[j]?=some c):ev F (.len e) ρ st=some (.int c.2.length,st):=by
 show ZJ (ev F e) Wl ρ st=_;unfold ZJ;rw[h];show Wl (.lst j) st=_;unfold Wl ZcF;simp only[h2]
theorem Zbv(d:Dr st s tk nm rw am):ev F (.len (.dict [(S "takes")] (.var 0))) (some (.dic s) :: ρ) st=some (.int tk.length,st):=Ziu (Qw d) d.t
theorem QH(d:Dr st s tk nm rw am):ev F (.len (.dict [(S "rows")] (.var 0))) (some (.dic s) :: ρ) st=some (.int rw.length,st):=Ziu (Zas d) d.r
theorem VB(d:Dr st s tk nm rw am)(h:Wx nm=false):ev F (.len (.dict [(S "names")] (.var 0))) (some (.dic s) :: ρ) st=some (.int nm.length,st):=by
 show ZJ (ev F (.dict [(S "names")] (.var 0))) Wl _ st=_;unfold ZJ;rw[WH d];show Wl (.dic (s+2)) st=_;unfold Wl ZcF;simp only[d.n,h];rfl
variable {q a b:CS}{e:CE}{v:D}
theorem Qk(h:ev F e ρ st=some (.bl true,st')):ex F (.ite e a b) ρ st=ex F a ρ st':=by
 show UG (ev F e) (ex F a) (ex F b) ρ st=_;unfold UG;rw[h]
theorem Vk(h:ev F e ρ st=some (.bl false,st')):ex F (.ite e a b) ρ st=ex F b ρ st':=by
 show UG (ev F e) (ex F a) (ex F b) ρ st=_;unfold UG;rw[h]
theorem UA(h:ev F e ρ st=some (v,st')):ex F (.ret e) ρ st=some (.rt v,st'):=by
 show ZaO (ev F e) ρ st=_;unfold ZaO;rw[h]
theorem XD(h:ev F e ρ st=some (v,st')):ex F (.set i e) ρ st=some (.nx (Zy ρ i v),st'):=by
 show JW i (ev F e) ρ st=_;unfold JW;rw[h]
theorem ZfK(h:ev F e ρ st=some (v,st')):ex F (.act e) ρ st=some (.nx ρ,st'):=by
 show Zdk (ev F e) ρ st=_;unfold Zdk;rw[h]
theorem ZF:ex F .skip ρ st=some (.nx ρ,st):=rfl
theorem Zw(h:ex F a ρ st=some (.nx ρ',st')):ex F (.seq a q) ρ st=ex F q ρ' st':=by
 show UL (ex F a) (ex F q) ρ st=_;unfold UL;rw[h]
theorem Xy{d:D}(h:ex F a ρ st=some (.rt d,st')):ex F (.seq a q) ρ st=some (.rt d,st'):=by
 show UL (ex F a) (ex F q) ρ st=_;unfold UL;rw[h]
theorem Jp{x y:CE}(h:ev F x ρ st=some (.bl true,st')):ev F (.and x y) ρ st=ev F y ρ st':=by
 show YG (ev F x) (ev F y) (evC (.bl false)) ρ st=_;unfold YG;rw[h]
theorem Zjc{x y:CE}(h:ev F x ρ st=some (.bl false,st')):ev F (.and x y) ρ st=some (.bl false,st'):=by
 show YG (ev F x) (ev F y) (evC (.bl false)) ρ st=_;unfold YG;rw[h];rfl
theorem Zk3{x y:CE}(h:ev F x ρ st=some (.bl false,st')):ev F (.or x y) ρ st=ev F y ρ st':=by
 show YG (ev F x) (evC (.bl true)) (ev F y) ρ st=_;unfold YG;rw[h]
theorem Zbh{x:CE}{k:Bool}(h:ev F x ρ st=some (.bl k,st')):ev F (.not x) ρ st=some (.bl (!k),st'):=by
 show ZJ (ev F x) ZaD ρ st=_;unfold ZJ;rw[h];rfl
theorem Yd{x y:CE}{op:CmpOp}{u w:D}{k:Bool}(h:ev F x ρ st=some (u,st1))(h2:ev F y ρ st1=some (w,st2))(h3:Wj op u w st2=some k):ev F (.cmp op x y) ρ st=some (.bl k,st2):=by
 show ZV (ev F x) (ev F y) (XL op) ρ st=_;unfold ZV;rw[h];simp only[h2];unfold XL;rw[h3]
theorem ZlI{d:FD}(h:T f=some d)(hl:ds.length=d.ps):run T (n+1) f ds st=match ex (run T n) d.body (ds.map some++List.replicate (d.ns - ds.length) none) st with
  |some (.rt v,st')=>some (v,st')
  |some (.nx _,st')=>some (.non,st')
  |_=>none:=by
 rw[JU h];unfold fnD;exact if_pos hl
theorem ZaM{d:FD}(h:T f=some d)(hl:ds.length=d.ps)(hx:ex (run T n) d.body (ds.map some++List.replicate (d.ns - ds.length) none) st=some (.rt v,st')):run T (n+1) f ds st=some (v,st'):=by
 rw[ZlI h hl,hx]
theorem ZaL{d:FD}(h:T f=some d)(hl:ds.length=d.ps)(hx:ex (run T n) d.body (ds.map some++List.replicate (d.ns - ds.length) none) st=some (.nx ρ',st')):run T (n+1) f ds st=some (.non,st'):=by
 rw[ZlI h hl,hx]
end
variable{st1:Za}{q:CS}
section
variable {n m s w:Nat}{st st':Za}{tk nm rw am:Li D}{F:Nat->Fn}{ρ:Env}{b:Bool}{ws:Li Str}{N:Nat->Str}
def nmN(N:Nat->Str)(i:Nat):Li Str:=[S "name",N i]
def nmD(N:Nat->Str)(m:Nat):Li D:=(List.range m).map fun i=>.tup [.str (N i),.int (i:Int)]
theorem ZeO:nmD N (m+1)=nmD N m++[.tup [.str (N m),.int (m:Int)]]:=by
 unfold nmD;rw[List.range_succ,bP];rfl
theorem WO:(nmD N m).length=m:=by unfold nmD;rw[aD,bL]
theorem Um:Wx (nmD N m)=false:=by
 unfold nmD;cases m with
 |zero=>rfl
 |succ k=>rw[dQ];rfl
theorem ZeP(hN:Nms N)(h:m<=4):Yl (nmD N m) (N m)=none/\(nmD N m).any (isK (N m))=false:=by
 have a:(nmD N m).any (isK (N m))=false:=by
  rw[List.any_eq_false];intro d hd z;obtain⟨i,hi,rfl⟩:=aT.mp hd;have hi:=bM.mp hi;have:N i=N m:=of_decide_eq_true (show decide (N i=N m)=true from z);have:=hN.inj i m (by omega) (by omega) this
  omega
 refine⟨?_,a⟩;unfold Yl;rw[List.find?_eq_none.mpr fun d hd z=>absurd (List.any_eq_true.mpr ⟨d,hd,z⟩) (by rw[a];exact Bf)]
 rfl
theorem ZjD(hN:Nms N)(hm:m<=5)(h:i < m):Yl (nmD N m) (N i)=some (.int (i:Int)):=by
 have e:(nmD N m).find? (isK (N i))=some (.tup [.str (N i),.int (i:Int)]):=Qy (g:=fun i=>D.tup [.str (N i),.int (i:Int)]) (bM.mpr h) (show decide (N i=N i)=true from aK rfl) fun j hj hd=>by
  have:N j=N i:=of_decide_eq_true (show decide (N j=N i)=true from hd);exact hN.inj j i (by have:=bM.mp hj;omega) (by omega) this
 unfold Yl;rw[e];rfl
theorem WQ{es:Li D}{rest:Za}{x:Str}{d:D}(hs:s=st.length)(he:ev F e [some (.dic s)] (st++(true,.int 237 :: es) :: rest)=some (d,(st++(true,.int 237 :: es) :: rest)++[(true,[])]))(hl:es.length < 900)(hn:es.any (isK x)=false) :
  ex F (.put 0 (.cst (.str x)) e) [some (.dic s)] (st++(true,.int 237 :: es) :: rest)=some (.nx [some (.dic s)],st++(true,.int 237 :: (es++[.tup [.str x,d]])) :: (rest++[(true,[])])):=by
 subst hs;show Zfh 0 (.cst (.str x)) (ev F e) [some (.dic st.length)] (st++(true,.int 237 :: es) :: rest)=_;unfold Zfh;simp only[he];show(match ((st++(true,D.int 237 :: es) :: rest)++[((true,[]):YU)])[st.length]? with
  |some (true,D.int c :: es')=>if es'.length < 900/\es'.any (isK x)=false then some (Fl.nx [some (D.dic st.length)],List.set ((st++(true,D.int 237 :: es) :: rest)++[((true,[]):YU)]) st.length (true,D.int c :: (es'++[D.tup [D.str x,d]]))) else none
  |_=>none)=_
 have e1:((st++(true,.int 237 :: es) :: rest)++[((true,[]):YU)])[st.length]?=some (true,.int 237 :: es):=by
  rw[bN,bF (aB _),Nat.sub_self];rfl
 rw[e1];simp only[hl,hn,and_self,if_true]
 congr 2
 rw[bN,List.set_append_right _ _ (aB _),Nat.sub_self];rfl
theorem QL:ev F (.lstE .aN) ρ st=some (.lst st.length,st++[(true,[])]):=rfl
theorem Zgt:ev F .dnew ρ st=some (.dic st.length,st++[(true,[])]):=rfl
theorem ZiK:run T (n+1) 238 [.dic st.length] (st++[(true,[.int 237])])=some (.non,st++[obC st.length,(true,[]),(true,[]),(true,[]),(true,[])]):=by
 have l:∀ c:YU,∀ r:Za,(st++c :: r).length=st.length+1+r.length:=fun c r=>by rw[aH,aY];omega
 refine ZaL (d:=c_Draft___init__) rfl rfl (ρ':=[some (.dic st.length)]) ?_;show ex (run T n) (.seq _ (.seq _ (.seq _ (.seq _ .skip)))) [some (.dic st.length)] (st++(true,.int 237 :: []) :: [])=_;rw[Zw (WQ (x:=S "takes") (d:=.lst (st.length+1)) rfl (by rw[QL,l];rfl) (by simp) rfl),Zw (WQ (x:=S "names") (d:=.dic (st.length+2)) rfl (by rw[Zgt,l];rfl) (by simp) rfl),Zw (WQ (x:=S "rows") (d:=.lst (st.length+3)) rfl (by rw[QL,l];rfl) (by simp) rfl),Zw (WQ (x:=S "aims") (d:=.lst (st.length+4)) rfl (by rw[QL,l];rfl) (by simp) rfl)]
 rfl
theorem ZjC:Dr (st++[obC st.length,(true,[]),(true,[]),(true,[]),(true,[])]) st.length [] [] [] []:=by
 have g:∀ (j:Nat) (c:YU),[obC st.length,(true,[]),(true,[]),(true,[]),(true,[])][j]?=some c->(st++[obC st.length,(true,[]),(true,[]),(true,[]),(true,[])])[st.length+j]?=some c:=fun j c h=>by
  rw[bF (by omega),Nat.add_sub_cancel_left];exact h
 exact⟨g 0 _ rfl,g 1 _ rfl,g 2 _ rfl,g 3 _ rfl,g 4 _ rfl⟩
theorem ZkJ:ev (run T (n+1)) (.isc [237,238] .aN) ρ st=some (.dic st.length,st++[obC st.length,(true,[]),(true,[]),(true,[]),(true,[])]):=by
 show(match run T (n+1) 238 [.dic st.length] (st++[(true,[.int 237])]) with
  |some (.non,st')=>some (D.dic st.length,st')
  |_=>none)=_
 rw[ZiK]
theorem Zdy{i j:Int}:Wj .Eq (.int i) (.int j) st=some (decide (i=j)):=rfl
theorem Zdz{i j:Int}:Wj .Lt (.int i) (.int j) st=some (decide (i < j)):=rfl
theorem Zba{x y:Str}:Wj .Eq (.str x) (.str y) st=some (decide (x=y)):=rfl
theorem Xz{d:D}:ev F (.cst d) ρ st=some (d,st):=rfl
theorem ZiP(d:Dr st s tk nm [] am)(ho:Wx nm=false)(h1:nm.length=tk.length)(h2:tk.length < 3):run T (n+1) 239 [.dic s,.str (S "take")] st=some (.bl true,st):=by
 refine ZaM (d:=c_Draft_has_room) rfl rfl ?_;refine Xy ((Qk (st':=st) (by rfl)).trans ((Zw (XD (v:=.bl true) (st':=st) ?_)).trans (Xy (UA ?_))))
 ·exact(Jp (st':=st) ((Yd (VB d ho) (Zbv d) Zdy).trans (by rw[aK (by omega)]))).trans (Yd (QH d) Xz Zdy)
 ·exact(Jp (st':=st) (by rfl)).trans ((Yd (Zbv d) Xz Zdz).trans (by rw[aK (by omega)]))
theorem ZiL(d:Dr st s tk nm [] am)(ho:Wx nm=false)(h1:nm.length < 5):run T (n+1) 239 [.dic s,.str (S "name")] st=some (.bl true,st):=by
 refine ZaM (d:=c_Draft_has_room) rfl rfl ?_;refine(Zw ((Vk (st':=st) (by rfl)).trans ZF)).trans (Xy ((Qk (st':=st) (by rfl)).trans (Xy (UA ?_))))
 exact(Jp (st':=st) (Yd (QH d) Xz Zdy)).trans ((Yd (VB d ho) Xz Zdz).trans (by rw[aK (by omega)]))
theorem ZiN{k:Str}(d:Dr st s tk nm rw am)(h1:k≠S "take")(h2:k≠S "name")(h:rw.length < 12):run T (n+1) 239 [.dic s,.str k] st=some (.bl true,st):=by
 refine ZaM (d:=c_Draft_has_room) rfl rfl ?_;refine(Zw ((Vk (st':=st) ?_).trans ZF)).trans ((Zw ((Vk (st':=st) ?_).trans ZF)).trans (Xy (UA ?_)))
 ·exact(Yd (st1:=st) (st2:=st) (u:=.str k) (w:=.str (S "take")) (by rfl) Xz Zba).trans (by rw[aO h1])
 ·exact(Yd (st1:=st) (st2:=st) (u:=.str k) (w:=.str (S "name")) (by rfl) Xz Zba).trans (by rw[aO h2])
 ·exact(Yd (QH d) Xz Zdz).trans (by rw[aK (by omega)])
theorem Zk2{x:Ot D}{d:D}(h:st[w]?=some (b,ds))(hj:ds[j]?=some d):ev F (.ix (.var 1) (.cst (.int (j:Int)))) (x :: some (.lst w) :: ρ) st=some (d,st):=by
 show ixR (.lst w) (.int (j:Int)) st=_;have e:ixD (.lst w) (.int (j:Int)) st=some d:=by
  show(match st[w]? with
   |some (_,xs)=>atD xs (j:Int)
   |none=>none)=_
  rw[h];show atD ds (j:Int)=_;have:=Zr hj;unfold atD ixN;rw[if_pos (by omega),if_pos (by omega),Ob,bT,hj]
 unfold ixR;rw[e]
theorem ZdV{x:Ot D}{d:D}(h:st[w]?=some (b,d :: ds)):ev F (.ix (.var 1) (.cst (.int 0))) (x :: some (.lst w) :: ρ) st=some (d,st):=Zk2 (j:=0) h rfl
theorem EA.nil{fz:Fz}:EnvAll fz st [] ρ:=fun i p e=>by simp at e
theorem EA.no{fz:Fz}{x:Ot D}(r:EnvAll fz st π ρ):EnvAll fz st (none :: π) (x :: ρ):=fun i p e=>by
 cases i with
 |zero=>cases e
 |succ i=>exact r i p e
theorem EA.yes{fz:Fz}{q:P}{x:D}(h:Rel fz st q x)(r:EnvAll fz st π ρ):EnvAll fz st (some q :: π) (some x :: ρ):=fun i p e=>by
 cases i with
 |zero=>cases e;exact⟨_,rfl,h⟩
 |succ i=>exact r i p e
theorem Zig{k:Str}(d:Dr st s tk nm rw am)(h:Wx nm=false):Wj .In (.str k) (.dic (s+2)) st=some (Yl nm k).isSome:=by
 show(dAt k (s+2) st).map Option.isSome=_;unfold dAt;rw[d.n];simp only[h];rfl
theorem ZkT{k:Str}(d:Dr st s tk nm rw am)(h:Wx nm=false):Wj .NotIn (.str k) (.dic (s+2)) st=some (!(Yl nm k).isSome):=by
 show(Wj .In (.str k) (.dic (s+2)) st).map not=_;rw[Zig d h];rfl
theorem Zco{x:Str}{k:CE}(d:Dr st s tk nm rw am)(he:ev F e (some (.dic s) :: ρ) st=some (v,st))(hk:ev F k (some (.dic s) :: ρ) st=some (.str x,st))(ho:Wx nm=false)(hl:nm.length < 900)(hn:nm.any (isK x)=false) :
  ex F (.dput 0 (.dict [(S "names")] (.var 0)) k e) (some (.dic s) :: ρ) st=some (.nx (some (.dic s) :: ρ),st.set (s+2) (true,nm++[.tup [.str x,v]])):=by
 show Jn (ev F (.dict [(S "names")] (.var 0))) (ev F k) (ev F e) _ st=_;unfold Jn;simp only[he,WH d,hk,d.n,ho,hn,and_true,true_and];rw[if_pos (by unfold Zc;omega)]
theorem VP{o:CE}(ho:ev F o ρ st=some (.lst j,st))(he:ev F e ρ st=some (v,st1))(h:st1[j]?=some (true,ds))(hl:ds.length < 900):ex F (.app2 o e) ρ st=some (.nx ρ,st1.set j (true,ds++[v])):=by
 show Q6 (ev F o) (ev F e) ρ st=_;unfold Q6;simp only[ho,he];unfold Zb0;rw[h];simp only;rw[if_pos (by unfold Zc;omega)]
theorem U8(hN:Nms N){line:Int}{k:Str}(d:Dr st s tk (nmD N m) rw am)(hw:st[w]?=some (b,.str k :: .str (N m) :: ws.map D.str))(hm:m<=4) :
  ex F (.seq (.ite (.cmp .In (.ix (.var 1) (.cst (.int 1))) (.dict [(S "names")] (.var 0))) (.seq .stop .skip) .skip) (.seq (.dput 0 (.dict [(S "names")] (.var 0)) (.ix (.var 1) (.cst (.int 1))) (.len (.dict [(S "names")] (.var 0)))) q)) [some (.dic s),some (.lst w),some (.int line)] st=ex F q [some (.dic s),some (.lst w),some (.int line)] (st.set (s+2) (true,nmD N (m+1))):=by
 have i1:ev F (.ix (.var 1) (.cst (.int 1))) [some (.dic s),some (.lst w),some (.int line)] st=some (.str (N m),st):=Zk2 (j:=1) hw rfl;rw[Zw (Vk (st':=st) ((Yd i1 (WH d) (Zig d (Um))).trans (by rw[(ZeP hN hm).1];rfl)) |>.trans ZF),Zw (Zco d (VB d (Um)) i1 (Um) (by rw[WO];omega) (ZeP hN hm).2),WO,<-ZeO]
theorem ZfV(hN:Nms N){line:Int}(d:Dr st s tk (nmD N m) rw am)(hw:st[w]?=some (b,(nmN N m).map D.str))(hm:m<=4)(hne:w < s\/s+5<=w):∃ st',run T (n+1) 241 [.dic s,.lst w,.int line] st=some (.non,st')/\Dr st' s tk (nmD N (m+1)) rw am/\Kp s st st':=by
 refine⟨_,ZaL (d:=c_Draft_read_name) rfl rfl (ρ':=[some (.dic s),some (.lst w),some (.int line)]) ?_,d.setN (l:=nmD N (m+1)),Kp.set (by omega) (by omega)⟩
 show ex (run T n) (.seq _ (.seq _ (.seq _ .skip))) [some (.dic s),some (.lst w),some (.int line)] st=_;have k:(st.set (s+2) (true,nmD N (m+1)))[w]?=some (b,(nmN N m).map D.str):=by
  rw[ZG (Zr d.n),if_neg (by omega)];exact hw
 rw[U8 hN (ws:=[]) d hw hm,Zw ((Vk (Yd (ZdV k) Xz Zba)).trans ZF),ZF]
theorem ZfW(hN:Nms N){line x y:Int}(d:Dr st s tk (nmD N m) rw am)(hw:st[w]?=some (b,([S "take",N m,nuS x,nuS y]).map D.str))(hm:m<=4)(hne:w < s\/s+5<=w)(hx:Sm x)(hy:Sm y)(ht:tk.length < 900):∃ st',run T (n+4) 241 [.dic s,.lst w,.int line] st=some (.non,st')/\Dr st' s (tk++[.tup [.int x,.int y]]) (nmD N (m+1)) rw am/\Kp s st st':=by
 have d1:=d.setN (l:=nmD N (m+1));have k:(st.set (s+2) (true,nmD N (m+1)))[w]?=some (b,([S "take",N m,nuS x,nuS y]).map D.str):=by
  rw[ZG (Zr d.n),if_neg (by omega)];exact hw
 obtain⟨v,st2,e2,x2,r2⟩:=YS (n:=n+3) (e:=.tupE (.aC (.call 212 (.aC (.ix (.var 1) (.cst (.int 2))) .aN) []) (.aC (.call 212 (.aC (.ix (.var 1) (.cst (.int 3))) .aN) []) .aN))) (π:=[none,some (.lst b (([S "take",N m,nuS x,nuS y]).map P.str)),none]) (ρ:=[some (.dic s),some (.lst w),some (.int line)]) (p:=.tup [.int x,.int y]) (st:=st.set (s+2) (true,nmD N (m+1))) (by
  have z1:pe (Zh T (n+3)) (.call 212 (.aC (.ix (.var 1) (.cst (.int 2))) .aN) []) [none,some (.lst b (([S "take",N m,nuS x,nuS y]).map P.str)),none]=some (.int x):=Za0 (n:=n) hx;have z2:pe (Zh T (n+3)) (.call 212 (.aC (.ix (.var 1) (.cst (.int 3))) .aN) []) [none,some (.lst b (([S "take",N m,nuS x,nuS y]).map P.str)),none]=some (.int y):=Za0 (n:=n) hy;rw[Wc,Zn,Zn,z1,z2]
  rfl) (EA.no (EA.yes (Wf k) (EA.no EA.nil)))
 cases WB (p:=.tup [.int x,.int y]) rfl r2
 have d2:=d1.ext x2;refine⟨_,ZaL (d:=c_Draft_read_name) rfl rfl (ρ':=[some (.dic s),some (.lst w),some (.int line)]) ?_,d2.setT (l:=tk++[.tup [.int x,.int y]]),((Kp.set (by omega) (by omega)).trans x2.kp).trans (Kp.set (by omega) (by omega))⟩
 show ex (run T (n+3)) (.seq _ (.seq _ (.seq _ .skip))) [some (.dic s),some (.lst w),some (.int line)] st=_;rw[U8 hN (ws:=[nuS x,nuS y]) d hw hm,Zw ((Qk (Yd (ZdV k) Xz Zba)).trans ((Zw (VP (Qw d1) e2 d2.t ht)).trans ZF)),ZF];rfl
end
variable{xs:Li D}
section
variable {n m s w:Nat}{st st':Za}{tk nm rw am:Li D}{F:Nat->Fn}{ρ:Env}{b:Bool}{k:Str}{N:Nat->Str}{ws ns:Li Str}{r:Row}{ts:Li P}
theorem Va{body:D->Env->Za->Ot (Fl×Za)}{I:Env->Prop}{a:Nat}{xs:Li D}(h:st[a]?=some (b,xs))(hb:∀ d∈xs,∀ ρ,I ρ->∃ ρ',body d ρ st=some (.nx ρ',st)/\I ρ'):∀ (k i:Nat) (ρ:Env),i+k=xs.length->I ρ->∃ ρ',Yu body a k i ρ st=some (.nx ρ',st)/\I ρ'
 |0,i,ρ,hi,hI=>by
  refine⟨ρ,?_,hI⟩;show(match st[a]? with
   |some (_,xs)=>if xs.length<=i then some (Fl.nx ρ,st) else none
   |none=>none)=_
  rw[h];exact if_pos (by omega)
 |k+1,i,ρ,hi,hI=>by
  have hx:xs[i]?=some (xs[i]'(by omega)):=Lg (by omega)
  obtain⟨ρ1,e1,I1⟩:=hb _ (dE (h:=(by omega:i < xs.length))) ρ hI
  obtain⟨ρ2,e2,I2⟩:=Va h hb k (i+1) ρ1 (by omega) I1
  refine⟨ρ2,?_,I2⟩;show(match st[a]? with
   |some (_,xs)=>match xs[i]? with
    |none=>some (Fl.nx ρ,st)
    |some d=>match body d ρ st with
     |some (.nx ρ',st')=>Yu body a k (i+1) ρ' st'
     |some (.ct ρ',st')=>Yu body a k (i+1) ρ' st'
     |some (.bk ρ',st')=>some (.nx ρ',st')
     |some (.rt v,st')=>some (.rt v,st')
     |none=>none
   |none=>none)=_
  rw[h];simp only[hx,e1];exact e2
theorem Zhp:VA (nmP N m)=true:=Xm fun q hq=>by obtain⟨a,_,rfl⟩:=aT.mp hq;rfl
theorem Zkx:Uw (nmP N m)=nmD N m:=by
 rw[Xo];unfold nmP nmD;rw[bB];rfl
theorem Zj3(d:Dr st s tk (nmD N m) rw am):Rel (Al st) st (.dic true (nmP N m)) (.dic (s+2)):=.dic (Zr d.n) d.n (by rw[<-Zkx];exact WS Zhp)
theorem Y7{a:CE}(h:ev F a ρ st=some (.tup xs,st')):ev F (.call f a []) ρ st=F f xs st':=by
 show ZJ (ev F a) (Jg (F f) []) ρ st=_;unfold ZJ;rw[h];show F f (xs++[]) st'=_;rw[bE]
theorem YQ{a r:CE}{x:D}{st2:Za}(h:ev F a ρ st=some (x,st1))(h2:ev F r ρ st1=some (.tup xs,st2))(hl:xs.length < 1000):ev F (.aC a r) ρ st=some (.tup (x :: xs),st2):=by
 show ZV (ev F a) (ev F r) WG ρ st=_;unfold ZV;rw[h];simp only[h2];exact if_pos hl
theorem V4:ev F .aN ρ st=some (.tup [],st):=rfl
theorem JI(hN:Nms N){line:Int}{x4:Ot D}(d:Dr st s tk (nmD N m) rw am)(hm:m<=5)(hw:st[w]?=some (b,(k :: ws).map D.str))(l:Lr N m r k ws ts ns):∃ st' y3,ex (run T (n+3)) (.seq (.for1 3 false (.call 234 (.aC (.var 1) .aN) []) ZL) q) [some (.dic s),some (.lst w),some (.int line),none,x4] st=ex (run T (n+3)) q [some (.dic s),some (.lst w),some (.int line),y3,x4] st'/\Grw st st':=by
 have l5:=l.l5;have hn:ns.length<=5:=by
  have:=l.pr.len.2;rw[cJ]at this;omega
 obtain⟨v,st1,e1,x1,r1⟩:=We (n:=n+3) (ZfR hN (n:=n) (b:=b) hm l.wd l.pr hn) (.cons (Wf hw) .nil);cases r1 with
 |lst hz hj rs=>
  rename_i j ds;have ed:=QZ JO rs;rw[J5]at ed;subst ed;have d1:=d.ext x1;obtain⟨ρ',e2,y3,rfl⟩:=Va (body:=fun d ρ s=>ex (run T (n+3)) ZL (Zy ρ 3 d) s) (I:=fun ρ=>∃ y3,ρ=[some (.dic s),some (.lst w),some (.int line),y3,x4]) hj (fun v hv ρ hρ=>by
   obtain⟨y3,rfl⟩:=hρ;obtain⟨x,hx,rfl⟩:=aT.mp hv;obtain⟨i,hi,rfl⟩:=l.pr.names x hx;refine⟨_,(Zw ((Vk (st':=st1) ((Yd (st1:=st1) (u:=.str (N i)) (by rfl) (WH d1) (ZkT d1 Um)).trans (by rw[ZjD hN hm hi];rfl))).trans ZF)).trans ZF,_,rfl⟩) (ns.map D.str).length 0 [some (.dic s),some (.lst w),some (.int line),none,x4] (by omega) ⟨none,rfl⟩
  refine⟨st1,y3,Zw ?_,x1⟩;show Qz 3 false (ev (run T (n+3)) (.call 234 (.aC (.var 1) .aN) [])) (ex (run T (n+3)) ZL) [some (.dic s),some (.lst w),some (.int line),none,x4] st=_;unfold Qz;rw[Y7 (xs:=[.lst w]) (st':=st) (by rfl),e1]
  show(match st1[j]? with
   |some (_,xs)=>Yu (fun d ρ s=>ex (run T (n+3)) ZL (Zy ρ 3 d) s) j xs.length 0 [some (.dic s),some (.lst w),some (.int line),none,x4] st1
   |none=>none)=_
  rw[hj];exact e2
def ZbZ(line:Int)(r:Row):Li D:=match aim r with
 |some t=>[.tup [.int line,.int (t:Int)]]
 |none=>[]
theorem ZiO(hN:Nms N){line:Int}(d:Dr st s tk (nmD N m) rw am)(hm:m<=5)(hw:st[w]?=some (b,(k :: ws).map D.str))(l:Lr N m r k ws ts ns)(hr:rw.length < 800)(ha:am.length < 800):∃ st',run T (n+6) 242 [.dic s,.lst w,.int line] st=some (.non,st')/\Dr st' s tk (nmD N m) (rw++[toD (Zz r)]) (am++ZbZ line r)/\Kp s st st':=by
 have l5:=l.l5;have ht:ts.length<=5:=by
  have:=l.pr.len.1;rw[cJ]at this;omega
 obtain⟨st1,y3,e1,x1⟩:=JI hN (n:=n+2) (line:=line) (x4:=none) (q:=(.seq (.set 4 (.call 236 (.aC (.var 1) (.aC (.dict [(S "names")] (.var 0)) .aN)) [])) (.seq (.app2 (.dict [(S "rows")] (.var 0)) (.var 4)) (.seq (.ite (.cmp .In (.ix (.var 4) (.cst (.int 0))) (.tupE (.aC (.cst (.str (S "if"))) (.aC (.cst (.str (S "go"))) .aN)))) (.seq (.app2 (.dict [(S "aims")] (.var 0)) (.tupE (.aC (.var 2) (.aC (.ix (.var 4) (.neg (.cst (.int 1)))) .aN)))) .skip) .skip) .skip)))) d hm hw l
 have d1:=d.ext x1;have m236:=ZfT hN (n:=n) (b:=b) (b':=true) hm l.wd l.pr ht;rw[<-l.en]at m236;obtain⟨st2,e2,x2⟩:=WA (n:=n+5) m236 ZbJ (.cons (Wf (x1.get hw)) (.cons (Zj3 d1) .nil));have d2:=d1.ext x2;have d3:=d2.setR (l:=rw++[toD (Zz r)]);have k3:Kp s st (st2.set (s+3) (true,rw++[toD (Zz r)])):=((x1.kp).trans x2.kp).trans (Kp.set (by omega) (by omega))
 have E:EnvAll (Al (st2.set (s+3) (true,rw++[toD (Zz r)]))) (st2.set (s+3) (true,rw++[toD (Zz r)])) [none,none,some (.int line),none,some (Zz r)] [some (.dic s),some (.lst w),some (.int line),y3,some (toD (Zz r))]:=EA.no (EA.no (EA.yes (.int line) (EA.no (EA.yes (Xw ZbJ) EA.nil))));have YG:∃ c:Bool,pe (Zh T (n+5)) (.cmp .In (.ix (.var 4) (.cst (.int 0))) (.tupE (.aC (.cst (.str (S "if"))) (.aC (.cst (.str (S "go"))) .aN)))) [none,none,some (.int line),none,some (Zz r)]=some (.bl c)/\(c=true->∃ t,ZbZ line r=[.tup [.int line,.int (t:Int)]]/\pe (Zh T (n+5)) (.tupE (.aC (.var 2) (.aC (.ix (.var 4) (.neg (.cst (.int 1)))) .aN))) [none,none,some (.int line),none,some (Zz r)]=some (.tup [.int line,.int (t:Int)]))/\(c=false->ZbZ line r=[]):=by
  cases r with
  |put x y s z=>exact⟨false,rfl,(fun z=>nomatch z),fun _=>rfl⟩
  |tell y=>exact⟨false,rfl,(fun z=>nomatch z),fun _=>rfl⟩
  |skip=>exact⟨false,rfl,(fun z=>nomatch z),fun _=>rfl⟩
  |go t=>exact⟨true,rfl,(fun _=>⟨(t:Int),rfl,rfl⟩),fun z=>nomatch z⟩
  |ifr y s z t=>exact⟨true,rfl,(fun _=>⟨(t:Int),rfl,rfl⟩),fun z=>nomatch z⟩
 have head:∀ {o:Ot (Fl×Za)},ex (run T (n+5)) (.seq (.ite (.cmp .In (.ix (.var 4) (.cst (.int 0))) (.tupE (.aC (.cst (.str (S "if"))) (.aC (.cst (.str (S "go"))) .aN)))) (.seq (.app2 (.dict [(S "aims")] (.var 0)) (.tupE (.aC (.var 2) (.aC (.ix (.var 4) (.neg (.cst (.int 1)))) .aN)))) .skip) .skip) .skip) [some (.dic s),some (.lst w),some (.int line),y3,some (toD (Zz r))] (st2.set (s+3) (true,rw++[toD (Zz r)]))=o->ex (run T (n+5)) c_Draft_read_row.body [some (.dic s),some (.lst w),some (.int line),none,none] st=o:=by
  intro o h;refine e1.trans ?_;rw[Zw (XD (v:=toD (Zz r)) (st':=st2) (by
   rw[Y7 (xs:=[.lst w,.dic (s+2)]) (st':=st1) (by
    exact YQ (st1:=st1) (by rfl) (YQ (WH d1) V4 (by decide)) (show 1 < 1000 by decide))]
   exact e2))]
  show ex (run T (n+5)) _ [some (.dic s),some (.lst w),some (.int line),y3,some (toD (Zz r))] st2=o;rw[Zw (VP (Zas d2) (v:=toD (Zz r)) (st1:=st2) (by rfl) d2.r (by omega))]
  exact h
 obtain⟨c,ec,cy,cn⟩:=YG;obtain⟨v3,st3,e3,x3,r3⟩:=YS ec E;cases r3;have d4:=d3.ext x3;cases c with
 |false=>
  refine⟨st3,ZaL (d:=c_Draft_read_row) rfl rfl (ρ':=[some (.dic s),some (.lst w),some (.int line),y3,some (toD (Zz r))]) (head ((Zw ((Vk e3).trans ZF)).trans ZF)),?_,k3.trans x3.kp⟩;rw[cn rfl,bE];exact d4
 |true=>
  obtain⟨t,et,ep⟩:=cy rfl;have E3:EnvAll (Al st3) st3 [none,none,some (.int line),none,some (Zz r)] [some (.dic s),some (.lst w),some (.int line),y3,some (toD (Zz r))]:=EA.no (EA.no (EA.yes (.int line) (EA.no (EA.yes (Xw ZbJ) EA.nil))));obtain⟨v4,st4,e4,x4,r4⟩:=YS ep E3;cases WB (p:=.tup [.int line,.int (t:Int)]) rfl r4
  have d5:=d4.ext x4;refine⟨_,ZaL (d:=c_Draft_read_row) rfl rfl (ρ':=[some (.dic s),some (.lst w),some (.int line),y3,some (toD (Zz r))]) (head ((Zw ((Qk e3).trans ((Zw (VP (Zd1 d4) e4 d5.a (by omega))).trans ZF))).trans ZF)),?_,((k3.trans x3.kp).trans x4.kp).trans (Kp.set (by omega) (by omega))⟩
  rw[et];exact d5.setA
end
variable{wl:Li Str}
section
variable {n m s w:Nat}{st st':Za}{tkd nm rw am:Li D}{F:Nat->Fn}{ρ:Env}{b:Bool}{k:Str}{N:Nat->Str}{ws ns:Li Str}{r:Row}{ts:Li P}{p:Prog}{tk:Li (Int×Int)}
theorem V5{a:CE}(hi:ρ[i]?=some (some (.dic s)))(ho:st[s]?=some (obC s))(h:ev F a ρ st=some (.tup xs,st1)):ev F (.meth [(237,j)] (.var i) a) ρ st=F j (.dic s :: xs) st1:=by
 show JG F [(237,j)] (Xe i) (ev F a) ρ st=_;unfold JG Xe;simp only[hi,ho,obC,h];rfl
theorem Zad{line:Int}{N:Nat}{c:Bool}{Q:Za->Prop}(d:Dr st s tkd nm rw am)(hw:st[w]?=some (b,(k :: ws).map D.str))(h233:Zh T N 233 [.lst b ((k :: ws).map P.str)]=some (.bl true))(h239:∀ st',Grw st st'->run T N 239 [.dic s,.str k] st'=some (.bl true,st'))(hc:Y9 k [.str (S "take"),.str (S "name")]=some c)(hj:j=if c=true then 241 else 242)(hm:∀ st',Grw st st'->∃ st'',run T N j [.dic s,.lst w,.int line] st'=some (.non,st'')/\Q st''):∃ st'',run T (N+1) 240 [.dic s,.lst w,.int line] st=some (.non,st'')/\Q st'':=by
 obtain⟨st1,e1,x1⟩:=WA h233 rfl (.cons (Wf hw) .nil);have d1:=d.ext x1;obtain⟨st2,e2,q⟩:=hm st1 x1;refine⟨st2,ZaL (d:=c_Draft_read_line) rfl rfl (ρ':=[some (.dic s),some (.lst w),some (.int line)]) ?_,q⟩;show ex (run T N) (.seq _ (.seq _ .skip)) [some (.dic s),some (.lst w),some (.int line)] st=_;have a0:ev (run T N) (.ix (.var 1) (.cst (.int 0))) [some (.dic s),some (.lst w),some (.int line)] st1=some (.str k,st1):=ZdV (x1.get hw)
 have c1:ev (run T N) (.or (.not (.call 233 (.aC (.var 1) .aN) [])) (.not (.meth [(237,239)] (.var 0) (.aC (.ix (.var 1) (.cst (.int 0))) .aN)))) [some (.dic s),some (.lst w),some (.int line)] st=some (.bl false,st1):=by
  refine(Zk3 (Zbh (k:=true) ((Y7 (xs:=[.lst w]) (st':=st) (by rfl)).trans e1))).trans (Zbh (k:=true) ?_)
  refine(V5 (s:=s) (xs:=[.str k]) (st1:=st1) rfl d1.o (YQ a0 V4 (by decide))).trans (h239 st1 x1)
 have c2:ev (run T N) (.cmp .In (.ix (.var 1) (.cst (.int 0))) (.tupE (.aC (.cst (.str (S "take"))) (.aC (.cst (.str (S "name"))) .aN)))) [some (.dic s),some (.lst w),some (.int line)] st1=some (.bl c,st1):=Yd a0 (w:=.tup [.str (S "take"),.str (S "name")]) (st2:=st1) (by rfl) hc
 have go:∀ i,run T N i [.dic s,.lst w,.int line] st1=some (.non,st2)->ex (run T N) (.seq (.act (.meth [(237,i)] (.var 0) (.aC (.var 1) (.aC (.var 2) .aN)))) .skip) [some (.dic s),some (.lst w),some (.int line)] st1=some (.nx [some (.dic s),some (.lst w),some (.int line)],st2):=fun i h=>(Zw (ZfK ((V5 (s:=s) (xs:=[.lst w,.int line]) (st1:=st1) rfl d1.o (by rfl)).trans h))).trans ZF
 rw[Zw ((Vk c1).trans ZF)];subst hj;cases c with
 |true=>exact(Zw ((Qk c2).trans (go 241 e2))).trans ZF
 |false=>exact(Zw ((Vk c2).trans (go 242 e2))).trans ZF
def tkD(tk:Li (Int×Int)):Li D:=tk.map fun q=>.tup [.int q.1,.int q.2]
def rwD(rs:Li Row):Li D:=rs.map fun r=>toD (Zz r)
def Zmi(p:Prog)(d:D):Prop:=∃ (l:Int) (t:Nat),d=.tup [.int l,.int (t:Int)]/\t<=p.rows.length
def LI(N:Nat->Str)(p:Prog)(tk:Li (Int×Int))(s j:Nat)(st:Za):Prop:=∃ am,am.length<=j/\(∀ d∈am,Zmi p d)/\Dr st s (tkD (tk.take j)) (nmD N (Nat.min j p.many)) (rwD (p.rows.take (j - p.many))) am
theorem LI.ext(h:LI N p tk s j st)(x:Grw st st'):LI N p tk s j st':=let ⟨am,a,b,d⟩:=h;⟨am,a,b,d.ext x⟩
def twN(N:Nat->Str)(tk:Li (Int×Int))(i:Nat):Li Str:=[S "take",N i,nuS (tk.getD i (0,0)).1,nuS (tk.getD i (0,0)).2]
def Z8(N:Nat->Str)(p:Prog)(tk:Li (Int×Int)):Li (Li Str):=(List.range tk.length).map (twN N tk)++((List.range (p.many - tk.length)).map fun k=>nmN N (tk.length+k))++p.rows.map (woN N)
theorem ZfC{k:Nat}(hs:∀ q∈tk,KSm q)(hk:k < tk.length):KSm (tk.getD k (0,0)):=by
 rw[cM,Lg hk];exact hs _ (dE hk)
theorem Qn(h:Sh p tk):(Z8 N p tk).length=p.many+p.rows.length:=by
 have:=h.tkl;unfold Z8;rw[aH,aH,aD,aD,aD,bL,bL];omega
theorem Zdm(hj:j < tk.length):(Z8 N p tk)[j]?=some (twN N tk j):=by
 unfold Z8;rw[bN,aZ (by rw[aD,bL];exact hj),aQ,dH hj]
 rfl
theorem Zdl(h0:tk.length<=j)(hj:j < p.many):(Z8 N p tk)[j]?=some (nmN N j):=by
 unfold Z8;rw[bN,bF (by rw[aD,bL];exact h0),aD,bL,aZ (by rw[aD,bL];omega),aQ,dH (by omega)]
 show some (nmN N (tk.length+(j - tk.length)))=_;rw[show tk.length+(j - tk.length)=j by omega]
theorem Zf1(h:Sh p tk)(h0:p.many<=j)(hr:p.rows[j - p.many]?=some r):(Z8 N p tk)[j]?=some (woN N r):=by
 have ht:=h.tkl;unfold Z8;rw[bF (by rw[aH,aD,bL,aD,bL];omega),aH,aD,bL,aD,bL,show j - (tk.length+(p.many - tk.length))=j - p.many by omega,aQ,hr]
 rfl
theorem ZfB(hj:j < tk.length):tkD (tk.take (j+1))=tkD (tk.take j)++[.tup [.int (tk.getD j (0,0)).1,.int (tk.getD j (0,0)).2]]:=by
 unfold tkD;rw[List.take_succ,bP,Lg hj];have:tk.getD j (0,0)=tk[j]:=by rw[cM,Lg hj];rfl
 rw[this];rfl
theorem ZcH(hN:Nms N){line:Int}(h:Sh p tk)(hj:(Z8 N p tk)[j]?=some wl)(hw:st[w]?=some (true,wl.map D.str))(hne:w < s\/s+5<=w)(I:LI N p tk s j st) :
  ∃ st',run T (n+7) 240 [.dic s,.lst w,.int line] st=some (.non,st')/\LI N p tk s (j+1) st'/\Kp s st st':=by
 have hm:=h.many;have ht:=h.tkl;have h3:=h.tk3;have hz:=h.size;obtain⟨am,ha,hA,d⟩:=I;by_cases c1:j < tk.length
 ·rw[Zdm c1]at hj
  cases hj;have q:=ZfC h.sm c1;have e0:Nat.min j p.many=j:=cC (by omega)
  have e1:Nat.min (j+1) p.many=j+1:=cC (by omega)
  have e2:j - p.many=0:=by omega
  have e3:j+1 - p.many=0:=by omega
  rw[e0,e2]at d;have lt:(tkD (tk.take j)).length=j:=by unfold tkD;rw[aD,bJ];omega
  have d:Dr st s (tkD (tk.take j)) (nmD N j) [] am:=d;refine Zad (N:=n+6) (c:=true) d hw (VN (n:=n+5) (.inl rfl) rfl (fun a ha=>?_) (fun _=>⟨_,_,_,_,_,rfl,Za0 (n:=n+2) q.1,Za0 (n:=n+2) q.2.1,q.2.2⟩)) (fun st' x=>ZiP (d.ext x) (Um) (by rw[WO,lt]) (by omega)) rfl rfl (fun st' x=>?_)
  ·have e:kinds (S "take")=[S "name",S "number",S "number"]:=rfl
   rw[e]at ha;simp only[List.zip_cons_cons,List.zip_nil_left,aJ,aU,or_false]at ha;rcases ha with rfl|rfl|rfl
   ·exact V8 (n:=n+1) hN (by omega)
   ·exact V9 (n:=n+1) q.1
   ·exact V9 (n:=n+1) q.2.1
  ·obtain⟨st2,r1,r2,r3⟩:=ZfW hN (n:=n+2) (line:=line) (d.ext x) (x.get hw) (by omega) hne q.1 q.2.1 (by omega)
   refine⟨st2,r1,⟨am,by omega,hA,?_⟩,x.kp.trans r3⟩
   rw[e1,e3,ZfB c1];exact r2
 ·by_cases c2:j < p.many
  ·rw[Zdl (by omega) c2]at hj
   cases hj;have e0:Nat.min j p.many=j:=cC (by omega)
   have e1:Nat.min (j+1) p.many=j+1:=cC (by omega)
   have e2:j - p.many=0:=by omega
   have e3:j+1 - p.many=0:=by omega
   have e4:tk.take j=tk:=cA (by omega)
   have e5:tk.take (j+1)=tk:=cA (by omega)
   rw[e0,e2,e4]at d;have d:Dr st s (tkD tk) (nmD N j) [] am:=d;refine Zad (N:=n+6) (c:=true) d hw (VN (n:=n+5) (.inr (.inl rfl)) rfl (fun a ha=>?_) (fun z=>absurd z (by simp))) (fun st' x=>ZiL (d.ext x) (Um) (by rw[WO];omega)) rfl rfl (fun st' x=>?_)
   ·have e:kinds (S "name")=[S "name"]:=rfl
    rw[e]at ha;simp only[List.zip_cons_cons,List.zip_nil_left,aJ,aU,or_false]at ha;rcases ha with rfl
    exact V8 (n:=n+1) hN (by omega)
   ·obtain⟨st2,r1,r2,r3⟩:=ZfV hN (n:=n+5) (line:=line) (d.ext x) (x.get hw) (by omega) hne
    refine⟨st2,r1,⟨am,by omega,hA,?_⟩,x.kp.trans r3⟩
    rw[e1,e3,e5];exact r2
  ·have hl:=Zr hj
   rw[Qn h]at hl;have hr:j - p.many < p.rows.length:=by omega
   have er:=Lg hr;rw[Zf1 h (by omega) er]at hj
   obtain⟨ok,sg⟩:=h.rows _ (dE hr);obtain⟨k,ws,ts,ns,l⟩:=Zj6 (N:=N) (by omega) ok sg
   rw[l.wo]at hj;cases hj;have e0:Nat.min j p.many=p.many:=dJ (by omega)
   have e1:Nat.min (j+1) p.many=p.many:=dJ (by omega)
   have e4:tk.take j=tk:=cA (by omega)
   have e5:tk.take (j+1)=tk:=cA (by omega)
   have lr:(rwD (p.rows.take (j - p.many))).length=j - p.many:=by unfold rwD;rw[aD,bJ];omega
   have e6:rwD (p.rows.take (j+1 - p.many))=rwD (p.rows.take (j - p.many))++[toD (Zz p.rows[j - p.many])]:=by
    rw[show j+1 - p.many=j - p.many+1 by omega]
    unfold rwD;rw[List.take_succ,bP,er];rfl
   have hc:Y9 k [.str (S "take"),.str (S "name")]=some false:=by
    show some (decide (S "take"=k)||(decide (S "name"=k)||false))=_;rw[aO (fun z=>l.nt.1 z.symm),aO (fun z=>l.nt.2 z.symm)]
    rfl
   rw[e0,e4]at d;refine Zad (N:=n+6) (c:=false) d hw (VN (n:=n+5) l.wd l.ln (fun a ha=>l.pr.fit hN (n:=n+1) hm a ha) (fun z=>absurd z l.nt.1)) (fun st' x=>ZiN (d.ext x) l.nt.1 l.nt.2 (by omega)) hc rfl (fun st' x=>?_)
   obtain⟨st2,r1,r2,r3⟩:=ZiO hN (n:=n) (line:=line) (d.ext x) hm (x.get hw) l (by omega) (by omega)
   refine⟨st2,r1,⟨am++ZbZ line p.rows[j - p.many],?_,?_,?_⟩,x.kp.trans r3⟩
   ·rw[aH]
    have:(ZbZ line p.rows[j - p.many]).length<=1:=by
     unfold ZbZ;cases aim p.rows[j - p.many]<;>simp
    omega
   ·intro v hv
    rcases aR.mp hv with hv|hv
    ·exact hA v hv
    ·revert hv ok
     generalize p.rows[j - p.many]=r;intro ok hv;cases r with
     |go t=>exact⟨line,t,bH.mp hv,ok⟩
     |ifr y s z t=>exact⟨line,t,bH.mp hv,ok.2.2⟩
     |_=>exact absurd hv (aU)
   ·rw[e1,e5,e6]
    exact r2
end
variable{body:D->D->Env->Za->Ot (Fl×Za)}
section
variable {n m s w a:Nat}{st st':Za}{tkd nm rw am:Li D}{F:Nat->Fn}{ρ:Env}{b:Bool}{k:Str}{N:Nat->Str}{L:Li Str}{ws ns:Li Str}{r:Row}{ts:Li P}{p:Prog}{tk:Li (Int×Int)}{c:YU}
theorem ZfG{c:Int}:Vis (nuS c):=fun a ha=>by have:=ZeS a ha;omega
theorem Uy(h:WW k):Vis k:=by
 unfold Vis;rcases h with h|h|h|h|h|h|h<;>subst h<;>decide +kernel
theorem ZkC(h:PSg k):Vis k:=by
 unfold Vis;rcases h with h|h|h|h|h<;>subst h<;>decide +kernel
theorem ZkB(h:ISg k):Vis k:=by
 unfold Vis;rcases h with h|h|h|h|h|h<;>subst h<;>decide +kernel
theorem JC(hN:Nms N)(h:Sh p tk)(hw:wl∈Z8 N p tk):∃ k ws,wl=k :: ws/\WW k/\(∀ x∈ws,Vis x/\x.length<=60)/\ws.length<=5:=by
 have hz:=h.size;have hm:=h.many;have ht:=h.tkl;have vn:∀ {i:Nat},i < 5->Vis (N i)/\(N i).length<=60:=fun {i} hi=>⟨hN.vis i hi,(hN.wd i hi).len⟩
 have vc:∀ {c:Int},Sm c->Vis (nuS c)/\(nuS c).length<=60:=fun {c} hc=>⟨ZfG,aF (Vb hc) (by decide)⟩
 have vt:∀ {t:Nat},t<=1000->Vis (nuS (t:Int))/\(nuS (t:Int)).length<=60:=fun {t} hc=>⟨ZfG,aF (QQ hc) (by decide)⟩
 have vo:∀ {o:Opd},YB p.many o->Vis (opN N o)/\(opN N o).length<=60:=fun {o} ho=>by
  cases o with
  |name i=>exact vn (by have:i < p.many:=ho;omega)
  |num c=>exact vc ho
 rcases aR.mp hw with hs|hs
 ·rcases aR.mp hs with hs|hs
  ·obtain⟨i,hi,rfl⟩:=aT.mp hs
   have hi:=bM.mp hi;have q:=ZfC h.sm hi;refine⟨_,_,rfl,.inl rfl,fun x hx=>?_,(show 3<=5 by decide)⟩
   simp only[aJ,aU,or_false]at hx;rcases hx with rfl|rfl|rfl
   ·exact vn (by omega)
   ·exact vc q.1
   ·exact vc q.2.1
  ·obtain⟨i,hi,rfl⟩:=aT.mp hs
   have hi:=bM.mp hi;refine⟨_,_,rfl,.inr (.inl rfl),fun x hx=>?_,(show 1<=5 by decide)⟩
   simp only[aJ,aU,or_false]at hx;subst hx;exact vn (by omega)
 ·obtain⟨r,hr,rfl⟩:=aT.mp hs
  obtain⟨ok,sg⟩:=h.rows r hr;cases r with
  |put x y s z=>
   refine⟨_,_,rfl,.inr (.inr (.inl rfl)),fun x hx=>?_,(show 4<=5 by decide)⟩
   simp only[aJ,aU,or_false]at hx;rcases hx with rfl|rfl|rfl|rfl
   ·exact vn (by have:=ok.1;omega)
   ·exact vo ok.2.1
   ·exact⟨ZkC sg,aF (PSg.len sg) (by decide)⟩
   ·exact vo ok.2.2
  |ifr y s z t=>
   refine⟨_,_,rfl,.inr (.inr (.inr (.inl rfl))),fun x hx=>?_,(show 5<=5 by decide)⟩
   simp only[aJ,aU,or_false]at hx;rcases hx with rfl|rfl|rfl|rfl|rfl
   ·exact vo ok.1
   ·exact⟨ZkB sg,aF (ISg.len sg) (by decide)⟩
   ·exact vo ok.2.1
   ·exact⟨Uy (.inr (.inr (.inr (.inr (.inl rfl))))),by decide +kernel⟩
   ·exact vt (by have:=ok.2.2;omega)
  |go t=>
   refine⟨_,_,rfl,.inr (.inr (.inr (.inr (.inl rfl)))),fun x hx=>?_,(show 1<=5 by decide)⟩
   simp only[aJ,aU,or_false]at hx;subst hx;exact vt (by have:t<=p.rows.length:=ok;omega)
  |tell y=>
   refine⟨_,_,rfl,.inr (.inr (.inr (.inr (.inr (.inl rfl))))),fun x hx=>?_,(show 1<=5 by decide)⟩
   simp only[aJ,aU,or_false]at hx;subst hx;exact vo ok
  |skip=>exact⟨_,_,rfl,.inr (.inr (.inr (.inr (.inr (.inr rfl))))),fun x hx=>absurd hx (aU),(show 0<=5 by decide)⟩
theorem ZfJ(h:WW k):k.length<=60:=by
 rcases h with h|h|h|h|h|h|h<;>subst h<;>decide +kernel
theorem Zby(hk:WW k)(h:∀ x∈ws,Vis x/\x.length<=60)(hl:ws.length<=5):(ln (k :: ws)).length<=366:=by
 have:=Zd7 (j:=60) ZkS (ws:=k :: ws) (fun w hw=>by
  rcases aJ.mp hw with rfl|hw
  ·exact ZfJ hk
  ·exact(h w hw).2)
 rw[aY]at this;unfold ln;omega
theorem Zdd(h:WW k):∃ c l,k.cps.toList=c :: l/\c≠35:=by
 rcases h with h|h|h|h|h|h|h<;>subst h<;>exact⟨_,_,rfl,by decide⟩
def NL:Str:=S "\n"
theorem Zfy{x:Nat}{xs:Li Str}(h0:xs≠[])(h:∀ q∈xs,x∉q.cps.toList):Vg (gl ⟨#[x]⟩ xs) ⟨#[x]⟩=xs:=by
 unfold Vg;rw[Yz];show(Wm x (Y3 ⟨#[x]⟩ xs)).map (fun l=>(⟨l.toArray⟩:Str))=xs
 rw[Uu h0 h,bB];have:((fun l:Li Nat=>(⟨l.toArray⟩:Str)) ∘ fun q:Str=>q.cps.toList)=id:=by
  funext q
  exact Z2 rfl
 rw[this,List.map_id]
theorem Zmk:S " "=⟨#[32]⟩:=Z2 rfl
theorem Zml:S "\n"=⟨#[10]⟩:=Z2 rfl
theorem Zbn{x:Nat}{sg:Str}:∀ {xs:Li Str},x∈Ye sg xs->x∈sg.cps.toList\/∃ q∈xs,x∈q.cps.toList
 |[],h=>nomatch h
 |q :: xs,h=>by
  rcases aR.mp (show x∈(sg.cps.toList++q.cps.toList)++Ye sg xs from h) with h|h
  ·rcases aR.mp h with h|h
   ·exact .inl h
   ·exact .inr ⟨q,Ls,h⟩
  ·rcases Zbn h with h|⟨q',h1,h2⟩
   ·exact .inl h
   ·exact .inr ⟨q',Lm _ h1,h2⟩
theorem Zlm(hk:Vis k)(h:∀ x∈ws,Vis x/\x.length<=60):10∉(ln (k :: ws)).cps.toList:=by
 unfold ln;rw[Yz];intro z;rcases aR.mp (show 10∈k.cps.toList++Ye (S " ") ws from z) with z|z
 ·exact absurd (hk _ z) (by omega)
 ·rcases Zbn z with z|⟨q,h1,h2⟩
  ·exact absurd z (by decide +kernel)
  ·exact absurd ((h q h1).1 _ h2) (by omega)
theorem Zln(h:WW k):¬ln (k :: ws)=S ""/\stW (ln (k :: ws)) (S "#")=false:=by
 obtain⟨c,l,e,hc⟩:=Zdd h;have el:(ln (k :: ws)).cps.toList=c :: (l++Ye (S " ") ws):=by
  unfold ln;rw[Yz];show k.cps.toList++Ye (S " ") ws=_;rw[e];rfl
 refine⟨fun z=>?_,?_⟩
 ·rw[z]at el;cases el
 ·unfold stW
  rw[el];show([c]==[35])=false;simp[hc]
theorem Zjx(h:WW k)(hv:∀ x∈ws,Vis x/\x.length<=60):Vg (ln (k :: ws)) (S " ")=k :: ws:=by
 unfold ln;rw[Zmk];refine Zfy (dC _ _) fun q hq z=>?_
 rcases aJ.mp hq with rfl|hq
 ·exact absurd (Uy h _ z) (by omega)
 ·exact absurd ((hv q hq).1 _ z) (by omega)
theorem ZcX(hN:Nms N){x0:Ot D}{line:Int}(h:Sh p tk)(hj:(Z8 N p tk)[j]?=some wl)(I:LI N p tk s j st) :
  ∃ st',ex (run T (n+7)) Yo [x0,some (.dic s),some (.int line),some (.str (ln wl))] st=some (.nx [x0,some (.dic s),some (.int line),some (.str (ln wl))],st')/\LI N p tk s (j+1) st'/\Kp s st st':=by
 have hmem:=bG hj;obtain⟨k,ws,rfl,hk,hv,h5⟩:=JC hN h hmem;obtain⟨g1,g2⟩:=Zln (ws:=ws) hk;have hl:(ln (k :: ws)).length<=Zc:=by
  have:=Zby hk hv h5;unfold Zc;omega
 obtain⟨am,ha,hA,d⟩:=I;have ho:=d.o;have I:LI N p tk s j st:=⟨am,ha,hA,d⟩;have et:ev (run T (n+7)) (.tix (.var 3) (.aC (.cst (.str (S " "))) .aN)) [x0,some (.dic s),some (.int line),some (.str (ln (k :: ws)))] st=some (.lst st.length,st++[(true,(k :: ws).map D.str)]):=by
  show Zc8 (.str (ln (k :: ws))) (.tup [.str (S " ")]) st=_;show(if (S " ").length=1/\(ln (k :: ws)).length<=Zc then some (D.lst st.length,st++[(true,(Vg (ln (k :: ws)) (S " ")).map D.str)]) else none)=_
  rw[if_pos ⟨by decide +kernel,hl⟩,Zjx hk hv]
 have hw:(st++[(true,(k :: ws).map D.str)])[st.length]?=some (true,(k :: ws).map D.str):=by
  rw[bF (aB _),Nat.sub_self];rfl
 have hs:=Zr d.a;obtain⟨st2,e2,I2,k2⟩:=ZcH hN (n:=n) (line:=line) h hj hw (.inr (by omega)) (I.ext Grw.push)
 refine⟨st2,?_,I2,(Grw.push.kp).trans k2⟩;unfold Yo;have c1:ev (run T (n+7)) (.and (.cmp .NotEq (.var 3) (.cst (.str (S "")))) (.not (.starts (.var 3) (.aC (.cst (.str (S "#"))) .aN)))) [x0,some (.dic s),some (.int line),some (.str (ln (k :: ws)))] st=some (.bl true,st):=by
  refine(Jp (st':=st) (Yd (st1:=st) (st2:=st) (u:=.str (ln (k :: ws))) (w:=.str (S "")) (by rfl) Xz (k:=true) ?_)).trans (Zbh (k:=false) ?_)
  ·show some (!decide (ln (k :: ws)=S ""))=_
   rw[aO g1];rfl
  ·show some (D.bl (stW (ln (k :: ws)) (S "#")),st)=_
   rw[g2]
 refine(Zw ((Qk c1).trans ((Zw (ZfK ((V5 (s:=s) (xs:=[.lst st.length,.int line]) rfl ho (YQ et (YQ (st1:=st++[(true,(k :: ws).map D.str)]) (by rfl) V4 (by decide)) (show 1 < 1000 by decide))).trans e2))).trans ZF))).trans ZF
theorem ZeB{ok:Za->Prop}{q:D×D}{ps:Li (D×D)}(h:ok st)(e:body q.1 q.2 ρ st=some (.nx ρ',st')):Z0 ok body (q :: ps) ρ st=Z0 ok body ps ρ' st':=by
 conv=>lhs;unfold Z0
 rw[if_pos h,e]
theorem Zlh{ok:Za->Prop}(h:ok st):Z0 ok body [] ρ st=some (.nx ρ,st):=if_pos h
inductive Mix:List Str->List (List Str)->Prop
 |nil:Mix [] []
 |pass {x:Str}{L:List Str}{W:List (List Str)} (h:x=S ""\/stW x (S "#")=true) (r:Mix L W):Mix (x :: L) W
 |line {w:List Str}{L:List Str}{W:List (List Str)} (r:Mix L W):Mix (ln w :: L) (w :: W)
theorem ZcR{x0:Ot D}{x:Str}(h:x=S ""\/stW x (S "#")=true):ex F Yo [x0,some (.dic s),some v,some (.str x)] st=some (.nx [x0,some (.dic s),some v,some (.str x)],st):=by
 unfold Yo;refine(Zw ((Vk (st':=st) ?_).trans ZF)).trans ZF;by_cases c:x=S ""
 ·exact Zjc ((Yd (st1:=st) (st2:=st) (u:=.str x) (w:=.str (S "")) (by rfl) Xz (k:=!decide (x=S "")) rfl).trans (by rw[aK c];rfl))
 ·have g:stW x (S "#")=true:=h.resolve_left c
  refine(Jp (st':=st) (Yd (st1:=st) (st2:=st) (u:=.str x) (w:=.str (S "")) (by rfl) Xz (k:=true) ?_)).trans (Zbh (k:=true) ?_)
  ·show some (!decide (x=S ""))=_
   rw[aO c];rfl
  ·show some (D.bl (stW x (S "#")),st)=_
   rw[g]
theorem ZcW(hN:Nms N){x0:Ot D}(h:Sh p tk)(ha:s+5<=a):∀ {L:Li Str}{rest:Li (Li Str)},Mix L rest->∀ {i j:Nat}{x2 x3:Ot D}{st:Za},(Z8 N p tk).drop j=rest->j<=(Z8 N p tk).length->LI N p tk s j st->st[a]?=some c->
  ∃ y2 y3 st',Z0 (fun S=>S[a]?=some c) (fun x y ρ S=>ex (run T (n+7)) Yo (Zy (Zy ρ 2 x) 3 y) S) (Wo i (L.map D.str)) [x0,some (.dic s),x2,x3] st=some (.nx [x0,some (.dic s),y2,y3],st')/\LI N p tk s (Z8 N p tk).length st'/\Kp s st st':=by
 intro L rest mx
 induction mx with
 |nil=>
  intro i j x2 x3 st hd hj I hc;refine⟨x2,x3,st,Zlh hc,?_,Grw.refl.kp⟩;have hl:(Z8 N p tk).length<=j:=List.drop_eq_nil_iff.mp hd;rw[show(Z8 N p tk).length=j by omega]
  exact I
 |@pass x L W hx r ih=>
  intro i j x2 x3 st hd hj I hc;obtain⟨y2,y3,st2,e2,I2,k2⟩:=ih (i:=i+1) (x2:=some (.int (i:Int))) (x3:=some (.str x)) hd hj I hc;refine⟨y2,y3,st2,?_,I2,k2⟩;rw[aM];show Z0 _ _ ((.int (i:Int),.str x) :: Wo (i+1) (L.map D.str)) [x0,some (.dic s),x2,x3] st=_;rw[ZeB hc (ZcR hx)];exact e2
 |@line wl L W r ih=>
  intro i j x2 x3 st hd hjl I hc;have hj:(Z8 N p tk)[j]?=some wl:=by
   have:=congrArg (fun l=>l[0]?) hd
   simp only[List.getElem?_drop,Nat.add_zero]at this;exact this
  obtain⟨st1,e1,I1,k1⟩:=ZcX hN (n:=n) (x0:=x0) (line:=(i:Int)) h hj I;have hc1:st1[a]?=some c:=(k1.old a (Zr hc) (.inr ha)).trans hc;obtain⟨y2,y3,st2,e2,I2,k2⟩:=ih (i:=i+1) (j:=j+1) (x2:=some (.int (i:Int))) (x3:=some (.str (ln wl))) (by rw[<-List.drop_drop,hd];rfl) (Zr hj) I1 hc1
  refine⟨y2,y3,st2,?_,I2,k1.trans k2⟩;rw[aM];show Z0 _ _ ((.int (i:Int),.str (ln wl)) :: Wo (i+1) (L.map D.str)) [x0,some (.dic s),x2,x3] st=_;rw[ZeB hc e1];exact e2
theorem ZfU(d:Dr st s tkd nm rw am)(h:∀ v∈am,∃ (l:Int) (t:Nat),v=.tup [.int l,.int (t:Int)]/\t<=rw.length):run T (n+1) 243 [.dic s] st=some (.non,st):=by
 obtain⟨ρ',e,x1,x2,rfl⟩:=Va (body:=Qa 1 2 (ex (run T n) ZA)) (I:=fun ρ=>∃ x1 x2,ρ=[some (.dic s),x1,x2]) d.a (fun v hv ρ hρ=>by
  obtain⟨x1,x2,rfl⟩:=hρ;obtain⟨l,t,rfl,ht⟩:=h v hv;refine⟨[some (.dic s),some (.int l),some (.int (t:Int))],?_,_,_,rfl⟩;show ex (run T n) ZA [some (.dic s),some (.int l),some (.int (t:Int))] st=_;refine(Zw ((Vk (st':=st) ((Yd (st1:=st) (u:=.int (t:Int)) (by rfl) (QH d) (k:=decide ((rw.length:Int) < (t:Int))) rfl).trans (by rw[aO (by omega)]))).trans ZF)).trans ZF) am.length 0 [some (.dic s),none,none] (by omega) ⟨none,none,rfl⟩
 refine ZaL (d:=c_Draft_check_places) rfl rfl (ρ':=[some (.dic s),x1,x2]) (Zw ?_ |>.trans ZF);show Jr 1 2 (ev (run T n) (.dict [(S "aims")] (.var 0))) (ex (run T n) ZA) [some (.dic s),none,none] st=_;unfold Jr;rw[Zd1 d];show(match st[s+4]? with
  |some (_,xs)=>Yu (Qa 1 2 (ex (run T n) ZA)) (s+4) xs.length 0 [some (.dic s),none,none] st
  |none=>none)=_
 rw[d.a];exact e
theorem Zbi(h:ev F e ρ st=some (.lst j,st))(h2:st[j]?=some (b,ds)):ev F (.tOf e) ρ st=some (.tup ds,st):=by
 show ZJ (ev F e) X6 ρ st=_;unfold ZJ;rw[h];show X6 (.lst j) st=_;show(match st[j]? with
  |some (_,xs)=>some (D.tup xs,st)
  |none=>none)=_
 rw[h2]
theorem ZiQ(d:Dr st s tkd nm rw am)(ho:Wx nm=false):run T (n+1) 244 [.dic s] st=some (.tup [.tup tkd,.int nm.length,.tup rw],st):=by
 refine ZaM (d:=c_Draft_told) rfl rfl (Xy (UA ?_));exact YQ (Zbi (Qw d) d.t) (YQ (VB d ho) (YQ (Zbi (Zas d) d.r) V4 (by decide)) (show 1 < 1000 by decide)) (show 2 < 1000 by decide)
theorem ZlU(h:Sh p tk):toD (Zp p)=.tup [.tup (tkD tk),.int (p.many:Int),.tup (rwD p.rows)]:=by
 unfold Zp;rw[h.takes];show D.tup [.tup (Uw (tk.map XR)),.int (p.many:Int),.tup (Uw (p.rows.map Zz))]=_;rw[Xo,Xo,bB,bB];rfl
theorem ZiM(hN:Nms N)(h:Sh p tk)(mx:Mix L (Z8 N p tk))(hc:∀ x∈L,10∉x.cps.toList)(tl:(gl NL L).length<=Zc):∃ st',run T (n+8) 245 [.str (gl NL L)] st=some (toD (Zp p),st')/\Grw st st':=by
 have al:=Qn (N:=N) h;have ht:=h.tkl;have hz:=h.size;have hm:=h.many;obtain⟨st1,hst1⟩:∃ st1,st1=st++[obC st.length,(true,[]),(true,[]),(true,[]),(true,[])]:=⟨_,rfl⟩;have l1:st1.length=st.length+5:=by rw[hst1,aH];rfl
 have x1:Grw st st1:=⟨fun i hi=>by rw[hst1,aZ hi],by omega⟩
 have d1:Dr st1 st.length [] [] [] []:=by rw[hst1];exact ZjC
 have e1:ev (run T (n+7)) (.isc [237,238] .aN) [some (.str (gl NL L)),none,none,none] st=some (.dic st.length,st1):=by rw[ZkJ (n:=n+6),hst1]
 obtain⟨ls,hls⟩:∃ ls,ls=Vg (gl NL L) (S "\n"):=⟨_,rfl⟩;have e2:ev (run T (n+7)) (.tix (.var 0) (.aC (.cst (.str (S "\n"))) .aN)) [some (.str (gl NL L)),some (.dic st.length),none,none] st1=some (.lst st1.length,st1++[(true,ls.map D.str)]):=by
  show(if (S "\n").length=1/\(gl NL L).length<=Zc then some (D.lst st1.length,st1++[(true,(Vg (gl NL L) (S "\n")).map D.str)]) else none)=_
  rw[if_pos ⟨by decide +kernel,tl⟩,hls]
 have hw:(st1++[(true,ls.map D.str)])[st1.length]?=some (true,ls.map D.str):=by
  rw[bF (aB _),Nat.sub_self];rfl
 have I0:LI N p tk st.length 0 (st1++[(true,ls.map D.str)]):=⟨[],aB _,(fun _ z=>nomatch z),(by
  have z:=d1.ext (Grw.push (c:=(true,ls.map D.str)));rw[show Nat.min 0 p.many=0 from cC (by omega),show 0 - p.many=0 by omega]
  exact z)⟩
 have main:∃ y2 y3 st',Z0 (fun S=>S[st1.length]?=some (true,ls.map D.str)) (fun x y ρ S=>ex (run T (n+7)) Yo (Zy (Zy ρ 2 x) 3 y) S) (Wo 1 (ls.map D.str)) [some (.str (gl NL L)),some (.dic st.length),none,none] (st1++[(true,ls.map D.str)])=some (.nx [some (.str (gl NL L)),some (.dic st.length),y2,y3],st')/\LI N p tk st.length (Z8 N p tk).length st'/\Kp st.length (st1++[(true,ls.map D.str)]) st':=by
  have ml:Mix ls (Z8 N p tk):=by
   by_cases c:L=[]
   ·subst c
    have es:ls=[S ""]:=by rw[hls];exact congrArg (· :: []) (Z2 rfl)
    rw[es];generalize Z8 N p tk=W at mx;cases mx;exact .pass (.inl rfl) .nil
   ·have es:ls=L:=by
     rw[hls];unfold NL;rw[Zml];exact Zfy c hc
    rw[es];exact mx
  exact ZcW hN (n:=n) (x0:=some (.str (gl NL L))) (a:=st1.length) (s:=st.length) (c:=(true,ls.map D.str)) h (by omega) ml (i:=1) (j:=0) (x2:=none) (x3:=none) rfl (bX _) I0 hw
 obtain⟨y2,y3,st2,e3,I3,k3⟩:=main;obtain⟨am,q1,q2,d3⟩:=I3;rw[al,show Nat.min (p.many+p.rows.length) p.many=p.many from dJ (by omega),show p.many+p.rows.length - p.many=p.rows.length by omega,cA (show tk.length<=p.many+p.rows.length by omega),cA (aB p.rows.length)]at d3
 refine⟨st2,?_,⟨fun i hi=>?_,?_⟩⟩
 ·rw[ZlU h]
  refine ZaM (d:=c_read) rfl rfl ?_;show ex (run T (n+7)) (.seq _ (.seq _ (.seq _ (.seq _ .skip)))) [some (.str (gl NL L)),none,none,none] st=_;rw[Zw (XD e1)];show ex (run T (n+7)) _ [some (.str (gl NL L)),some (.dic st.length),none,none] st1=_;rw[Zw (ρ':=[some (.str (gl NL L)),some (.dic st.length),y2,y3]) (st':=st2) (by
   show Js 2 3 (ev (run T (n+7)) (.tix (.var 0) (.aC (.cst (.str (S "\n"))) .aN))) (ex (run T (n+7)) Yo) [some (.str (gl NL L)),some (.dic st.length),none,none] st1=_;unfold Js;rw[e2];show(match (match (st1++[(true,ls.map D.str)])[st1.length]? with
    |some c=>some (c.2,fun(s:Za)=>s[st1.length]?=some c)
    |none=>none) with
    |some (xs,ok)=>Z0 ok (fun x y ρ s=>ex (run T (n+7)) Yo (Zy (Zy ρ 2 x) 3 y) s) (Wo 1 xs) [some (.str (gl NL L)),some (.dic st.length),none,none] (st1++[(true,ls.map D.str)])
    |none=>none)=_
   rw[hw];exact e3)]
  rw[Zw (ZfK ((V5 (s:=st.length) (xs:=[]) (st1:=st2) rfl d3.o (by rfl)).trans (ZfU (n:=n+6) d3 (fun v hv=>by
   obtain⟨l,t,e,ht⟩:=q2 v hv;exact⟨l,t,e,by unfold rwD;rw[aD];exact ht⟩))))]
  refine Xy (UA ((V5 (s:=st.length) (xs:=[]) (st1:=st2) rfl d3.o (by rfl)).trans ((ZiQ (n:=n+6) d3 Um).trans ?_)))
  rw[WO]
 ·have a1:i < (st1++[((true,ls.map D.str):YU)]).length:=by rw[aH];omega
  rw[k3.old i a1 (.inl hi),aZ (by omega),x1.old i hi]
 ·have:=k3.len
  rw[aH]at this;omega
theorem Ql(hN:Nms N)(h:Sh p tk)(mx:Mix L (Z8 N p tk))(hc:∀ x∈L,10∉x.cps.toList)(tl:(gl NL L).length<=Zc):∃ st',run T (n+9) 248 [.str (gl NL L)] st=some (toD (Zp p),st')/\Grw st st':=by
 obtain⟨st',e,x⟩:=ZiM hN (n:=n) (st:=st) h mx hc tl;refine⟨st',ZaM (d:=c__law_read) rfl rfl ?_,x⟩;show ex (run T (n+8)) (.seq (.set 1 (.cst .non)) (.seq (.seq (.set 1 (.call 245 (.aC (.var 0) .aN) [])) .skip) (.seq (.ret (.var 1)) .skip))) [some (.str (gl NL L)),none] st=_;rw[Zw (XD (v:=.non) (st':=st) rfl)];rw[Zw ((Zw (XD ((Y7 (xs:=[.str (gl NL L)]) (st':=st) (by rfl)).trans e))).trans ZF)]
 exact Xy (UA (by rfl))
end
section
variable {n m:Nat}{F:PFn}{π:Zt}{x y:Str}{c d:Int}{N:Nat->Str}
structure Lw(x:Str):Prop where
 lc:∀ c∈x.cps.toList,97<=c/\c<=122
 lo:1<=x.length
 hi:x.length<=8
theorem ZiW:∀ c,c < 123->97<=c->QT AZ ⟨#[c]⟩=true:=by decide +kernel
theorem Lw.nm(h:Lw x):nmB x=true:=by
 unfold nmB mdB mkd chS;have h1:=h.lo;have h2:=h.hi;rw[Ba,Ba,aS,aS,aW];refine⟨⟨by omega,by omega⟩,fun w hw=>?_⟩
 obtain⟨c,hc,rfl⟩:=aT.mp hw;have:=h.lc c hc;exact ZiW c (by omega) this.1
theorem Lw.wd(h:Lw x):Wd x:=⟨aF h.hi (by decide),fun c hc=>by have:=h.lc c hc;omega⟩
theorem Lw.vis(h:Lw x):Vis x:=fun c hc=>by have:=h.lc c hc;omega
theorem Nms.of(h:∀ i,i < 5->Lw (N i))(hi:∀ i j,i < 5->j < 5->N i=N j->i=j):Nms N:=⟨fun i hh=>(h i hh).nm,fun i hh=>(h i hh).wd,hi,fun i hh=>(h i hh).vis⟩
def lcS(i:Nat):Str:=⟨#[97+i]⟩
theorem Zf3:AZ.cps.toList=(List.range 26).map (97+·):=by decide +kernel
theorem Zie(h:i < 26):ixP (.str AZ) (.int (i:Int))=some (.str (lcS i)):=by
 show(if AZ.length<=Zc then atP ((chS AZ).map .str) (i:Int) else none)=_
 rw[if_pos (by decide +kernel),Yb rfl]
 unfold chS;rw[Zf3,bB,bB,aQ,dH h];rfl
theorem ZiV{v:Int}:∃ i,i < 26/\ixP (.str AZ) (.int (v % 26))=some (.str (lcS i))/\v % 26=(i:Int):=by
 obtain⟨i,hi,h⟩:∃ i:Nat,v % 26=(i:Int)/\i < 26:=⟨(v % 26).toNat,by omega,by omega⟩
 exact⟨i,h,by rw[hi];exact Zie h,hi⟩
theorem ZdR{k:Nat}:(W0 x none (some (k:Int))).cps.toList=x.cps.toList.take k:=by
 show((x.cps.toList.drop 0).take ((if (k:Int) < 0 then ((k:Int)+(x.length:Int)).toNat else Nat.min (k:Int).toNat x.length) - 0))=_
 rw[if_neg (by omega),bT,List.drop_zero,Nat.sub_zero,<-Zk]
 by_cases h:k<=x.cps.toList.length
 ·rw[show Nat.min k x.cps.toList.length=k from cC h]
 ·rw[show Nat.min k x.cps.toList.length=x.cps.toList.length from dJ (by omega),dU,cA (by omega)]
theorem ZdP{k:Nat}:(W0 x (some (k:Int)) none).cps.toList=x.cps.toList.drop k:=by
 show((x.cps.toList.drop (if (k:Int) < 0 then ((k:Int)+(x.length:Int)).toNat else Nat.min (k:Int).toNat x.length)).take (x.length - (if (k:Int) < 0 then ((k:Int)+(x.length:Int)).toNat else Nat.min (k:Int).toNat x.length)))=_
 rw[if_neg (by omega),bT,<-Zk]
 by_cases h:k<=x.cps.toList.length
 ·rw[show Nat.min k x.cps.toList.length=k from cC h]
  exact cA (by rw[cG];exact aB _)
 ·rw[show Nat.min k x.cps.toList.length=x.cps.toList.length from dJ (by omega),dP,dY (by omega)]
  exact List.take_nil
def tkS(x:Str)(k:Nat):Str:=⟨(x.cps.toList.take k).toArray⟩
def dpS(x:Str)(k:Nat):Str:=⟨(x.cps.toList.drop k).toArray⟩
theorem Zfw{k:Nat}(h:x.length<=8):Ys (.str x) none (some (k:Int))=some (.str (tkS x k)):=by
 show(if x.length<=Zc then some (P.str (W0 x none (some (k:Int)))) else none)=_
 rw[if_pos (by unfold Zc;omega)]
 congr 2
 exact Z2 ZdR
theorem ZlO{k:Nat}(h:x.length<=8):Ys (.str x) (some (k:Int)) none=some (.str (dpS x k)):=by
 show(if x.length<=Zc then some (P.str (W0 x (some (k:Int)) none)) else none)=_
 rw[if_pos (by unfold Zc;omega)]
 congr 2
 exact Z2 ZdP
theorem Zb2{ds:Li Nat}(h:∀ i∈ds,i < 26)(hl:ds.length<=8):∃ x:Str,Ug (.str (S "")) (.lst true (ds.map fun i=>.str (lcS i)))=some (.str x)/\x.cps.toList=ds.map (97+·):=by
 have e1:Vu (ds.map fun i=>P.str (lcS i))=some (ds.map lcS):=by
  have:=Uv (ys:=ds.map lcS);rw[bB]at this;exact this
 have e2:∀ l:Li Nat,Vx (l.map lcS)=l.map (97+·):=fun l=>by
  induction l with
  |nil=>rfl
  |cons a l ih=>
   show(lcS a).cps.toList++Vx (l.map lcS)=_;rw[ih];rfl
 refine⟨⟨(Vx (ds.map lcS)).toArray⟩,?_,by rw[bO,e2]⟩
 show(if (S "").length=0 then W7 (ds.map fun i=>P.str (lcS i)) else W6 (S "") (ds.map fun i=>P.str (lcS i)))=_
 rw[if_pos (by decide +kernel)]
 unfold W7;rw[e1];exact if_pos (by rw[e2,aD];unfold Zc;omega)
theorem Zf4:∃ x:Str,pe F (.joinE (.cst (.str (S ""))) Yq) [some (.int c),some (.int d),some (.str AZ),none,none,none,none,none,none]=some (.str x)/\x.length=8/\∀ c∈x.cps.toList,97<=c/\c<=122:=by
 have e:pe F Yq [some (.int c),some (.int d),some (.str AZ),none,none,none,none,none,none]=some (.lst true ((List.range 8).map fun(k:Nat)=>P.str (lcS ((c / ((k:Int)+1)) % 26).toNat))):=by
  unfold Yq;exact XY (enc:=fun(k:Nat)=>P.int (k:Int)) (g:=fun(k:Nat)=>P.str (lcS ((c / ((k:Int)+1)) % 26).toNat)) (x:=.int 8) (l:=List.range 8) rfl rfl (by decide) (fun k hk=>by
   have hk:=bM.mp hk;show pe F (.ix (.var 2) (.bin .Mod (.bin .FloorDiv (.var 1) (.bin .Add (.var 0) (.cst (.int 1)))) (.cst (.int 26)))) [some (.int (k:Int)),some (.int c),some (.str AZ)]=_;have e1:pe F (.bin .Mod (.bin .FloorDiv (.var 1) (.bin .Add (.var 0) (.cst (.int 1)))) (.cst (.int 26))) [some (.int (k:Int)),some (.int c),some (.str AZ)]=some (.int ((c / ((k:Int)+1)) % 26)):=by
    rw[ZE,ZE,ZE,show pe F (.var 1) [some (.int (k:Int)),some (.int c),some (.str AZ)]=some (.int c) from rfl,show pe F (.var 0) [some (.int (k:Int)),some (.int c),some (.str AZ)]=some (.int (k:Int)) from rfl,YJ,YJ,Yg,Yg,Ob,Ob,Ob,X8,Ob,YC,if_pos (by omega),Ob,Ob,Xq,if_pos (by decide)]
   rw[pe_ix,e1];obtain⟨i,hi,h,hv⟩:=ZiV (v:=c / ((k:Int)+1));show ixP (.str AZ) (.int ((c / ((k:Int)+1)) % 26))=_;rw[h,hv,bT])
 obtain⟨x,e2,e3⟩:=Zb2 (ds:=(List.range 8).map fun(k:Nat)=>((c / ((k:Int)+1)) % 26).toNat) (fun i hi=>by
  obtain⟨k,_,rfl⟩:=aT.mp hi;have:=bZ (c / ((k:Int)+1)) (show(0:Int) < 26 by decide)
  have:=bU (c / ((k:Int)+1)) (show(26:Int)≠0 by decide)
  omega) (by rw[aD];decide)
 refine⟨x,?_,?_,fun a ha=>?_⟩
 ·rw[JM,e]
  rw[bB]at e2;exact e2
 ·rw[<-Zk,e3,aD,aD];rfl
 ·rw[e3]at ha
  obtain⟨i,hi,rfl⟩:=aT.mp ha;obtain⟨k,_,rfl⟩:=aT.mp hi;have:=bZ (c / ((k:Int)+1)) (show(0:Int) < 26 by decide)
  have:=bU (c / ((k:Int)+1)) (show(26:Int)≠0 by decide)
  show 97<=97+_/\97+_<=122;omega
def nlP(N:Nat->Str):P:=.lst true ((List.range 5).map fun k=>.str (N k))
theorem Znm{b:Str}(hb:b.length=8)(hl:∀ c∈b.cps.toList,97<=c/\c<=122)(h1:π[1]?=some (some (.int d)))(h4:π[4]?=some (some (.str b))):∃ N,Nms N/\pe F YX π=some (nlP N):=by
 obtain⟨q,hq,hq4⟩:∃ q:Nat,d / 4 % 4=(q:Int)/\q < 4:=⟨(d / 4 % 4).toNat,by omega,by omega⟩
 refine⟨fun k=>tkS b (1+q+k),Nms.of (fun i hi=>?_) (fun i j hi hj e=>?_),?_⟩
 ·have l:(tkS b (1+q+i)).length=1+q+i:=by
   rw[<-Zk];show(b.cps.toList.take (1+q+i)).toArray.toList.length=_;rw[bO,bJ,Zk,hb];omega
  refine⟨fun c hc=>hl c ?_,by omega,by omega⟩
  have hc:c∈(b.cps.toList.take (1+q+i)).toArray.toList:=hc;rw[bO]at hc;exact dW hc
 ·have:=congrArg (fun x:Str=>x.cps.toList.length) e
  simp only[tkS,bO,bJ,Zk,hb]at this;omega
 ·unfold YX
  exact XY (enc:=fun(k:Nat)=>P.int (k:Int)) (g:=fun(k:Nat)=>P.str (tkS b (1+q+k))) (x:=.int 5) (l:=List.range 5) rfl rfl (by decide) (fun k hk=>by
   have hk:=bM.mp hk;have en:Xk π [4,1] (.int (k:Int))=[some (.int (k:Int)),some (.str b),some (.int d)]:=by
    show some (P.int (k:Int)) :: [(π[4]?).join,(π[1]?).join]=_;rw[h4,h1];rfl
   rw[en];have e1:pe F (.part (.bin .Add (.bin .Add (.cst (.int 1)) (.bin .Mod (.bin .FloorDiv (.var 2) (.cst (.int 4))) (.cst (.int 4)))) (.var 0))) [some (.int (k:Int)),some (.str b),some (.int d)]=some (.int ((1+q+k:Nat):Int)):=by
    rw[ZbI,ZE,ZE,ZE,ZE,show pe F (.var 2) [some (.int (k:Int)),some (.str b),some (.int d)]=some (.int d) from rfl,show pe F (.var 0) [some (.int (k:Int)),some (.str b),some (.int d)]=some (.int (k:Int)) from rfl,YJ,YJ,Yg,Yg,Ob,Ob,Ob,YC,if_pos (by omega),Ob,Ob,Xq,if_pos (by decide),hq,Ob,X8,Ob,Ob,X8,Ob,JL]
    congr 2
   rw[pe_slice,e1,show pe F (.var 1) [some (.int (k:Int)),some (.str b),some (.int d)]=some (.str b) from rfl,Ze7];exact Zfw (by omega))
end
section
variable {n m:Nat}{F:PFn}{π:Zt}{x y:Str}{c d:Int}{N:Nat->Str}
def kwS:Li Str:=[S "go",S "put",S "if",S "mod",S "take",S "name",S "tell",S "skip"]
def kwN(i:Nat):Str:=kwS.getD i (S "go")
theorem Zlk:∀ i,i < 8->(∀ c∈(kwN i).cps.toList,97<=c/\c<=122)/\1<=(kwN i).length/\(kwN i).length<=8:=by decide +kernel
theorem Zjw:∀ i,i < 8->∀ j,j < 8->kwN i=kwN j->i=j:=by decide +kernel
theorem Zlj(h:i < 8):ixP (.lst true (kwS.map P.str)) (.int (i:Int))=some (.str (kwN i)):=by
 show atP (kwS.map P.str) (i:Int)=_;rw[Yb rfl,aQ,Lg (show i < kwS.length from h)];unfold kwN;rw[cM,Lg (show i < kwS.length from h)];rfl
theorem Znn(h1:π[1]?=some (some (.int d)))(h5:π[5]?=some (some (.lst true (kwS.map P.str)))):∃ N,Nms N/\pe F YY π=some (nlP N):=by
 have at8:∀ k:Nat,∃ i:Nat,(d / 4+(k:Int)) % 8=(i:Int)/\i < 8:=fun k=>⟨((d / 4+(k:Int)) % 8).toNat,by omega,by omega⟩
 refine⟨fun k=>kwN ((d / 4+(k:Int)) % 8).toNat,Nms.of (fun i hi=>?_) (fun i j hi hj e=>?_),?_⟩
 ·obtain⟨a,ea,ha⟩:=at8 i
  rw[ea,bT];obtain⟨q1,q2,q3⟩:=Zlk a ha;exact⟨q1,q2,q3⟩
 ·obtain⟨a,ea,ha⟩:=at8 i
  obtain⟨a',ea',ha'⟩:=at8 j;simp only[ea,ea',bT]at e;have:=Zjw a ha a' ha' e;omega
 ·unfold YY
  exact XY (enc:=fun(k:Nat)=>P.int (k:Int)) (g:=fun(k:Nat)=>P.str (kwN ((d / 4+(k:Int)) % 8).toNat)) (x:=.int 5) (l:=List.range 5) rfl rfl (by decide) (fun k hk=>by
   have en:Xk π [1,5] (.int (k:Int))=[some (.int (k:Int)),some (.int d),some (.lst true (kwS.map P.str))]:=by
    show some (P.int (k:Int)) :: [(π[1]?).join,(π[5]?).join]=_;rw[h1,h5];rfl
   rw[en];obtain⟨a,ea,ha⟩:=at8 k;have e1:pe F (.bin .Mod (.bin .Add (.bin .FloorDiv (.var 1) (.cst (.int 4))) (.var 0)) (.cst (.int 8))) [some (.int (k:Int)),some (.int d),some (.lst true (kwS.map P.str))]=some (.int (a:Int)):=by
    rw[ZE,ZE,ZE,show pe F (.var 1) [some (.int (k:Int)),some (.int d),some (.lst true (kwS.map P.str))]=some (.int d) from rfl,show pe F (.var 0) [some (.int (k:Int)),some (.int d),some (.lst true (kwS.map P.str))]=some (.int (k:Int)) from rfl,YJ,YJ,Yg,Yg,Ob,Ob,YC,if_pos (by omega),Ob,Ob,X8,Ob,Ob,Xq,if_pos (by decide),ea]
   rw[pe_ix,e1,show pe F (.var 2) [some (.int (k:Int)),some (.int d),some (.lst true (kwS.map P.str))]=some (.lst true (kwS.map P.str)) from rfl,ea,bT];exact Zlj ha)
def Zan(b:Str)(q i:Nat):Str:=tkS b q++lcS i++dpS b (q+1)
theorem VX{b:Str}{q:Nat}:(Zan b q i).cps.toList=b.cps.toList.take q++[97+i]++b.cps.toList.drop (q+1):=by
 unfold Zan;rw[ZY,ZY];show(b.cps.toList.take q).toArray.toList++[97+i]++(b.cps.toList.drop (q+1)).toArray.toList=_;rw[bO,bO]
theorem Zky{b:Str}{q k:Nat}(hb:b.length<=8)(hq:q < 8)(hi:(d / 256+(k:Int) * (1+d / 6656 % 5)) % 26=(i:Int))(hi':i < 26)(hk:k<=5)(ha:acc.length < 100) :
  px F [7] Yn [x0,some (.int d),some (.str AZ),some (.int (k:Int)),some (.str b),x5,some (.int (q:Int)),some (.lst true acc),x8]=some (.nx [x0,some (.int d),some (.str AZ),some (.int (k:Int)),some (.str b),x5,some (.int (q:Int)),some (.lst true (acc++[.str (Zan b q i)])),some (.str (lcS i))]):=by
 unfold Yn;have lk:ZI (k:Int)=true:=Xt (by omega) (by omega)
 have e1:pe F (.bin .Mod (.bin .Add (.bin .FloorDiv (.var 1) (.cst (.int 256))) (.bin .Mult (.var 3) (.bin .Add (.cst (.int 1)) (.bin .Mod (.bin .FloorDiv (.var 1) (.cst (.int 6656))) (.cst (.int 5)))))) (.cst (.int 26))) [x0,some (.int d),some (.str AZ),some (.int (k:Int)),some (.str b),x5,some (.int (q:Int)),some (.lst true acc),x8]=some (.int (i:Int)):=by
  rw[<-hi];exact Y0 (WC (Zim (v:=d) rfl (by decide) (by decide)) (Ziw (v:=(k:Int)) rfl (WC Xd (Y0 (Zim (v:=d) rfl (by decide) (by decide)) (by decide))) lk)) (by decide)
 rw[Zf,Z1 (p:=.str (lcS i)) (by rw[pe_ix,e1,show pe F (.var 2) [x0,some (.int d),some (.str AZ),some (.int (k:Int)),some (.str b),x5,some (.int (q:Int)),some (.lst true acc),x8]=some (.str AZ) from rfl,Ob,Ob,Zie hi']) rfl rfl,Ze]
 simp only[Zm,Zl];rw[Zf,X1 (xs:=acc) rfl];have lt1:(tkS b q).length<=8:=by
  rw[<-Zk];show(b.cps.toList.take q).toArray.toList.length<=8;rw[bO,bJ];omega
 have lt2:(dpS b (q+1)).length<=8:=by
  rw[<-Zk];show(b.cps.toList.drop (q+1)).toArray.toList.length<=8;rw[bO,cG,Zk];omega
 have t1:Tx F [x0,some (.int d),some (.str AZ),some (.int (k:Int)),some (.str b),x5,some (.int (q:Int)),some (.lst true acc),some (.str (lcS i))] 8 (.slice (.var 4) .nop (.part (.var 6))) (tkS b q):=⟨Zfw hb,lt1⟩;have t2:Tx F [x0,some (.int d),some (.str AZ),some (.int (k:Int)),some (.str b),x5,some (.int (q:Int)),some (.lst true acc),some (.str (lcS i))] 1 (.var 8) (lcS i):=⟨rfl,aB _⟩
 have t3:Tx F [x0,some (.int d),some (.str AZ),some (.int (k:Int)),some (.str b),x5,some (.int (q:Int)),some (.lst true acc),some (.str (lcS i))] 8 (.slice (.var 4) (.part (.bin .Add (.var 6) (.cst (.int 1)))) .nop) (dpS b (q+1)):=⟨by
  show Ys (.str b) (some ((q:Int)+1)) none=_;rw[show(q:Int)+1=((q+1:Nat):Int) by omega]
  exact ZlO hb,lt2⟩
 have c1:=(t1.add t2 (by decide)).add t3 (by decide)
 rw[c1.e,Ob,if_pos (by rw[aK (show acc.length < Zc by unfold Zc;omega)];rfl),Ze,Zo]
 rfl
theorem Zdh:∃ N,Nms N/\Zh T (n+1) 249 [.int c,.int d]=some (nlP N):=by
 rw[ZB (f:=c__law_names) rfl rfl rfl,show ZR c__law_names.body=[7] from rfl];show ∃ N,Nms N/\Yk (px (Zh T n) [7] c__law_names.body [some (.int c),some (.int d),none,none,none,none,none,none,none])=_;obtain⟨b,eb,hb,hl⟩:=Zf4 (F:=Zh T n) (c:=c) (d:=d);have hd:pe (Zh T n) (.bin .Mod (.var 1) (.cst (.int 4))) [some (.int c),some (.int d),some (.str AZ),none,some (.str b),none,none,none,none]=some (.int (d % 4)):=by
  show XH .Mod (.int d) (.int 4)=_;rw[Xq,if_pos (by decide)]
 have c0:pe (Zh T n) (.cmp .Eq (.bin .Mod (.var 1) (.cst (.int 4))) (.cst (.int 0))) [some (.int c),some (.int d),some (.str AZ),none,some (.str b),none,none,none,none]=some (.bl (decide (d % 4=0))):=by rw[Yc,hd];rfl
 have c1:pe (Zh T n) (.cmp .Eq (.bin .Mod (.var 1) (.cst (.int 4))) (.cst (.int 1))) [some (.int c),some (.int d),some (.str AZ),none,some (.str b),none,none,none,none]=some (.bl (decide (d % 4=1))):=by rw[Yc,hd];rfl
 unfold c__law_names;rw[Zf,Z1 (p:=.str AZ) (by rfl) rfl rfl,Ze]
 simp only[Zm,Zl];rw[Zf,Z1 eb rfl rfl,Ze];simp only[Zm,Zl];by_cases w0:d % 4=0
 ·obtain⟨N,hN,e⟩:=Znm (F:=Zh T n) (d:=d) hb hl (π:=[some (.int c),some (.int d),some (.str AZ),none,some (.str b),none,none,none,none]) rfl rfl
  exact⟨N,hN,by rw[Yp (by rw[c0,aK w0]) e];rfl⟩
 by_cases w1:d % 4=1
 ·obtain⟨N,hN,e⟩:=Znn (F:=Zh T n) (d:=d) (π:=[some (.int c),some (.int d),some (.str AZ),none,some (.str b),some (.lst true (kwS.map P.str)),none,none,none]) rfl rfl
  refine⟨N,hN,?_⟩;rw[ZM (by rw[c0,aO w0]),Zf,Zx,c1,aK w1,Zs,if_pos rfl,Zf,Z1 (p:=.lst true (kwS.map P.str)) (by rfl) rfl rfl,Ze]
  simp only[Zm,Zl];rw[Z4 e];rfl
 ·obtain⟨q,hq,hq8⟩:∃ q:Nat,d / 4 % 8=(q:Int)/\q < 8:=⟨(d / 4 % 8).toNat,by omega,by omega⟩
  have lb:(tkS b (1+q)).length=1+q:=by
   rw[<-Zk];show(b.cps.toList.take (1+q)).toArray.toList.length=_;rw[bO,bJ,Zk,hb];omega
  have ll:∀ c∈(tkS b (1+q)).cps.toList,97<=c/\c<=122:=fun c hc=>by
   have hc:c∈(b.cps.toList.take (1+q)).toArray.toList:=hc;rw[bO]at hc;exact hl c (dW hc)
  obtain⟨r,hr,hrq⟩:∃ r:Nat,d / 32 % ((1+q:Nat):Int)=(r:Int)/\r < 1+q:=by
   have a:=bU (d / 32) (show((1+q:Nat):Int)≠0 by omega)
   have b:=bZ (d / 32) (show(0:Int) < ((1+q:Nat):Int) by omega)
   exact⟨(d / 32 % ((1+q:Nat):Int)).toNat,by omega,by omega⟩
  have e4:pe (Zh T n) (.slice (.var 4) .nop (.part (.bin .Add (.cst (.int 1)) (.bin .Mod (.bin .FloorDiv (.var 1) (.cst (.int 4))) (.cst (.int 8)))))) [some (.int c),some (.int d),some (.str AZ),none,some (.str b),none,none,none,none]=some (.str (tkS b (1+q))):=by
   have e1:pe (Zh T n) (.part (.bin .Add (.cst (.int 1)) (.bin .Mod (.bin .FloorDiv (.var 1) (.cst (.int 4))) (.cst (.int 8))))) [some (.int c),some (.int d),some (.str AZ),none,some (.str b),none,none,none,none]=some (.int ((1+q:Nat):Int)):=by
    rw[ZbI,ZE,ZE,ZE,show pe (Zh T n) (.var 1) [some (.int c),some (.int d),some (.str AZ),none,some (.str b),none,none,none,none]=some (.int d) from rfl,YJ,YJ,YJ,Yg,Yg,Yg,Ob,Ob,Ob,YC,if_pos (by omega),Ob,Ob,Xq,if_pos (by decide),hq,Ob,X8,Ob,JL]
    congr 2
   rw[pe_slice,e1,show pe (Zh T n) (.var 4) [some (.int c),some (.int d),some (.str AZ),none,some (.str b),none,none,none,none]=some (.str b) from rfl,Ze7];exact Zfw (by omega)
  rw[ZM (by rw[c0,aO w0]),ZM (by rw[c1,aO w1]),Zf,Z1 e4 rfl rfl,Ze]
  simp only[Zm,Zl];generalize tkS b (1+q)=b' at lb ll;have e6:pe (Zh T n) (.bin .Mod (.bin .FloorDiv (.var 1) (.cst (.int 32))) (.len (.var 4))) [some (.int c),some (.int d),some (.str AZ),none,some (.str b'),none,none,none,none]=some (.int (r:Int)):=by
   have el:pe (Zh T n) (.len (.var 4)) [some (.int c),some (.int d),some (.str AZ),none,some (.str b'),none,none,none,none]=some (.int ((1+q:Nat):Int)):=by
    show(if b'.length<=Zc then some (P.int b'.length) else none)=_
    rw[if_pos (by unfold Zc;omega),lb]
   rw[ZE,ZE,el,show pe (Zh T n) (.var 1) [some (.int c),some (.int d),some (.str AZ),none,some (.str b'),none,none,none,none]=some (.int d) from rfl,YJ,Yg,Ob,Ob,YC,if_pos (by omega),Ob,Ob,Xq,if_pos (by omega),hr]
  rw[Zf,Z1 e6 rfl rfl,Ze];simp only[Zm,Zl];rw[Zf,Y5 (p:=.lst true []) (by rfl) rfl rfl,Ze]
  simp only[Zm,Zl];have ix:∀ k:Nat,∃ i:Nat,(d / 256+(k:Int) * (1+d / 6656 % 5)) % 26=(i:Int)/\i < 26:=fun k=>by
   have a:=bU (d / 256+(k:Int) * (1+d / 6656 % 5)) (show(26:Int)≠0 by decide)
   have b:=bZ (d / 256+(k:Int) * (1+d / 6656 % 5)) (show(0:Int) < 26 by decide)
   exact⟨((d / 256+(k:Int) * (1+d / 6656 % 5)) % 26).toNat,by omega,by omega⟩
  obtain⟨f,hf⟩:∃ f:Nat->Nat,∀ k:Nat,(d / 256+(k:Int) * (1+d / 6656 % 5)) % 26=(f k:Int)/\f k < 26:=⟨fun k=>Classical.choose (ix k),fun k=>Classical.choose_spec (ix k)⟩
  have len:∀ i,(Zan b' r i).cps.toList.length=1+q:=fun i=>by
   rw[VX,aH,aH,bJ,cG,cI,Zk,lb];omega
  have nms:Nms fun k=>Zan b' r (f k):=Nms.of (fun i hi=>by
   refine⟨fun a ha=>?_,by rw[<-Zk,len];omega,by rw[<-Zk,len];omega⟩
   rw[VX]at ha;rcases aR.mp ha with ha|ha
   ·rcases aR.mp ha with ha|ha
    ·exact ll a (dW ha)
    ·rw[bH.mp ha]
     have:=(hf i).2;omega
   ·exact ll a (List.mem_of_mem_drop ha)) (fun i j hi hj e=>by
   have e:=congrArg (fun x:Str=>x.cps.toList) e
   simp only[VX]at e;have e:=List.append_cancel_right e;have e:=List.append_cancel_left e;have e:f i=f j:=by
    have:=(List.cons.inj e).1;omega
   have h1:=(hf i).1;have h2:=(hf j).1;rw[e]at h1;have h3:=h1.trans h2.symm;obtain⟨s,hs,hs5⟩:∃ s:Int,1+d / 6656 % 5=s/\(s=1\/s=2\/s=3\/s=4\/s=5):=⟨_,rfl,by omega⟩
   rw[hs]at h3;rcases hs5 with rfl|rfl|rfl|rfl|rfl<;>omega)
  refine⟨_,nms,?_⟩;obtain⟨π1,l1,y3,y8,rfl⟩:=YZ (B:=fun d π=>px (Zh T n) [7] Yn (ZK π 3 d)) (fun i π=>∃ (y3 y8:Ot P),π=[some (.int c),some (.int d),some (.str AZ),y3,some (.str b'),none,some (.int (r:Int)),some (.lst true ((List.range i).map fun(k:Nat)=>P.str (Zan b' r (f k)))),y8]) (m:=5) (fun i hi π hπ=>by
   obtain⟨y3,y8,rfl⟩:=hπ;have e:=Zky (F:=Zh T n) (b:=b') (q:=r) (k:=i) (i:=f i) (acc:=(List.range i).map fun k=>.str (Zan b' r (f k))) (x0:=some (.int c)) (x5:=none) (x8:=y8) (d:=d) (by omega) (by omega) (hf i).1 (hf i).2 (by omega) (by rw[aD,bL];omega)
   refine⟨_,e,some (.int (i:Int)),some (.str (lcS (f i))),?_⟩;rw[List.range_succ,bP];rfl) (π:=[some (.int c),some (.int d),some (.str AZ),none,some (.str b'),none,some (.int (r:Int)),some (.lst true []),none]) ⟨none,none,rfl⟩
  rw[Zf,WR (n:=5) (by rfl) (by omega) rfl,l1,Ze,Z4 (by rfl)]
  rfl
end
section
variable {n m:Nat}{F:PFn}{π:Zt}{N:Nat->Str}{o:Opd}{r:Row}{p:Prog}{tk:Li (Int×Int)}
theorem ZbC(h:i < 5):ixP (nlP N) (.int (i:Int))=some (.str (N i)):=by
 show atP ((List.range 5).map fun k=>P.str (N k)) (i:Int)=_
 rw[Yb rfl,aQ,dH h];rfl
theorem Zh6{x:P}{i:Int}{v:P}(h:ixP x (.int i)=some v):px F [] c__law_word_k13.body [some (.tup [.str (S "name"),.int i]),some x]=some (.rt v):=by
 unfold c__law_word_k13;rw[Yp (v:=v) (by rfl) (by exact h)]
theorem ZkD{x:P}{c:Int}{w:Str}(h:XC (.int c)=some (.str w)):px F [] c__law_word_k13.body [some (.tup [.str (S "number"),.int c]),some x]=some (.rt (.str w)):=by
 unfold c__law_word_k13;rw[ZM (by rfl),Z4 (v:=.str w) (by rw[XZ];exact h)]
theorem VO(hm:m<=5)(h:YB m o):Zh T (n+1) 214 [Z3 o,nlP N]=some (.str (opN N o)):=by
 rw[ZB (f:=c__law_word_k13) rfl rfl rfl,show ZR c__law_word_k13.body=[] from rfl];cases o with
 |name i=>
  show Yk (px (Zh T n) [] c__law_word_k13.body [some (.tup [.str (S "name"),.int (i:Int)]),some (nlP N)])=_;rw[Zh6 (ZbC (by have:i < m:=h;omega))]
  rfl
 |num c=>
  show Yk (px (Zh T n) [] c__law_word_k13.body [some (.tup [.str (S "number"),.int c]),some (nlP N)])=_;rw[ZkD (ZaW h)];rfl
theorem Zdo{c f:CE}{v w:P}{k:Nat}(h:pe F c π=some (.bl true))(h1:pe F e π=some v)(h2:pe F f (ZK π k v)=some w):px F [] (.seq (.ite c (.seq (.set k e) (.seq (.ret f) .skip)) .skip) q) π=some (.rt w):=by
 rw[Zf,Zx,h,Zs,if_pos rfl,WD h1,Z4 h2];rfl
theorem b1:Tx F π 1 (.cst (.str (S " "))) (S " "):=Tx.cst (by decide +kernel)
theorem Zfi{y z nl:P}{v:Int}{x s a b:Str}(ex:ixP nl (.int v)=some (.str x))(ey:F 214 [y,nl]=some (.str a))(ez:F 214 [z,nl]=some (.str b))(hx:x.length<=60)(ha:a.length<=60)(hb:b.length<=60)(hs:s.length<=60):px F [] c__law_line_k13.body [some (.tup [.str (S "put"),.int v,y,.str s,z]),some nl,none]=some (.rt (.str (ln [S "put",x,a,s,b]))):=by
 unfold c__law_line_k13;have t1:∀ {w:Ot P},Tx F [some (.tup [.str (S "put"),.int v,y,.str s,z]),some nl,w] 60 (.call 214 (.aC (.ix (.var 0) (.cst (.int 2))) (.aC (.var 1) .aN)) []) a:=fun {w}=>⟨ey,ha⟩
 have t2:∀ {w:Ot P},Tx F [some (.tup [.str (S "put"),.int v,y,.str s,z]),some nl,w] 60 (.call 214 (.aC (.ix (.var 0) (.cst (.int 4))) (.aC (.var 1) .aN)) []) b:=fun {w}=>⟨ez,hb⟩
 have t3:∀ {w:Ot P},Tx F [some (.tup [.str (S "put"),.int v,y,.str s,z]),some nl,w] 60 (.ix (.var 1) (.ix (.var 0) (.cst (.int 1)))) x:=fun {w}=>⟨ex,hx⟩
 have t4:∀ {w:Ot P},Tx F [some (.tup [.str (S "put"),.int v,y,.str s,z]),some nl,w] 60 (.ix (.var 0) (.cst (.int 3))) s:=fun {w}=>⟨rfl,hs⟩
 have c1:=(((((Tx.cst (F:=F) (s:=S "put ") (j:=4) (by decide +kernel)).add (t3 (w:=none)) (by decide)).add b1 (by decide)).add t1 (by decide)).add b1 (by decide)).add t4 (by decide)
 have c2:=((⟨rfl,c1.l⟩:Tx F [some (.tup [.str (S "put"),.int v,y,.str s,z]),some nl,some (.str (S "put "++x++S " "++a++S " "++s))] (4+60+1+60+1+60) (.var 2) (S "put "++x++S " "++a++S " "++s)).add b1 (by decide)).add t2 (by decide)
 rw[Zdo (v:=.str (S "put "++x++S " "++a++S " "++s)) (by rfl) c1.e c2.e]
 congr 3
 apply Z2
 unfold ln;rw[Yz];have e:(S "put ").cps.toList=(S "put").cps.toList++(S " ").cps.toList:=by decide +kernel
 simp only[ZY,e,Y3,Ye,bN,bE]
theorem ZgE{y z nl:P}{s a b w:Str}{v:Int}(ey:F 214 [y,nl]=some (.str a))(ez:F 214 [z,nl]=some (.str b))(e3:XC (.int v)=some (.str w))(ha:a.length<=60)(hb:b.length<=60)(hs:s.length<=60)(hw:w.length<=60):px F [] c__law_line_k13.body [some (.tup [.str (S "if"),y,.str s,z,.int v]),some nl,none]=some (.rt (.str (ln [S "if",a,s,b,S "go",w]))):=by
 unfold c__law_line_k13;rw[ZM (by rfl)]
 have t1:∀ {u:Ot P},Tx F [some (.tup [.str (S "if"),y,.str s,z,.int v]),some nl,u] 60 (.call 214 (.aC (.ix (.var 0) (.cst (.int 1))) (.aC (.var 1) .aN)) []) a:=fun {u}=>⟨ey,ha⟩
 have t2:∀ {u:Ot P},Tx F [some (.tup [.str (S "if"),y,.str s,z,.int v]),some nl,u] 60 (.call 214 (.aC (.ix (.var 0) (.cst (.int 3))) (.aC (.var 1) .aN)) []) b:=fun {u}=>⟨ez,hb⟩
 have t3:∀ {u:Ot P},Tx F [some (.tup [.str (S "if"),y,.str s,z,.int v]),some nl,u] 60 (.strOf (.ix (.var 0) (.cst (.int 4)))) w:=fun {u}=>⟨by rw[XZ];exact e3,hw⟩
 have t4:∀ {u:Ot P},Tx F [some (.tup [.str (S "if"),y,.str s,z,.int v]),some nl,u] 60 (.ix (.var 0) (.cst (.int 2))) s:=fun {u}=>⟨rfl,hs⟩
 have c1:=(((((Tx.cst (F:=F) (s:=S "if ") (j:=4) (by decide +kernel)).add (t1 (u:=none)) (by decide)).add b1 (by decide)).add t4 (by decide)).add b1 (by decide)).add t2 (by decide)
 have c2:=((⟨rfl,c1.l⟩:Tx F [some (.tup [.str (S "if"),y,.str s,z,.int v]),some nl,some (.str (S "if "++a++S " "++s++S " "++b))] (4+60+1+60+1+60) (.var 2) (S "if "++a++S " "++s++S " "++b)).add (Tx.cst (s:=S " go ") (j:=4) (by decide +kernel)) (by decide)).add t3 (by decide)
 rw[Zdo (v:=.str (S "if "++a++S " "++s++S " "++b)) (by rfl) c1.e c2.e]
 congr 3
 apply Z2
 unfold ln;rw[Yz];have e:(S "if ").cps.toList=(S "if").cps.toList++(S " ").cps.toList:=by decide +kernel
 have e2:(S " go ").cps.toList=(S " ").cps.toList++((S "go").cps.toList++(S " ").cps.toList):=by decide +kernel
 simp only[ZY,e,e2,Y3,Ye,bN,bE]
theorem ZgC{w:Str}{v:Int}{nl:P}(e3:XC (.int v)=some (.str w))(hw:w.length<=60):px F [] c__law_line_k13.body [some (.tup [.str (S "go"),.int v]),some nl,none]=some (.rt (.str (ln [S "go",w]))):=by
 unfold c__law_line_k13;rw[ZM (by rfl),ZM (by rfl)]
 have t3:Tx F [some (.tup [.str (S "go"),.int v]),some nl,none] 60 (.strOf (.ix (.var 0) (.cst (.int 1)))) w:=⟨by rw[XZ];exact e3,hw⟩
 have c1:=(Tx.cst (F:=F) (s:=S "go ") (j:=4) (by decide +kernel)).add t3 (by decide)
 rw[Yp (v:=.str (S "go "++w)) (by rfl) c1.e]
 congr 3
 apply Z2
 unfold ln;rw[Yz];have e:(S "go ").cps.toList=(S "go").cps.toList++(S " ").cps.toList:=by decide +kernel
 simp only[ZY,e,Y3,Ye,bN,bE]
theorem Zc5{y nl:P}{a:Str}(ey:F 214 [y,nl]=some (.str a))(ha:a.length<=60):px F [] c__law_line_k13.body [some (.tup [.str (S "tell"),y]),some nl,none]=some (.rt (.str (ln [S "tell",a]))):=by
 unfold c__law_line_k13;rw[ZM (by rfl),ZM (by rfl),ZM (by rfl)]
 have t1:Tx F [some (.tup [.str (S "tell"),y]),some nl,none] 60 (.call 214 (.aC (.ix (.var 0) (.cst (.int 1))) (.aC (.var 1) .aN)) []) a:=⟨ey,ha⟩;have c1:=(Tx.cst (F:=F) (s:=S "tell ") (j:=5) (by decide +kernel)).add t1 (by decide)
 rw[Yp (v:=.str (S "tell "++a)) (by rfl) c1.e]
 congr 3
 apply Z2
 unfold ln;rw[Yz];have e:(S "tell ").cps.toList=(S "tell").cps.toList++(S " ").cps.toList:=by decide +kernel
 simp only[ZY,e,Y3,Ye,bN,bE]
theorem Zc2{nl:P}:px F [] c__law_line_k13.body [some (.tup [.str (S "skip")]),some nl,none]=some (.rt (.str (ln [S "skip"]))):=by
 unfold c__law_line_k13;rw[ZM (by rfl),ZM (by rfl),ZM (by rfl),ZM (by rfl),Z4 (v:=.str (S "skip")) (by rfl)]
 congr 3
theorem WP(hN:Nms N)(hm:m<=5)(h:YB m o):(opN N o).length<=60:=by
 cases o with
 |name i=>exact(hN.wd i (by have:i < m:=h;omega)).len
 |num c=>exact aF (Vb h) (by decide)
theorem ZiG{many:Nat}(hN:Nms N)(hm:m<=5)(hn:many<=100)(h:Wn m many r)(hl:WV r):Zh T (n+2) 221 [Zz r,nlP N]=some (.str (ln (woN N r))):=by
 rw[ZB (f:=c__law_line_k13) rfl rfl rfl,show ZR c__law_line_k13.body=[] from rfl];show Yk (px (Zh T (n+1)) [] c__law_line_k13.body [some (Zz r),some (nlP N),none])=_;cases r with
 |put x y s z=>
  have hx:x < 5:=by have:=h.1;omega
  rw[Zjb,Zfi (ZbC hx) (VO (n:=n) hm h.2.1) (VO (n:=n) hm h.2.2) (hN.wd x hx).len (WP hN hm h.2.1) (WP hN hm h.2.2) (aF (PSg.len hl) (by decide))]
  rfl
 |ifr y s z t=>
  have ht:t<=1000:=by have:=h.2.2;omega
  rw[Zk1,ZgE (VO (n:=n) hm h.1) (VO (n:=n) hm h.2.1) (ZbP ht) (WP hN hm h.1) (WP hN hm h.2.1) (aF (ISg.len hl) (by decide)) (aF (QQ ht) (by decide))]
  rfl
 |go t=>
  have ht:t<=1000:=by have:t<=many:=h;omega
  show Yk (px (Zh T (n+1)) [] c__law_line_k13.body [some (.tup [.str (S "go"),.int (t:Int)]),some (nlP N),none])=_;rw[ZgC (ZbP ht) (aF (QQ ht) (by decide))]
  rfl
 |tell y=>
  show Yk (px (Zh T (n+1)) [] c__law_line_k13.body [some (.tup [.str (S "tell"),Z3 y]),some (nlP N),none])=_;rw[Zc5 (VO (n:=n) hm (show YB m y from h)) (WP hN hm (show YB m y from h))];rfl
 |skip=>
  show Yk (px (Zh T (n+1)) [] c__law_line_k13.body [some (.tup [.str (S "skip")]),some (nlP N),none])=_;rw[Zc2];rfl
end
variable{w4 w5:Ot P}{ys:Li P}
section
variable {n m:Nat}{F:PFn}{π:Zt}{N:Nat->Str}{o:Opd}{r:Row}{p:Prog}{tk:Li (Int×Int)}{L:Li Str}{W:Li (Li Str)}
theorem Zkw{k:Nat}(hk:k < tk.length):(tk.map XR)[k]?=some (.tup [.int (tk.getD k (0,0)).1,.int (tk.getD k (0,0)).2]):=by
 rw[aQ,Lg hk,cM,Lg hk];rfl
def Wk(N:Nat->Str)(tk:Li (Int×Int))(i:Nat):Li Str:=if i < tk.length then twN N tk i else nmN N i
theorem Zc4{k:Nat}{a b:Int}{nl q1 q2:P}{x wa wb:Str}(hk:k < ts.length)(h:ts[k]?=some (.tup [.int a,.int b]))(ex:ixP nl (.int (k:Int))=some (.str x))(ea:XC (.int a)=some (.str wa))(eb:XC (.int b)=some (.str wb))(lx:x.length<=60)(la:wa.length<=60)(lb:wb.length<=60)(hl:ys.length < Zc) :
  px F [2,2] ZS [some (.tup [.tup ts,q1,q2]),some nl,some (.lst true ys),some (.int (k:Int)),w4,w5]=some (.nx [some (.tup [.tup ts,q1,q2]),some nl,some (.lst true (ys++[.str (ln [S "take",x,wa,wb])])),some (.int (k:Int)),some (.int a),some (.int b)]):=by
 unfold ZS;have c:pe F (.cmp .Lt (.var 3) (.len (.ix (.var 0) (.cst (.int 0))))) [some (.tup [.tup ts,q1,q2]),some nl,some (.lst true ys),some (.int (k:Int)),w4,w5]=some (.bl true):=by
  have:(k:Int) < (ts.length:Int):=by omega
  show some (P.bl (decide ((k:Int) < (ts.length:Int))))=_;rw[aK this]
 have i:pe F (.ix (.ix (.var 0) (.cst (.int 0))) (.var 3)) [some (.tup [.tup ts,q1,q2]),some nl,some (.lst true ys),some (.int (k:Int)),w4,w5]=some (.tup [.int a,.int b]):=by
  rw[pe_ix,show pe F (.ix (.var 0) (.cst (.int 0))) [some (.tup [.tup ts,q1,q2]),some nl,some (.lst true ys),some (.int (k:Int)),w4,w5]=some (.tup ts) from rfl,Ob];show atP ts (k:Int)=_;rw[Yb rfl,h]
 rw[Zf,Zx,c,Zs,if_pos rfl,Zf,Zhr i rfl,Ze,Zf];simp only[Zm,Zl];rw[X1 (xs:=ys) rfl];have t3:Tx F [some (.tup [.tup ts,q1,q2]),some nl,some (.lst true ys),some (.int (k:Int)),some (.int a),some (.int b)] 60 (.ix (.var 1) (.var 3)) x:=⟨ex,lx⟩;have t4:Tx F [some (.tup [.tup ts,q1,q2]),some nl,some (.lst true ys),some (.int (k:Int)),some (.int a),some (.int b)] 60 (.strOf (.var 4)) wa:=⟨by rw[XZ];exact ea,la⟩
 have t5:Tx F [some (.tup [.tup ts,q1,q2]),some nl,some (.lst true ys),some (.int (k:Int)),some (.int a),some (.int b)] 60 (.strOf (.var 5)) wb:=⟨by rw[XZ];exact eb,lb⟩
 have c1:=(((((Tx.cst (F:=F) (s:=S "take ") (j:=5) (by decide +kernel)).add t3 (by decide)).add b1 (by decide)).add t4 (by decide)).add b1 (by decide)).add t5 (by decide)
 have e:S "take "++x++S " "++wa++S " "++wb=ln [S "take",x,wa,wb]:=by
  apply Z2
  unfold ln;rw[Yz];have e:(S "take ").cps.toList=(S "take").cps.toList++(S " ").cps.toList:=by decide +kernel
  simp only[ZY,e,Y3,Ye,bN,bE]
 rw[c1.e,e,Ob,if_pos (by rw[aK hl];rfl),Ze,Zo,Ze,Zo]
 rfl
theorem ZcN{k:Nat}{nl q1 q2:P}{x:Str}(hk:ts.length<=k)(ex:ixP nl (.int (k:Int))=some (.str x))(lx:x.length<=60)(hl:ys.length < Zc) :
  px F [2,2] ZS [some (.tup [.tup ts,q1,q2]),some nl,some (.lst true ys),some (.int (k:Int)),w4,w5]=some (.nx [some (.tup [.tup ts,q1,q2]),some nl,some (.lst true (ys++[.str (ln [S "name",x])])),some (.int (k:Int)),w4,w5]):=by
 unfold ZS;have c:pe F (.cmp .Lt (.var 3) (.len (.ix (.var 0) (.cst (.int 0))))) [some (.tup [.tup ts,q1,q2]),some nl,some (.lst true ys),some (.int (k:Int)),w4,w5]=some (.bl false):=by
  have:¬(k:Int) < (ts.length:Int):=by omega
  show some (P.bl (decide ((k:Int) < (ts.length:Int))))=_;rw[aO this]
 rw[Zf,Zx,c,Zs,if_neg Bf,Zf,X1 (xs:=ys) rfl];have t3:Tx F [some (.tup [.tup ts,q1,q2]),some nl,some (.lst true ys),some (.int (k:Int)),w4,w5] 60 (.ix (.var 1) (.var 3)) x:=⟨ex,lx⟩;have c1:=(Tx.cst (F:=F) (s:=S "name ") (j:=5) (by decide +kernel)).add t3 (by decide)
 have e:S "name "++x=ln [S "name",x]:=by
  apply Z2
  unfold ln;rw[Yz];have e:(S "name ").cps.toList=(S "name").cps.toList++(S " ").cps.toList:=by decide +kernel
  simp only[ZY,e,Y3,Ye,bN,bE]
 rw[c1.e,e,Ob,if_pos (by rw[aK hl];rfl),Ze,Zo,Ze,Zo]
 rfl
theorem ZfZ(h:Sh p tk):Z8 N p tk=((List.range p.many).map (Wk N tk))++p.rows.map (woN N):=by
 have ht:=h.tkl;unfold Z8
 congr 1
 have e:List.range p.many=List.range (tk.length+(p.many - tk.length)):=by congr 1;omega
 rw[e,List.range_add,bP,bB]
 congr 1
 ·apply cK
  intro k hk;have hk:=bM.mp hk;show twN N tk k=Wk N tk k;rw[show Wk N tk k=twN N tk k from if_pos hk]
 ·apply cK
  intro k hk;show nmN N (tk.length+k)=Wk N tk (tk.length+k);rw[show Wk N tk (tk.length+k)=nmN N (tk.length+k) from if_neg (by omega)]
def lnP(W:Li (Li Str)):Li P:=W.map fun w=>.str (ln w)
theorem Za5(hN:Nms N)(h:Sh p tk):Zh T (n+3) 250 [Zp p,nlP N]=some (.lst true (lnP (Z8 N p tk))):=by
 have hm:=h.many;have hz:=h.size;have ht:=h.tkl;rw[ZB (f:=c__law_lines) rfl rfl rfl,show ZR c__law_lines.body=[2,2] from rfl];show Yk (px (Zh T (n+2)) [2,2] c__law_lines.body [some (Zp p),some (nlP N),none,none,none,none])=_;have ep:Zp p=.tup [.tup (tk.map XR),.int (p.many:Int),.tup (p.rows.map Zz)]:=by unfold Zp;rw[h.takes]
 unfold c__law_lines;rw[Zf,Y5 (p:=.lst true []) (by rfl) rfl rfl,Ze]
 simp only[Zm,Zl];obtain⟨π1,l1,y3,y4,y5,rfl⟩:=YZ (B:=fun d π=>px (Zh T (n+2)) [2,2] ZS (ZK π 3 d)) (fun i π=>∃ (y3 y4 y5:Ot P),π=[some (Zp p),some (nlP N),some (.lst true (lnP ((List.range i).map (Wk N tk)))),y3,y4,y5]) (m:=p.many) (fun i hi π hπ=>by
  obtain⟨y3,y4,y5,rfl⟩:=hπ;have hl:(lnP ((List.range i).map (Wk N tk))).length < Zc:=by unfold lnP;rw[aD,aD,bL];unfold Zc;omega
  have es:lnP ((List.range (i+1)).map (Wk N tk))=lnP ((List.range i).map (Wk N tk))++[.str (ln (Wk N tk i))]:=by
   unfold lnP;rw[List.range_succ,bP,bP];rfl
  rw[es,ep];have hx:=(hN.wd i (by omega)).len
  by_cases c:i < tk.length
  ·have q:=ZfC h.sm c
   rw[show Wk N tk i=twN N tk i from if_pos c];exact⟨_,Zc4 (by rw[aD];exact c) (Zkw c) (ZbC (by omega)) (ZaW q.1) (ZaW q.2.1) hx (aF (Vb q.1) (by decide)) (aF (Vb q.2.1) (by decide)) hl,_,_,_,rfl⟩
  ·rw[show Wk N tk i=nmN N i from if_neg c]
   exact⟨_,ZcN (by rw[aD];omega) (ZbC (by omega)) hx hl,_,_,_,rfl⟩) (π:=[some (Zp p),some (nlP N),some (.lst true []),none,none,none]) ⟨none,none,none,rfl⟩
 rw[Zf,WR (n:=p.many) (by rfl) (by omega) rfl,l1,Ze]
 have ec:pe (Zh T (n+2)) YW [some (Zp p),some (nlP N),some (.lst true (lnP ((List.range p.many).map (Wk N tk)))),y3,y4,y5]=some (.lst true (p.rows.map fun r=>P.str (ln (woN N r)))):=by
  unfold YW;exact XY (elt:=.call 221 (.aC (.var 0) (.aC (.var 1) .aN)) []) (fr:=[1]) (enc:=Zz) (g:=fun r=>P.str (ln (woN N r))) (show pe (Zh T (n+2)) (.ix (.var 0) (.cst (.int 2))) _=some (.tup (p.rows.map Zz)) from rfl) rfl (by omega) (fun r hr=>ZiG (n:=n) hN hm (by omega) (h.rows r hr).1 (h.rows r hr).2)
 have el:lnP ((List.range p.many).map (Wk N tk))++(p.rows.map fun r=>P.str (ln (woN N r)))=lnP (Z8 N p tk):=by
  rw[ZfZ h];unfold lnP;rw[bP,bB (f:=woN N)];rfl
 rw[Z4 (v:=.lst true (lnP (Z8 N p tk))) (by
  rw[ZE,ec,show pe (Zh T (n+2)) (.var 2) [some (Zp p),some (nlP N),some (.lst true (lnP ((List.range p.many).map (Wk N tk)))),y3,y4,y5]=some (.lst true (lnP ((List.range p.many).map (Wk N tk)))) from rfl,Ob,Ob,<-el];refine if_pos ⟨rfl,?_⟩;unfold lnP;rw[aD,aD,aD,bL];unfold Zc;omega)]
 rfl
theorem Mix.snoc{w:Li Str}(h:Mix L W):Mix (L++[ln w]) (W++[w]):=by
 induction h with
 |nil=>exact .line .nil
 |pass hx r ih=>exact .pass hx ih
 |line r ih=>exact .line ih
theorem Mix.rep{x:Str}(hx:x=S ""\/stW x (S "#")=true)(h:Mix L W)(k:Nat):Mix (L++List.replicate k x) W:=by
 induction h with
 |nil=>
  induction k with
  |zero=>exact .nil
  |succ k ih=>exact .pass hx ih
 |pass hy r ih=>exact .pass hy ih
 |line r ih=>exact .line ih
structure TxI(W:List (List Str))(k:Nat)(L:List Str):Prop where
 mx:Mix L (W.take k)
 ch:∀ x∈L,10∉x.cps.toList
 ln:∀ x∈L,x.length<=400
 len:L.length<=2+4 * k
theorem ZgD{x:Str}:stW (S "#"++x) (S "#")=true:=by
 unfold stW;rw[ZY];show(([35]++x.cps.toList).take 1==[35])=true;rfl
theorem TxI.pass{k q:Nat}{x:Str}(h:TxI W k L)(hx:x=S ""\/stW x (S "#")=true)(hc:10∉x.cps.toList)(hl:x.length<=400)(hz:L.length+q<=2+4 * k):TxI W k (L++List.replicate q x):=by
 refine⟨h.mx.rep hx q,fun y hy=>?_,fun y hy=>?_,by rw[aH,cY];exact hz⟩
 ·rcases aR.mp hy with hy|hy
  ·exact h.ch y hy
  ·rw[List.eq_of_mem_replicate hy];exact hc
 ·rcases aR.mp hy with hy|hy
  ·exact h.ln y hy
  ·rw[List.eq_of_mem_replicate hy];exact hl
theorem JK:∀ {l:Li Str},UH (l.map P.str)=true
 |[]=>rfl
 |x :: l=>by
  show(true&&UH (l.map P.str))=true;rw[JK];rfl
theorem TxI.line{k:Nat}{w:Li Str}(h:TxI W k L)(hw:W[k]?=some w)(hc:10∉(Dp.ln w).cps.toList)(hl:(Dp.ln w).length<=366):TxI W (k+1) (L++[Dp.ln w])/\(L++[Dp.ln w]).length+3<=2+4 * (k+1):=by
 have:=h.len;refine⟨⟨?_,fun y hy=>?_,fun y hy=>?_,by rw[aH,cI];omega⟩,by rw[aH,cI];omega⟩
 ·rw[List.take_succ,hw]
  exact h.mx.snoc
 ·rcases aR.mp hy with hy|hy
  ·exact h.ch y hy
  ·rw[bH.mp hy];exact hc
 ·rcases aR.mp hy with hy|hy
  ·exact h.ln y hy
  ·rw[bH.mp hy];omega
theorem UW{l:Li Str}(h:WK e=true):YR M e (.lst true (l.map P.str))=true:=by
 show(WK e&&(noM M e||UH (l.map P.str)))=true;rw[h,JK,dI];rfl
theorem Zhm{x:Str}{v:Nat}(hv:v < 3):∃ y,ixP (.lst true [.str (S ""),.str (S "#"),.str (S "#"++x)]) (.int (v:Int))=some (.str y)/\(y=S ""\/stW y (S "#")=true)/\(10∉x.cps.toList->10∉y.cps.toList)/\(x.length<=366->y.length<=400):=by
 have:v=0\/v=1\/v=2:=by omega
 rcases this with rfl|rfl|rfl
 ·exact⟨S "",rfl,.inl rfl,fun _=>by decide +kernel,fun _=>by decide +kernel⟩
 ·exact⟨S "#",rfl,.inr (by decide +kernel),fun _=>by decide +kernel,fun _=>by decide +kernel⟩
 ·refine⟨S "#"++x,rfl,.inr ZgD,fun h z=>?_,fun h=>?_⟩
  ·rw[ZY]at z
   rcases aR.mp z with z|z
   ·exact absurd z (by decide +kernel)
   ·exact h z
  ·rw[<-Zk,ZY,aH,Zk,Zk]
   have:(S "#").length=1:=by decide +kernel
   omega
theorem Zc6{k:Nat}{w:Li Str}{c:Int}(hW:W.length<=17)(h:TxI W k L)(hw:W[k]?=some w)(hc:10∉(Dp.ln w).cps.toList)(hl:(Dp.ln w).length<=366) :
  ∃ L' y4,px F [2] Yy [some (.lst true (lnP W)),some (.int c),some (.lst true (L.map P.str)),some (.int (k:Int)),x4]=some (.nx [some (.lst true (lnP W)),some (.int c),some (.lst true (L'.map P.str)),some (.int (k:Int)),y4])/\TxI W (k+1) L':=by
 have hk:=Zr hw;obtain⟨t1,t2⟩:=h.line hw hc hl;have hlen:=h.len;obtain⟨L1,hL1⟩:∃ L1,L1=L++[Dp.ln w]:=⟨_,rfl⟩;rw[<-hL1]at t1 t2;have ix:∀ {x2 x4:Ot P},pe F (.ix (.var 0) (.var 3)) [some (.lst true (lnP W)),some (.int c),x2,some (.int (k:Int)),x4]=some (.str (Dp.ln w)):=fun {x2 x4}=>by
  show atP (lnP W) (k:Int)=_;unfold lnP;rw[Yb rfl,aQ,hw];rfl
 have l2:ZI 2=true:=by decide
 unfold Yy;rw[Zf,X1 (xs:=L.map P.str) rfl,ix,Ob,if_pos (by rw[aK (show(L.map P.str).length < Zc by rw[aD];unfold Zc;omega)];rfl),Ze]
 simp only[Zm,Zl];have e1:L.map P.str++[P.str (Dp.ln w)]=L1.map P.str:=by rw[hL1,bP];rfl
 rw[e1];have ew:pe F (.bin .Mod (.bin .FloorDiv (.var 1) (.bin .Add (.cst (.int 3)) (.bin .Mult (.cst (.int 2)) (.var 3)))) (.cst (.int 9))) [some (.lst true (lnP W)),some (.int c),some (.lst true (L1.map P.str)),some (.int (k:Int)),x4]=some (.int (c / (3+2 * (k:Int)) % 9)):=by
  refine Y0 ?_ (by decide)
  rw[ZE,WC Xd (Ziw Xd (w:=(k:Int)) rfl l2),show pe F (.var 1) [some (.lst true (lnP W)),some (.int c),some (.lst true (L1.map P.str)),some (.int (k:Int)),x4]=some (.int c) from rfl,Ob,Ob,YC,if_pos (by omega)]
 obtain⟨v,hv,hv9⟩:∃ v:Nat,c / (3+2 * (k:Int)) % 9=(v:Int)/\v < 9:=by
  have a:=bU (c / (3+2 * (k:Int))) (show(9:Int)≠0 by decide)
  have b:=bZ (c / (3+2 * (k:Int))) (show(0:Int) < 9 by decide)
  exact⟨(c / (3+2 * (k:Int)) % 9).toNat,by omega,by omega⟩
 rw[hv]at ew;rw[Zf,Z1 ew rfl rfl,Ze];simp only[Zm,Zl];have cc:pe F (.cmp .Lt (.var 4) (.cst (.int 3))) [some (.lst true (lnP W)),some (.int c),some (.lst true (L1.map P.str)),some (.int (k:Int)),some (.int (v:Int))]=some (.bl (decide ((v:Int) < 3))):=rfl;by_cases hv3:v < 3
 ·obtain⟨y,ey,y1,y2,y3⟩:=Zhm (x:=Dp.ln w) hv3
  obtain⟨q,hq,hq3⟩:∃ q:Nat,1+c / (5+(k:Int)) % 3=(q:Int)/\q<=3:=by
   have a:=bU (c / (5+(k:Int))) (show(3:Int)≠0 by decide)
   have b:=bZ (c / (5+(k:Int))) (show(0:Int) < 3 by decide)
   exact⟨(1+c / (5+(k:Int)) % 3).toNat,by omega,by omega⟩
  have en:pe F (.bin .Add (.cst (.int 1)) (.bin .Mod (.bin .FloorDiv (.var 1) (.bin .Add (.cst (.int 5)) (.var 3))) (.cst (.int 3)))) [some (.lst true (lnP W)),some (.int c),some (.lst true (L1.map P.str)),some (.int (k:Int)),some (.int (v:Int))]=some (.int (q:Int)):=by
   rw[<-hq];refine WC Xd (Y0 ?_ (by decide))
   rw[ZE,WC Xd (w:=(k:Int)) rfl,show pe F (.var 1) [some (.lst true (lnP W)),some (.int c),some (.lst true (L1.map P.str)),some (.int (k:Int)),some (.int (v:Int))]=some (.int c) from rfl,Ob,Ob,YC,if_pos (by omega)]
  have ec:pe F (.bin .Add (.cst (.str (S "#"))) (.ix (.var 0) (.var 3))) [some (.lst true (lnP W)),some (.int c),some (.lst true (L1.map P.str)),some (.int (k:Int)),some (.int (v:Int))]=some (.str (S "#"++Dp.ln w)):=((Tx.cst (F:=F) (s:=S "#") (j:=1) (by decide +kernel)).add ⟨ix,hl⟩ (by decide)).e
  have ei:pe F (.ix (.lstE (.aC (.cst (.str (S ""))) (.aC (.cst (.str (S "#"))) (.aC (.bin .Add (.cst (.str (S "#"))) (.ix (.var 0) (.var 3))) .aN)))) (.var 4)) [some (.lst true (lnP W)),some (.int c),some (.lst true (L1.map P.str)),some (.int (k:Int)),some (.int (v:Int))]=some (.str y):=by
   rw[pe_ix,QW,Zn,Zn,Zn,ec];exact ey
  have er:pe F (.bin .Mult (.lstE (.aC (.ix (.lstE (.aC (.cst (.str (S ""))) (.aC (.cst (.str (S "#"))) (.aC (.bin .Add (.cst (.str (S "#"))) (.ix (.var 0) (.var 3))) .aN)))) (.var 4)) .aN)) (.bin .Add (.cst (.int 1)) (.bin .Mod (.bin .FloorDiv (.var 1) (.bin .Add (.cst (.int 5)) (.var 3))) (.cst (.int 3))))) [some (.lst true (lnP W)),some (.int c),some (.lst true (L1.map P.str)),some (.int (k:Int)),some (.int (v:Int))]=some (.lst true (List.replicate q (.str y))):=by
   rw[ZE,en,QW,Zn,ei];show XH .Mult (.lst true [.str y]) (.int (q:Int))=_;rw[Jb,if_pos (by omega),bT]
  have e2:L1.map P.str++List.replicate q (P.str y)=(L1++List.replicate q y).map P.str:=by rw[bP,List.map_replicate]
  have ea:pe F (.bin .Add (.var 2) (.bin .Mult (.lstE (.aC (.ix (.lstE (.aC (.cst (.str (S ""))) (.aC (.cst (.str (S "#"))) (.aC (.bin .Add (.cst (.str (S "#"))) (.ix (.var 0) (.var 3))) .aN)))) (.var 4)) .aN)) (.bin .Add (.cst (.int 1)) (.bin .Mod (.bin .FloorDiv (.var 1) (.bin .Add (.cst (.int 5)) (.var 3))) (.cst (.int 3)))))) [some (.lst true (lnP W)),some (.int c),some (.lst true (L1.map P.str)),some (.int (k:Int)),some (.int (v:Int))]=some (.lst true ((L1++List.replicate q y).map P.str)):=by
   rw[ZE,er,show pe F (.var 2) [some (.lst true (lnP W)),some (.int c),some (.lst true (L1.map P.str)),some (.int (k:Int)),some (.int (v:Int))]=some (.lst true (L1.map P.str)) from rfl,Ob,Ob,Zdp,if_pos (by rw[aD,cY];unfold Zc;omega),e2]
  refine⟨L1++List.replicate q y,some (.int (v:Int)),?_,t1.pass y1 (y2 hc) (y3 hl) (by omega)⟩
  rw[Zf,Zx,cc,aK (by omega),Zs,if_pos rfl,Zf,Y5 ea rfl (UW rfl),Ze,Zo,Ze,Zo]
  rfl
 ·refine⟨L1,some (.int (v:Int)),?_,t1⟩
  rw[Zf,Zx,cc,aO (by omega),Zs,if_neg Bf,Zo,Ze,Zo]
theorem Zdj{c:Int}(hW:W.length<=17)(hw:∀ w∈W,10∉(Dp.ln w).cps.toList/\(Dp.ln w).length<=366):∃ L,Mix L W/\(∀ x∈L,10∉x.cps.toList)/\(gl NL L).length<=Zc/\Zh T (n+1) 251 [.lst true (lnP W),.int c]=some (.str (gl NL L)):=by
 rw[ZB (f:=c__law_text) rfl rfl rfl,show ZR c__law_text.body=[2] from rfl];show ∃ L,Mix L W/\(∀ x∈L,10∉x.cps.toList)/\(gl NL L).length<=Zc/\Yk (px (Zh T n) [2] c__law_text.body [some (.lst true (lnP W)),some (.int c),none,none,none])=_;obtain⟨q,hq,hq3⟩:∃ q:Nat,c % 3=(q:Int)/\q < 3:=⟨(c % 3).toNat,by omega,by omega⟩
 have e0:pe (Zh T n) (.bin .Mult (.lstE (.aC (.cst (.str (S ""))) .aN)) (.bin .Mod (.var 1) (.cst (.int 3)))) [some (.lst true (lnP W)),some (.int c),none,none,none]=some (.lst true ((List.replicate q (S "")).map P.str)):=by
  rw[ZE,Y0 (v:=c) rfl (by decide),hq]
  show XH .Mult (.lst true [.str (S "")]) (.int (q:Int))=_;rw[Jb,if_pos (by omega),bT,List.map_replicate]
 have I0:TxI W 0 (List.replicate q (S "")):=by
  have z:TxI W 0 []:=⟨.nil,(fun _ z=>nomatch z),(fun _ z=>nomatch z),by rw[dB];omega⟩
  exact z.pass (.inl rfl) (by decide +kernel) (by decide +kernel) (by rw[dB];omega)
 unfold c__law_text;rw[Zf,Y5 e0 rfl (UW rfl),Ze];simp only[Zm,Zl];obtain⟨π1,l1,L,y3,y4,rfl,IL⟩:=YZ (B:=fun d π=>px (Zh T n) [2] Yy (ZK π 3 d)) (fun i π=>∃ (L:Li Str) (y3 y4:Ot P),π=[some (.lst true (lnP W)),some (.int c),some (.lst true (L.map P.str)),y3,y4]/\TxI W i L) (m:=W.length) (fun i hi π hπ=>by
  obtain⟨L,y3,y4,rfl,IL⟩:=hπ;have ew:=Lg hi;obtain⟨a,b⟩:=hw _ (dE hi);obtain⟨L',z4,e,I'⟩:=Zc6 (F:=Zh T n) (c:=c) (x4:=y4) hW IL ew a b;exact⟨_,e,L',_,_,rfl,I'⟩) (π:=[some (.lst true (lnP W)),some (.int c),some (.lst true ((List.replicate q (S "")).map P.str)),none,none]) ⟨_,none,none,rfl,I0⟩
 have ll:=IL.len;have hj:(gl NL L).length<=L.length * 401:=Zd7 (j:=400) (by decide +kernel) IL.ln
 have mx:=IL.mx;rw[dU]at mx;have h80:L.length * 401<=80 * 401:=Nat.mul_le_mul_right _ (by omega)
 refine⟨L,mx,IL.ch,by unfold Zc;omega,?_⟩
 rw[Zf,WR (n:=W.length) (by
  show some (P.int ((lnP W).length:Int))=_;unfold lnP;rw[aD]) (by omega) rfl,l1,Ze,Z4 (v:=.str (gl NL L)) (by
  rw[JM];exact Zg1 (s:=NL) (m:=true) (j:=400) (by decide +kernel) IL.ln (by omega))]
 rfl
end
mutual
def kP:P->P
 |.tup ps=>.lst true (kPs ps)
 |.str _=>.str (S "text")
 |_=>.str (S "whole")
def kPs:Li P->Li P
 |[]=>[]
 |p :: ps=>kP p :: kPs ps
end
theorem QG:∀ {ps:Li P},kPs ps=ps.map kP
 |[]=>rfl
 |p :: ps=>by
  show kP p :: kPs ps=_;rw[QG];rfl
def cdP:Nat->P->Bool
 |_,.int _=>true
 |_,.str _=>true
 |n+1,.tup ps=>decide (ps.length<=900)&&ps.all (cdP n)
 |_,_=>false
section
variable {n m s w a:Nat}{N:Nat->Str}{st st':Za}{F:PFn}{p:Prog}{tk:Li (Int×Int)}{fz:Fz}
theorem Ziq{i:Int}(h:F 17 [.int i]=some (.bl true)):px F [] c__law_kinds.body [some (.int i)]=some (.rt (.str (S "whole"))):=by
 unfold c__law_kinds;rw[ZM (by rfl),ZM (by rfl),Z4 (v:=.str (S "whole")) (by
  rw[pe_ix,Ze5,show pe F (.call 17 (.aC (.var 0) .aN) []) [some (.int i)]=some (.bl true) from h];rfl)]
theorem Zir{x:Str}:px F [] c__law_kinds.body [some (.str x)]=some (.rt (.str (S "text"))):=by
 unfold c__law_kinds;rw[ZM (by rfl),Yp (v:=.str (S "text")) (by rfl) (by rfl)]
theorem Zli{ps:Li P}(hl:ps.length<=900)(h:∀ q∈ps,F 246 [q]=some (kP q)):px F [] c__law_kinds.body [some (.tup ps)]=some (.rt (.lst true (ps.map kP))):=by
 unfold c__law_kinds;rw[Yp (v:=.lst true (ps.map kP)) (by rfl) (by
  unfold XN;exact XY (enc:=id) (g:=kP) (x:=.tup ps) (l:=ps) rfl (by rw[List.map_id];rfl) (by omega) (fun q hq=>h q hq))]
theorem Za4:∀ {k:Nat}{q:P},cdP k q=true->Zh T (n+k+2) 246 [q]=some (kP q):=by
 have one:∀ {N:Nat}{q v:P},px (Zh T N) [] c__law_kinds.body [some q]=some (.rt v)->Zh T (N+1) 246 [q]=some v:=by
  intro N q v h;rw[ZB (f:=c__law_kinds) rfl rfl rfl,show ZR c__law_kinds.body=[] from rfl];show Yk (px (Zh T N) [] c__law_kinds.body [some q])=_;rw[h];rfl
 intro k
 induction k with
 |zero=>
  intro q h;cases q with
  |int i=>exact one (Ziq (Za3 (n:=n) rfl))
  |str x=>exact one Zir
  |_=>exact nomatch h
 |succ k ih=>
  intro q h;cases q with
  |int i=>exact one (Ziq (Za3 (n:=n+k+1) rfl))
  |str x=>exact one Zir
  |tup ps=>
   have h:(decide (ps.length<=900)&&ps.all (cdP k))=true:=h;rw[Ba,aS,aW]at h;show _=some (P.lst true (kPs ps));rw[QG];exact one (Zli h.1 fun q hq=>ih (h.2 q hq))
  |_=>exact nomatch h
theorem Zi5{r:Row}:cdP 6 (Zz r)=true:=by
 cases r with
 |put x y s z=>cases y<;>cases z<;>rfl
 |ifr y s z t=>cases y<;>cases z<;>rfl
 |tell y=>cases y<;>rfl
 |_=>rfl
theorem ZdI(h:Sh p tk):cdP 8 (Zp p)=true:=by
 have hz:=h.size;have ht:=h.tk3;have a:cdP 7 (.tup (tk.map XR))=true:=by
  show(decide ((tk.map XR).length<=900)&&(tk.map XR).all (cdP 6))=true;rw[aK (by rw[aD];omega),aW.mpr fun q hq'=>by obtain⟨a,_,rfl⟩:=aT.mp hq';rfl]
  rfl
 have b:cdP 7 (.tup (p.rows.map Zz))=true:=by
  show(decide ((p.rows.map Zz).length<=900)&&(p.rows.map Zz).all (cdP 6))=true;rw[aK (by rw[aD];omega),aW.mpr fun q hq'=>by obtain⟨a,_,rfl⟩:=aT.mp hq';exact Zi5]
  rfl
 unfold Zp;rw[h.takes];show(true&&(cdP 7 (.tup (tk.map XR))&&(true&&(cdP 7 (.tup (p.rows.map Zz))&&true))))=true;rw[a,b];rfl
theorem ZdJ:∀ {n:Nat}{q:P},cdP n q=true->okP n q=true
 |0,.int _,_=>rfl
 |0,.str _,_=>rfl
 |n+1,.int _,_=>rfl
 |n+1,.str _,_=>rfl
 |n+1,.tup ps,h=>by
  have h:(decide (ps.length<=900)&&ps.all (cdP n))=true:=h;rw[Ba,aW]at h;have z:∀ {qs:Li P},(∀ q∈qs,cdP n q=true)->UJ n qs=true:=by
   intro qs
   induction qs with
   |nil=>exact fun _=>rfl
   |cons q qs ih=>
    intro h;show(okP n q&&UJ n qs)=true;rw[ZdJ (h q Ls),ih fun r hr=>h r (Lm _ hr)];rfl
  exact z h.2
def kd:Nat->P->Bool
 |_,.str _=>true
 |n+1,.lst _ ps=>ps.all (kd n)
 |_,_=>false
theorem Zis:∀ {n:Nat}{q:P},cdP n q=true->kd n (kP q)=true
 |0,.int _,_=>rfl
 |0,.str _,_=>rfl
 |n+1,.int _,_=>rfl
 |n+1,.str _,_=>rfl
 |n+1,.tup ps,h=>by
  have h:(decide (ps.length<=900)&&ps.all (cdP n))=true:=h;rw[Ba,aW]at h;show(kPs ps).all (kd n)=true;rw[QG,aW];intro q hq;obtain⟨r,hr,rfl⟩:=aT.mp hq;exact Zis (h.2 r hr)
theorem Zgr:∀ {n:Nat}{q:P}{x y:D},kd n q=true->Rel fz st q x->Rel fz st q y->dEq st n x y=true:=by
 intro n
 induction n with
 |zero=>
  intro q x y h hx hy;cases q with
  |str z=>
   cases hx;cases hy;show decide (z=z)=true;exact aK rfl
  |_=>exact nomatch h
 |succ n ih=>
  intro q x y h hx hy;cases q with
  |str z=>
   cases hx;cases hy;show decide (z=z)=true;exact aK rfl
  |lst m ps=>
   cases hx with
   |lst h1 h2 h3=>
    cases hy with
    |lst g1 g2 g3=>
     have h:ps.all (kd n)=true:=h;rw[aW]at h;have z:∀ {qs:Li P}{ds es:Li D},(∀ q∈qs,kd n q=true)->Rels fz st qs ds->Rels fz st qs es->Zap (dEq st n) ds es=true:=by
      intro qs
      induction qs with
      |nil=>intro ds es _ a b;cases a;cases b;rfl
      |cons q qs ih2=>
       intro ds es h a b;cases a with
       |cons a1 a2=>
        cases b with
        |cons b1 b2=>
         show(dEq st n _ _&&Zap (dEq st n) _ _)=true;rw[ih (h q Ls) a1 b1,ih2 (fun r hr=>h r (Lm _ hr)) a2 b2];rfl
     unfold dEq;rw[h2,g2];exact z h h3 g3
  |_=>exact nomatch h
theorem ZeE{x y:D}(h:Sh p tk)(hx:Rel fz st (kP (Zp p)) x)(hy:Rel fz st (kP (Zp p)) y):Wj .NotEq x y st=some false:=by
 have hd:=Zgr (Zis (ZdI h)) hx hy;have e:kP (Zp p)=.lst true [.lst true (kPs (tk.map XR)),.str (S "whole"),.lst true (kPs (p.rows.map Zz))]:=by
  unfold Zp;rw[h.takes];rfl
 rw[e]at hx hy;cases hx with
 |lst a1 a2 a3=>
  rename_i i ds;cases hy with
  |lst b1 b2 b3=>
   rename_i j es;show(Zct st i (.lst j)).map not=_;have:Zct st i (.lst j)=some true:=by
    show(match (o2 (fun(c d:YU)=>Qv c.2 d.2) st[i]? st[j]?).join with
     |some k=>some k
     |none=>if dEq st 8 (.lst i) (.lst j)=true then some true else none)=_
    rw[a2,b2];have:Qv ds es=none:=by
     cases a3 with
     |cons a3 a4=>
      cases a3;cases b3 with
      |cons b3 b4=>
       cases b3;rfl
    show(match Qv ds es with
     |some k=>some k
     |none=>if dEq st 8 (.lst i) (.lst j)=true then some true else none)=_
    rw[this];exact if_pos hd
   rw[this];rfl
theorem ZeF{ρ:Env}{a b:CE}(h:Sh p tk)(ha:∀ S:Za,ev (run T (n+11)) a ρ S=some (.tup [toD (Zp p)],S))(hb:∀ S:Za,ev (run T (n+11)) b ρ S=some (.tup [toD (Zp p)],S)):∃ st',ev (run T (n+11)) (.cmp .NotEq (.call 246 a []) (.call 246 b [])) ρ st=some (.bl false,st')/\Grw st st':=by
 have R3:∀ {S:Za},Rels (Al S) S [Zp p] [toD (Zp p)]:=fun {S}=>.cons (Xw (Vr h)) .nil
 obtain⟨v4,st4,e4,q4,r4⟩:=We (n:=n+11) (st:=st) (Za4 (n:=n+1) (ZdI h)) R3;obtain⟨v5,st5,e5,q5,r5⟩:=We (n:=n+11) (st:=st4) (Za4 (n:=n+1) (ZdI h)) R3;have r4':Rel (Al st5) st5 (kP (Zp p)) v4:=r4.mono (fun i hi=>aP hi q5.len) fun i hi=>q5.old i hi
 exact⟨st5,Yd ((Y7 (ha st)).trans e4) ((Y7 (hb st4)).trans e5) (ZeE h r4' r5),q4.trans q5⟩
def oth(p:Prog):Prog:=⟨p.takes,p.many,(p.rows.take 1).filter fun r=>match r with
 |.put _ _ _ _=>true
 |.tell _=>true
 |.skip=>true
 |_=>false⟩
theorem ZjO(h:Sh p tk):Sh (oth p) tk:=by
 refine⟨fun r hr=>?_,h.takes,h.sm,h.tkl,h.tk3,h.many,?_⟩
 ·obtain⟨h1,h2⟩:=cW.mp (show r∈(p.rows.take 1).filter _ from hr)
  obtain⟨a,b⟩:=h.rows r (dW h1);cases r with
  |put x y s z=>exact⟨a,b⟩
  |tell y=>exact⟨a,b⟩
  |skip=>exact⟨a,b⟩
  |go t=>cases h2
  |ifr y s z t=>cases h2
 ·have h1:(oth p).rows.length<=(p.rows.take 1).length:=List.length_filter_le _ _
  have h2:(p.rows.take 1).length<=1:=by rw[bJ];omega
  omega
theorem Zcx(h:Sh p tk):pe F XQ [x0,some (Zp p),x2,x3,x4,none,none,none]=some (.lst true ((oth p).rows.map Zz)):=by
 have hz:=h.size;have es:pe F (.slice (.ix (.var 1) (.cst (.int 2))) .nop (.part (.cst (.int 1)))) [x0,some (Zp p),x2,x3,x4,none,none,none]=some (.tup ((p.rows.take 1).map Zz)):=by
  show Ys (.tup (p.rows.map Zz)) none (some 1)=_;cases p.rows with
  |nil=>rfl
  |cons r rs=>cases rs<;>rfl
 unfold XQ;rw[QU,es];rw[Ob,show Xp false (.tup ((p.rows.take 1).map Zz))=some ((p.rows.take 1).map Zz) from rfl,Ob,if_pos (by rw[aD,bJ];omega)]
 have z:∀ rs:Li Row,YF (fun q=>pe F (.var 0) (Xk [x0,some (Zp p),x2,x3,x4,none,none,none] [] q)) (fun q=>pe F (.cmp .In (.ix (.var 0) (.cst (.int 0))) (.tupE (.aC (.cst (.str (S "put"))) (.aC (.cst (.str (S "tell"))) (.aC (.cst (.str (S "skip"))) .aN))))) (Xk [x0,some (Zp p),x2,x3,x4,none,none,none] [] q)) (rs.map Zz)=some ((rs.filter fun r=>match r with
   |.put _ _ _ _=>true
   |.tell _=>true
   |.skip=>true
   |_=>false).map Zz):=fun rs=>by
  induction rs with
  |nil=>rfl
  |cons r rs ih=>
   rw[aM];unfold YF;rw[ih];cases r<;>rfl
 rw[z];rfl
theorem ZjN{a b c:P}(h1:pe F (.var 1) π=some (.tup [a,b,c]))(h5:pe F (.var 5) π=some (.lst true rs)):pe F (.bin .Add (.slice (.var 1) .nop (.part (.cst (.int 2)))) (.tupE (.aC (.tOf (.var 5)) .aN))) π=some (.tup [a,b,.tup rs]):=by
 rw[ZE,pe_slice,h1,Wc,Zn,ZaI,h5];rfl
theorem ZlJ(hN:Nms N):Nms fun k=>N (4 - k):=⟨fun i h=>hN.nm _ (by omega),fun i h=>hN.wd _ (by omega),fun i j hi hj e=>by
 have:=hN.inj (4 - i) (4 - j) (by omega) (by omega) e
 omega,fun i h=>hN.vis _ (by omega)⟩
theorem Zj4:rsP false (nlP N)=some (nlP fun k=>N (4 - k)):=rfl
theorem JD(hN:Nms N)(h:Sh p tk):(Z8 N p tk).length<=17/\∀ w∈Z8 N p tk,10∉(ln w).cps.toList/\(ln w).length<=366:=by
 have hz:=h.size;have hm:=h.many;refine⟨by rw[Qn h];omega,fun w hw=>?_⟩
 obtain⟨k,ws,rfl,hk,hv,h5⟩:=JC hN h hw;exact⟨Zlm (Uy hk) hv,Zby hk hv h5⟩
theorem Zmd{a b:CE}(h:Sh p tk)(ha:pe F a π=some (Zp p))(hb:pe F b π=some (Zp p)):pe F (.cmp .NotEq a b) π=some (.bl false):=by
 rw[Yc,ha,hb];exact Vl (ZdJ (ZdI h))
theorem V6{S:Za}(h:Sh p tk):Wj .Eq (toD (Zp p)) (toD (Zp p)) S=some true/\Wj .NotEq (toD (Zp p)) (toD (Zp p)) S=some false:=by
 have R:Rel (Al S) S (Zp p) (toD (Zp p)):=Xw (Vr h);have e:Zgi .Eq (Zp p) (Zp p)=some true:=by
  have:=Vl (xs:=[p.takes,.int (p.many:Int),.tup (p.rows.map Zz)]) (ZdJ (ZdI h));have z:((eqP (Zp p) (Zp p)).map not).map P.bl=some (.bl false):=this;cases q:eqP (Zp p) (Zp p) with
  |none=>rw[q]at z;cases z
  |some k=>
   rw[q]at z;cases k with
   |true=>exact q
   |false=>cases z
 have e1:Wj .Eq (toD (Zp p)) (toD (Zp p)) S=some true:=Zar R R e;exact⟨e1,by show(eqS S _ _).map not=_;rw[show eqS S (toD (Zp p)) (toD (Zp p))=some true from e1];rfl⟩
end
theorem ZcD{ns:Li Int}(hn:ns.length<=63):∃ st',run T (n+12) 16 [.lst 0] [(false,ns.map .int)]=some (.bl true,st'):=by
 obtain⟨p,tk,sh,ep⟩:=ZiI (n:=n+7) (ns:=ns);have hz:=sh.size;have rs:∀ {st:Za},st[0]?=some (false,ns.map D.int)->Rel (Al st) st (.lst false (ns.map P.int)) (.lst 0):=fun {st} h=>.lst (Zr h) h (by
  have:ns.map D.int=Uw (ns.map P.int):=by rw[Xo,bB];rfl
  rw[this];exact WS (Xm fun q hq=>by obtain⟨a,_,rfl⟩:=aT.mp hq;rfl))
 have h0:([(false,ns.map D.int)]:Za)[0]?=some (false,ns.map D.int):=rfl;obtain⟨st1,e1,x1⟩:=WA (n:=n+11) (st:=[(false,ns.map D.int)]) ep (Vr sh) (ds:=[.lst 0,.int 12]) (.cons (rs h0) (.cons (.int 12) .nil));have h1:=x1.get h0;have cell:∀ k:Nat,k<=100->∃ c,Zh T (n+11) 27 [.lst false (ns.map .int),.int (k:Int)]=some (.int c):=fun k hk=>⟨_,Zdf (n:=n+10) (k:=k) rfl (by omega)⟩
 obtain⟨c2,ec2⟩:=cell 32 (by decide)
 obtain⟨c3,ec3⟩:=cell 33 (by decide)
 obtain⟨c4,ec4⟩:=cell 34 (by decide)
 obtain⟨c5,ec5⟩:=cell 35 (by decide)
 -- the names
 obtain⟨N,hN,eN⟩:=Zdh (n:=n+10) (c:=c2) (d:=c3);obtain⟨v2,st2,e2,x2,r2⟩:=YS (n:=n+11) (st:=st1) (e:=(.call 249 (.aC (.call 27 (.aC (.var 0) (.aC (.cst (.int 32)) .aN)) []) (.aC (.call 27 (.aC (.var 0) (.aC (.cst (.int 33)) .aN)) []) .aN)) [])) (π:=[some (.lst false (ns.map .int)),none,none,none,none,none,none,none]) (ρ:=[some (.lst 0),some (toD (Zp p)),none,none,none,none,none,none]) (p:=nlP N) (by
  rw[pe_call,Zn,Zn,show pe (Zh T (n+11)) (.call 27 (.aC (.var 0) (.aC (.cst (.int 32)) .aN)) []) [some (.lst false (ns.map .int)),none,none,none,none,none,none,none]=some (.int c2) from ec2,show pe (Zh T (n+11)) (.call 27 (.aC (.var 0) (.aC (.cst (.int 33)) .aN)) []) [some (.lst false (ns.map .int)),none,none,none,none,none,none,none]=some (.int c3) from ec3]
  exact eN) (EA.yes (rs h1) (EA.no (EA.no (EA.no (EA.no (EA.no (EA.no (EA.no EA.nil))))))))
 have h2:=x2.get h1;have keep:∀ {st st':Za},Grw st st'->Rel (Al st) st (nlP N) v2->Rel (Al st') st' (nlP N) v2:=fun x r=>r.mono (fun i hi=>aP hi x.len) fun i hi=>x.old i hi
 -- the text
 obtain⟨lw,lk⟩:=JD hN sh;obtain⟨L,mx,ch,tl,eL⟩:=Zdj (n:=n+10) (c:=c4) lw lk;obtain⟨tx,htx⟩:∃ tx,tx=gl NL L:=⟨_,rfl⟩;have eLn:Zh T (n+11) 250 [Zp p,nlP N]=some (.lst true (lnP (Z8 N p tk))):=Za5 (n:=n+8) hN sh;obtain⟨v3,st3,e3,x3,r3⟩:=YS (n:=n+11) (st:=st2) (e:=(.call 251 (.aC (.call 250 (.aC (.var 1) (.aC (.var 2) .aN)) []) (.aC (.call 27 (.aC (.var 0) (.aC (.cst (.int 34)) .aN)) []) .aN)) [])) (π:=[some (.lst false (ns.map .int)),some (Zp p),some (nlP N),none,none,none,none,none]) (ρ:=[some (.lst 0),some (toD (Zp p)),some v2,none,none,none,none,none]) (p:=.str tx) (by
  rw[htx,UQ ((UQ rfl rfl).trans eLn) ((UQ rfl rfl).trans ec4)];exact eL) (EA.yes (rs h2) (EA.yes (Xw (Vr sh)) (EA.yes r2 (EA.no (EA.no (EA.no (EA.no (EA.no EA.nil))))))))
 cases WB (p:=.str tx) rfl r3
 have h3:=x3.get h2
 -- it is read
 obtain⟨st4,e4,x4⟩:=Ql hN (n:=n+2) (st:=st3) sh mx ch tl;rw[<-htx]at e4;have h4:=x4.get h3;obtain⟨st5,e5,x5⟩:=ZeF (n:=n) (ρ:=[some (.lst 0),some (toD (Zp p)),some v2,some (.str tx),some (toD (Zp p)),none,none,none]) (st:=st4) (a:=.aC (.var 4) .aN) (b:=.aC (.var 1) .aN) sh (fun S=>rfl) (fun S=>rfl)
 have h5:=x5.get h4
 -- the other program
 have so:=ZjO sh;obtain⟨v6,st6,e6,x6,r6⟩:=YS (n:=n+11) (st:=st5) (Zcx (F:=Zh T (n+11)) (x0:=none) (x2:=none) (x3:=none) (x4:=none) sh) (ρ:=[some (.lst 0),some (toD (Zp p)),some v2,some (.str tx),some (toD (Zp p)),none,none,none]) (EA.no (EA.yes (Xw (Vr sh)) (EA.no (EA.no (EA.no (EA.no (EA.no (EA.no EA.nil))))))));have h6:=x6.get h5;obtain⟨v7,st7,e7,x7,r7⟩:=YS (n:=n+11) (st:=st6) (e:=(.bin .Add (.slice (.var 1) .nop (.part (.cst (.int 2)))) (.tupE (.aC (.tOf (.var 5)) .aN)))) (π:=[none,some (Zp p),none,none,none,some (.lst true ((oth p).rows.map Zz)),none,none]) (ρ:=[some (.lst 0),some (toD (Zp p)),some v2,some (.str tx),some (toD (Zp p)),some v6,none,none]) (p:=Zp (oth p)) (by exact ZjN rfl rfl) (EA.no (EA.yes (Xw (Vr sh)) (EA.no (EA.no (EA.no (EA.yes r6 (EA.no (EA.no EA.nil))))))))
 cases WB (Vr so) r7
 have h7:=x7.get h6;have r2':=keep (((((x3.trans x4).trans x5).trans x6).trans x7)) r2;have hR:=ZlJ hN;obtain⟨lw',lk'⟩:=JD hR so;have eLo:Zh T (n+11) 250 [Zp (oth p),nlP fun k=>N (4 - k)]=some (.lst true (lnP (Z8 (fun k=>N (4 - k)) (oth p) tk))):=Za5 (n:=n+8) hR so
 obtain⟨v8,st8,e8,x8,r8⟩:=YS (n:=n+11) (st:=st7) (e:=(.call 250 (.aC (.var 6) (.aC (.rs false (.var 2)) .aN)) [])) (π:=[none,none,some (nlP N),none,none,none,some (Zp (oth p)),none]) (ρ:=[some (.lst 0),some (toD (Zp p)),some v2,some (.str tx),some (toD (Zp p)),some v6,some (toD (Zp (oth p))),none]) (p:=.lst true (lnP (Z8 (fun k=>N (4 - k)) (oth p) tk))) (by
  rw[UQ (x:=Zp (oth p)) (y:=nlP fun k=>N (4 - k)) rfl (by rw[ZlE,show pe (Zh T (n+11)) (.var 2) [none,none,some (nlP N),none,none,none,some (Zp (oth p)),none]=some (nlP N) from rfl,Ob,Zj4])]
  exact eLo) (EA.no (EA.no (EA.yes r2' (EA.no (EA.no (EA.no (EA.yes (Xw (Vr so)) (EA.no EA.nil))))))))
 have h8:=x8.get h7;obtain⟨L',mx',ch',tl',eL'⟩:=Zdj (n:=n+10) (c:=c5) lw' lk';obtain⟨ty,hty⟩:∃ ty,ty=gl NL L':=⟨_,rfl⟩;obtain⟨v9,st9,e9,x9,r9⟩:=YS (n:=n+11) (st:=st8) (e:=(.call 251 (.aC (.var 7) (.aC (.call 27 (.aC (.var 0) (.aC (.cst (.int 35)) .aN)) []) .aN)) [])) (π:=[some (.lst false (ns.map .int)),none,none,none,none,none,none,some (.lst true (lnP (Z8 (fun k=>N (4 - k)) (oth p) tk)))]) (ρ:=[some (.lst 0),some (toD (Zp p)),some v2,some (.str tx),some (toD (Zp p)),some v6,some (toD (Zp (oth p))),some v8]) (p:=.str ty) (by
  rw[pe_call,Zn,Zn,show pe (Zh T (n+11)) (.call 27 (.aC (.var 0) (.aC (.cst (.int 35)) .aN)) []) [some (.lst false (ns.map .int)),none,none,none,none,none,none,some (.lst true (lnP (Z8 (fun k=>N (4 - k)) (oth p) tk)))]=some (.int c5) from ec5,hty]
  exact eL') (EA.yes (rs h8) (EA.no (EA.no (EA.no (EA.no (EA.no (EA.no (EA.yes r8 EA.nil))))))))
 cases WB (p:=.str ty) rfl r9
 obtain⟨st10,e10,x10⟩:=Ql hR (n:=n+2) (st:=st9) so mx' ch' tl';rw[<-hty]at e10;obtain⟨st11,e11,x11⟩:=Ql hN (n:=n+2) (st:=st10) sh mx ch tl;rw[<-htx]at e11;refine⟨st11,ZaM (d:=c_law_k13) rfl rfl ?_⟩;show ex (run T (n+11)) (.seq _ (.seq _ (.seq _ (.seq _ (.seq _ (.seq _ (.seq _ (.seq _ (.seq _ (.seq _ .skip)))))))))) [some (.lst 0),none,none,none,none,none,none,none] [(false,ns.map D.int)]=_
 rw[Zw (XD ((Y7 (xs:=[.lst 0,.int 12]) (st':=[(false,ns.map D.int)]) (by rfl)).trans e1))]
 show ex (run T (n+11)) _ [some (.lst 0),some (toD (Zp p)),none,none,none,none,none,none] st1=_;rw[Zw (XD e2)];show ex (run T (n+11)) _ [some (.lst 0),some (toD (Zp p)),some v2,none,none,none,none,none] st2=_;rw[Zw (XD e3)];show ex (run T (n+11)) _ [some (.lst 0),some (toD (Zp p)),some v2,some (.str tx),none,none,none,none] st3=_;rw[Zw (XD ((Y7 (xs:=[.str tx]) (st':=st3) (by rfl)).trans e4))]
 show ex (run T (n+11)) _ [some (.lst 0),some (toD (Zp p)),some v2,some (.str tx),some (toD (Zp p)),none,none,none] st4=_;rw[Zw ((Vk ((Zk3 (Yd (st1:=st4) (st2:=st4) (u:=toD (Zp p)) (w:=toD (Zp p)) (by rfl) (by rfl) (V6 sh).2)).trans e5)).trans ZF)]
 rw[Zw (XD e6)];show ex (run T (n+11)) _ [some (.lst 0),some (toD (Zp p)),some v2,some (.str tx),some (toD (Zp p)),some v6,none,none] st6=_;rw[Zw (XD e7)];show ex (run T (n+11)) _ [some (.lst 0),some (toD (Zp p)),some v2,some (.str tx),some (toD (Zp p)),some v6,some (toD (Zp (oth p))),none] st7=_;rw[Zw (XD e8)];show ex (run T (n+11)) _ [some (.lst 0),some (toD (Zp p)),some v2,some (.str tx),some (toD (Zp p)),some v6,some (toD (Zp (oth p))),some v8] st8=_
 rw[Zw ((Vk (Yd ((Y7 (YQ e9 V4 (by decide))).trans e10) (st2:=st10) (w:=toD (Zp (oth p))) (by rfl) (V6 so).2)).trans ZF)]
 exact Xy (UA (Yd ((Y7 (xs:=[.str tx]) (st':=st10) (by rfl)).trans e11) (st2:=st11) (w:=toD (Zp p)) (by rfl) (V6 sh).1))
end Dp


namespace PySem.W.Fast
def tw10032419965080006002:=0
def tw10193683053881593550:=0
def tw10262425632310320829:=0
def tw10423794988174088235:=0
def tw10443660881783164186:=0
def tw10478460052295149836:=0
def tw10534679595907737385:=0
def tw10568364869679726029:=0
def tw10594231622576467186:=0
def tw10617660128943279419:=0
def tw10625479273391519822:=0
def tw10883428357768097442:=0
def tw1119542073088288709:=0
def tw11314751103836629902:=0
def tw11328025449327435596:=0
def tw11358358899204219257:=0
def tw11467450585040354531:=0
def tw11612901530939320398:=0
def tw11653845641432863433:=0
def tw11659587711410235880:=0
def tw11694959556987453350:=0
def tw11720890747345502237:=0
def tw11788389017865234360:=0
def tw11824321297991217059:=0
def tw11846095229686384347:=0
def tw11851166012905862101:=0
def tw11877446668719973152:=0
def tw11907270079478402882:=0
def tw11968695323583170246:=0
def tw1203938050401268082:=0
def tw12050347362652436137:=0
def tw12150796642215798489:=0
def tw12283296338260766166:=0
def tw12353078972612938794:=0
def tw1244228172748984917:=0
def tw12793178409080096580:=0
def tw12837272020583314622:=0
def tw12846668373458067603:=0
def tw12948020622303414316:=0
def tw12959361613140243700:=0
def tw13153517901731349204:=0
def tw13156866225228637391:=0
def tw13169549192720384456:=0
def tw13178809705810964000:=0
def tw13191823313053491385:=0
def tw13203615952458161042:=0
def tw13355697250978202361:=0
def tw13501516800750566338:=0
def tw13540108403935474571:=0
def tw13540842475898943712:=0
def tw13687333700291013410:=0
def tw13768608204086058863:=0
def tw13868314146518215939:=0
def tw13879404371295215400:=0
def tw13932933619394287791:=0
def tw14049741621010927030:=0
def tw14055088274951513183:=0
def tw14081943800282760544:=0
def tw14086201040144029632:=0
def tw14106278293256682583:=0
def tw14204212876415131790:=0
def tw14294711091653788837:=0
def tw14346977157622435579:=0
def tw14356642879266967821:=0
def tw14486379846817750503:=0
def tw14567764021257369674:=0
def tw14581272200024883467:=0
def tw14698793806859164726:=0
def tw1473140720723605440:=0
def tw14871585217459820581:=0
def tw14964405310405946135:=0
def tw15014629852242911633:=0
def tw15163075976478215926:=0
def tw15194482652050532335:=0
def tw15212988819137778241:=0
def tw15583731827444409588:=0
def tw15642473821657930681:=0
def tw15711234414917815685:=0
def tw15758904574494838306:=0
def tw15768560594568040335:=0
def tw15804925640360347776:=0
def tw1581641028816363852:=0
def tw15872942798917751914:=0
def tw16022718599698219492:=0
def tw16116191233150741025:=0
def tw16117432175150019616:=0
def tw16127904886691309506:=0
def tw16202323800029470451:=0
def tw16272087318162310490:=0
def tw1630051061515645652:=0
def tw16413290638069819496:=0
def tw16433323198301534564:=0
def tw16463297379478681147:=0
def tw16468346431122748843:=0
def tw16475144596790854261:=0
def tw16553999351146036559:=0
def tw16586223615353196431:=0
def tw16743955631522749478:=0
def tw16761454406900579209:=0
def tw16816924078402914701:=0
def tw16836542998744527850:=0
def tw16901437950564090291:=0
def tw16999109427974646424:=0
def tw17001715370138368854:=0
def tw1702599067146944391:=0
def tw17043806353838154197:=0
def tw17134051986313380297:=0
def tw17136733505029721686:=0
def tw17153003146863601364:=0
def tw17178009182264428818:=0
def tw17325239396653823623:=0
def tw17340696068690951278:=0
def tw17486131258169324048:=0
def tw1752523616546451382:=0
def tw17577173576912764414:=0
def tw17739116072339169439:=0
def tw17977161733246343649:=0
def tw18017966530253414552:=0
def tw18046163655057757258:=0
def tw18101653510603107778:=0
def tw18124351276388461201:=0
def tw18277845453907875989:=0
def tw1833680679072885840:=0
def tw1844024714155049491:=0
def tw1846318201806856670:=0
def tw1939037239921360608:=0
def tw2005343157117922597:=0
def tw2048898854761300114:=0
def tw2158040877880255313:=0
def tw2323879710704815784:=0
def tw232910020789565395:=0
def tw2337916432000713205:=0
def tw2370337373620520681:=0
def tw2385010424286230281:=0
def tw2460845921453759299:=0
def tw2690243180333194754:=0
def tw2747456667856274985:=0
def tw2864682720681895825:=0
def tw288349479611470701:=0
def tw3009953835497160183:=0
def tw3059665449446038262:=0
def tw3062575471470273657:=0
def tw3347098771373006524:=0
def tw342883582219545534:=0
def tw343285383772051887:=0
def tw3467364671499608818:=0
def tw3634202717569646679:=0
def tw3808902127042730553:=0
def tw3881917622084198488:=0
def tw3901773967280434442:=0
def tw3927503004661428603:=0
def tw3946367391048756830:=0
def tw4024099470268962289:=0
def tw4286422739080897262:=0
def tw4371294067738358873:=0
def tw4377656038471632285:=0
def tw4423146937277088300:=0
def tw4445098789065670284:=0
def tw4521744981447710816:=0
def tw454860034773475354:=0
def tw4601822051032869057:=0
def tw4678218412424786941:=0
def tw4821617364249503038:=0
def tw4866256532854776374:=0
def tw5015650058845383061:=0
def tw5056442327690831060:=0
def tw5177767495253826157:=0
def tw5213544349582048496:=0
def tw5228063037781451898:=0
def tw5497591693822691160:=0
def tw5804536767166063968:=0
def tw5875535778779198399:=0
def tw5880244464704055186:=0
def tw5908760080674216814:=0
def tw5991341214037539685:=0
def tw600291492481360760:=0
def tw6252649597066022216:=0
def tw6435040268197447712:=0
def tw6509535564181954497:=0
def tw656790645438119963:=0
def tw6611735032256253460:=0
def tw6866389523801759572:=0
def tw6936168160695700421:=0
def tw7084771143789745274:=0
def tw7157546946425060407:=0
def tw7297404647938566332:=0
def tw7363803138607968687:=0
def tw737102004391086588:=0
def tw7495802471264493224:=0
def tw7777423006655833780:=0
def tw7790487263655262196:=0
def tw7906329411174245235:=0
def tw7987454745737524308:=0
def tw80304849942600267:=0
def tw8114585035376394978:=0
def tw8183387232904775445:=0
def tw8214375633906922651:=0
def tw8427493533129649529:=0
def tw8662047205663999961:=0
def tw8821859802485290398:=0
def tw8836677334706325800:=0
def tw9022500403641658026:=0
def tw9300849031065315881:=0
def tw9489641217186387376:=0
def tw954204155718306306:=0
def tw956885041172272707:=0
def tw9662698498614359443:=0
def tw9662840621836056230:=0
def tw9727292037315878566:=0
def tw9858834440742623083:=0
def tw9879313555516821113:=0
def tw9927722030033657128:=0
end PySem.W.Fast
namespace Dp
open PySem L2
noncomputable def top(i:Nat):Stmt:=PySem.Challenge.pw_fakehunt_k13_texts_read.main.body.getD i (.Pass ⟨0,0,0,0⟩)
noncomputable def G:Gs:=[(S "Draft",GV.cls 237 [(S "__init__",238,1),(S "has_room",239,2),(S "read_line",240,3),(S "read_name",241,3),(S "read_row",242,3),(S "check_places",243,1),(S "told",244,1)] [237]),(S "HALF",GV.cst (.int 1000000000)),(S "RING",GV.cst (.int 2000000000)),(S "PUT_SIGNS",GV.cst (.kt [(S "+"),(S "-"),(S "*"),(S "/"),(S "mod")])),(S "IF_SIGNS",GV.cst (.kt [(S "<"),(S "<="),(S "="),(S ">="),(S ">"),(S "!=")])),(S "around",GV.fn 0 1 []),(S "LETTERS",GV.cst (.str (S "abcdefghijklmnopqrstuvwxyz"))),(S "FIGURES",GV.cst (.str (S "0123456789"))),(S "is_made_of",GV.fn 209 3 []),(S "is_name",GV.fn 210 1 []),(S "are_figures",GV.fn 211 2 []),(S "number_in",GV.fn 212 1 []),(S "place_in",GV.fn 213 1 []),(S "FORMS",GV.dct [(S "take"),(S "name"),(S "put"),(S "if"),(S "go"),(S "tell"),(S "skip")] [(.tup [(.str (S "name")),(.str (S "number")),(.str (S "number"))]),(.tup [(.str (S "name"))]),(.tup [(.str (S "name")),(.str (S "operand")),(.str (S "put sign")),(.str (S "operand"))]),(.tup [(.str (S "operand")),(.str (S "if sign")),(.str (S "operand")),(.str (S "go")),(.str (S "place"))]),(.tup [(.str (S "place"))]),(.tup [(.str (S "operand"))]),(.tup [])]),(S "MOST_TAKES",GV.cst (.int 3)),(S "MOST_NAMES",GV.cst (.int 5)),(S "MOST_ROWS",GV.cst (.int 12)),(S "fits",GV.fn 232 2 []),(S "is_line",GV.fn 233 1 []),(S "names_read",GV.fn 234 1 []),(S "operand_in",GV.fn 235 2 []),(S "row_of",GV.fn 236 2 []),(S "read",GV.fn 245 1 []),(S "_law_whole",GV.fn 17 1 []),(S "_law_cell_at",GV.fn 27 2 []),(S "_law_small_by",GV.fn 19 1 []),(S "_law_operand",GV.fn 28 2 []),(S "_law_row",GV.fn 29 4 []),(S "_law_program",GV.fn 30 2 []),(S "_law_names",GV.fn 249 2 []),(S "_law_word",GV.fn 214 2 []),(S "_law_line",GV.fn 221 2 []),(S "_law_lines",GV.fn 250 2 []),(S "_law_text",GV.fn 251 2 []),(S "_law_kinds",GV.fn 246 1 []),(S "_law_read",GV.fn 248 1 []),(S "law",GV.fn 16 1 []),(S "len",GV.blt),(S "range",GV.blt),(S "tuple",GV.blt),(S "list",GV.blt),(S "int",GV.blt),(S "bool",GV.blt),(S "str",GV.blt),(S "min",GV.blt),(S "max",GV.blt),(S "isinstance",GV.blt),(S "all",GV.blt),(S "any",GV.blt),(S "zip",GV.blt),(S "sorted",GV.blt),(S "enumerate",GV.blt),(S "set",GV.blt)]
noncomputable def WM(i k:Nat):Stmt:=match top i with
 |.ClassDef _ _ _ b _ _ _ _ _ _ _=>b.getD k (.Pass ⟨0,0,0,0⟩)
 |s=>s
abbrev Cmp(i:Nat)(N ps:Li Str)(c:CS):Prop:=VJ G (top i) N ps c
local macro_rules
 |`(tactic| trivial)=>`(tactic| exact⟨⟨rfl,rfl,rfl,by decide +kernel,rfl,by decide +kernel,by decide +kernel⟩,by unfold L2.Loc;decide +kernel,by kernel_rfl⟩)
theorem ZmS:Cmp 12 [S "number"] [S "number"] c_around.body:=by trivial
theorem ZmT:Cmp 16 [S "word",S "signs",S "most"] [S "word",S "signs",S "most"] c_is_made_of.body:=by trivial
theorem ZmU:Cmp 17 [S "word"] [S "word"] c_is_name.body:=by trivial
theorem ZmV:Cmp 18 [S "word",S "most"] [S "word",S "most"] c_are_figures.body:=by trivial
theorem ZmW:Cmp 19 [S "word",S "figures",S "number"] [S "word"] c_number_in.body:=by trivial
theorem ZmX:Cmp 20 [S "word"] [S "word"] c_place_in.body:=by trivial
theorem ZmY:Cmp 26 [S "word",S "kind"] [S "word",S "kind"] c_fits.body:=by trivial
theorem ZmZ:Cmp 27 [S "words",S "kinds"] [S "words"] c_is_line.body:=by trivial
theorem Zm0:Cmp 28 [S "words",S "names",S "word",S "kind"] [S "words"] c_names_read.body:=by trivial
theorem Zm1:Cmp 29 [S "word",S "names"] [S "word",S "names"] c_operand_in.body:=by trivial
theorem Zm2:Cmp 30 [S "words",S "names",S "things",S "word",S "kind"] [S "words",S "names"] c_row_of.body:=by trivial
theorem Zm3:Cmp 32 [S "text",S "draft",S "line",S "signs"] [S "text"] c_read.body:=by trivial
theorem Zm4:Cmp 34 [S "_law_found"] [S "_law_found"] c__law_whole.body:=by trivial
theorem Zm5:Cmp 35 [S "_law_script",S "_law_k"] [S "_law_script",S "_law_k"] c__law_cell_at.body:=by trivial
theorem Zm6:Cmp 36 [S "_law_cell",S "_law_some"] [S "_law_cell"] c__law_small_by.body:=by trivial
theorem Zm7:Cmp 37 [S "_law_number",S "_law_many"] [S "_law_number",S "_law_many"] c__law_operand.body:=by trivial
theorem Zm8:Cmp 38 [S "_law_cell",S "_law_more",S "_law_many",S "_law_size",S "_law_one",S "_law_other",S "_law_sign",S "_law_at",S "_law_x"] [S "_law_cell",S "_law_more",S "_law_many",S "_law_size"] c__law_row.body:=by trivial
theorem Zm9:Cmp 39 [S "_law_script",S "_law_most",S "_law_head",S "_law_taken",S "_law_many",S "_law_size",S "_law_rows",S "_law_k",S "_law_cell",S "_law_takes",S "_law_low",S "_law_high"] [S "_law_script",S "_law_most"] c__law_program_k11.body:=by trivial
theorem Zna:Cmp 40 [S "_law_cell",S "_law_more",S "_law_letters",S "_law_k",S "_law_base",S "_law_some",S "_law_at",S "_law_names_here",S "_law_letter"] [S "_law_cell",S "_law_more"] c__law_names.body:=by trivial
theorem Znb:Cmp 41 [S "_law_operand_here",S "_law_names_here"] [S "_law_operand_here",S "_law_names_here"] c__law_word_k13.body:=by trivial
theorem Znc:Cmp 42 [S "_law_row_here",S "_law_names_here",S "_law_some"] [S "_law_row_here",S "_law_names_here"] c__law_line_k13.body:=by trivial
theorem Znd:Cmp 43 [S "_law_program_here",S "_law_names_here",S "_law_lines_here",S "_law_k",S "_law_low",S "_law_high"] [S "_law_program_here",S "_law_names_here"] c__law_lines.body:=by trivial
theorem Zne:Cmp 44 [S "_law_lines_here",S "_law_cell",S "_law_some",S "_law_k",S "_law_way"] [S "_law_lines_here",S "_law_cell"] c__law_text.body:=by trivial
theorem Znf:Cmp 45 [S "_law_thing"] [S "_law_thing"] c__law_kinds.body:=by trivial
theorem Zng:Cmp 46 [S "_law_some",S "_law_found"] [S "_law_some"] c__law_read.body:=by trivial
theorem ZlH:Cmp 47 [S "_law_script",S "_law_program_here",S "_law_names_here",S "_law_some",S "_law_found",S "_law_first",S "_law_other",S "_law_lines_here"] [S "_law_script"] c_law_k13.body:=by trivial
theorem ZjU:VJ G (WM 31 0) [S "self"] [S "self"] c_Draft___init__.body:=by trivial
theorem ZjV:VJ G (WM 31 1) [S "self",S "word",S "ahead"] [S "self",S "word"] c_Draft_has_room.body:=by trivial
theorem ZjW:VJ G (WM 31 2) [S "self",S "words",S "line"] [S "self",S "words",S "line"] c_Draft_read_line.body:=by trivial
theorem ZjX:VJ G (WM 31 3) [S "self",S "words",S "line"] [S "self",S "words",S "line"] c_Draft_read_name.body:=by trivial
theorem ZjY:VJ G (WM 31 4) [S "self",S "words",S "line",S "name",S "row"] [S "self",S "words",S "line"] c_Draft_read_row.body:=by trivial
theorem ZjZ:VJ G (WM 31 5) [S "self",S "line",S "place"] [S "self"] c_Draft_check_places.body:=by trivial
theorem Zj0:VJ G (WM 31 6) [S "self"] [S "self"] c_Draft_told.body:=by trivial
@[reducible] noncomputable def tab (l:Li (Nat×Ad)):ClsTab:=⟨fun i=>(l.lookup i).getD 0⟩
section
variable [ct:ClsTab]
theorem ZiR{Pm:Params}{K:Fg}{h:Heap}{mg:Str->Ot vL}{fa:Ad}(X:K.In h)(G0:h.Ns mainGlobals mg)(hfa:mg "law"=some (.ref fa)){C0:Ad}{t1:Tok}{t2:Tok}{A3:Ad}{ob3:Obj}{on3:Nat}{t3_0:Tok}{t3_1:Tok}{t3_2:Tok}{t3_3:Tok}{t3_4:Tok}{A4:Ad}{ob4:Obj}{on4:Nat}{t4_0:Tok}{t4_1:Tok}{t4_2:Tok}{t4_3:Tok}{t4_4:Tok}{t4_5:Tok}{t6:Tok}{t7:Tok}{A13:Ad}{ob13:Obj}{ep13:Nat}{t13_0:Tok}{B13_0:Ad}{bo13_0:Obj}{bn13_0:Nat}{u13_0_0:Tok}{u13_0_1:Tok}{u13_0_2:Tok}{t13_1:Tok}{B13_1:Ad}{bo13_1:Obj}{bn13_1:Nat}{u13_1_0:Tok}{t13_2:Tok}{B13_2:Ad}{bo13_2:Obj}{bn13_2:Nat}{u13_2_0:Tok}{u13_2_1:Tok}{u13_2_2:Tok}{u13_2_3:Tok}{t13_3:Tok}{B13_3:Ad}{bo13_3:Obj}{bn13_3:Nat}{u13_3_0:Tok}{u13_3_1:Tok}{u13_3_2:Tok}{u13_3_3:Tok}{u13_3_4:Tok}{t13_4:Tok}{B13_4:Ad}{bo13_4:Obj}{bn13_4:Nat}{u13_4_0:Tok}{t13_5:Tok}{B13_5:Ad}{bo13_5:Obj}{bn13_5:Nat}{u13_5_0:Tok}{t13_6:Tok}{B13_6:Ad}{bo13_6:Obj}{bn13_6:Nat}{t14:Tok}{t15:Tok}{t16:Tok}
(yz0:ClsTab.ca 237=C0)
  (y0:ClsAt K "Draft" C0) (w0_238:MtAt K C0 "__init__" "Draft.__init__" (WM 31 0)) (w0_239:MtAt K C0 "has_room" "Draft.has_room" (WM 31 1)) (w0_240:MtAt K C0 "read_line" "Draft.read_line" (WM 31 2)) (w0_241:MtAt K C0 "read_name" "Draft.read_name" (WM 31 3)) (w0_242:MtAt K C0 "read_row" "Draft.read_row" (WM 31 4)) (w0_243:MtAt K C0 "check_places" "Draft.check_places" (WM 31 5)) (w0_244:MtAt K C0 "told" "Draft.told" (WM 31 6))
  (g1:PySem.W.nsIn K mainGlobals "HALF"=some (some (.int (1000000000) t1)))
  (g2:PySem.W.nsIn K mainGlobals "RING"=some (some (.int (2000000000) t2)))
  (g3:PySem.W.nsIn K mainGlobals "PUT_SIGNS"=some (some (.ref A3))) (d3:K.lookup A3=some ob3) (f3c:ob3.cls=.type "tuple") (f3d:ob3.dict=none) (e3:ob3.data=.seq #[.str "+" t3_0,.str "-" t3_1,.str "*" t3_2,.str "/" t3_3,.str "mod" t3_4] on3)
  (g4:PySem.W.nsIn K mainGlobals "IF_SIGNS"=some (some (.ref A4))) (d4:K.lookup A4=some ob4) (f4c:ob4.cls=.type "tuple") (f4d:ob4.dict=none) (e4:ob4.data=.seq #[.str "<" t4_0,.str "<=" t4_1,.str "=" t4_2,.str ">=" t4_3,.str ">" t4_4,.str "!=" t4_5] on4)
  (a5:FnAt K "around" (top 12))
  (g6:PySem.W.nsIn K mainGlobals "LETTERS"=some (some (.str (S "abcdefghijklmnopqrstuvwxyz") t6)))
  (g7:PySem.W.nsIn K mainGlobals "FIGURES"=some (some (.str (S "0123456789") t7)))
  (a8:FnAt K "is_made_of" (top 16))
  (a9:FnAt K "is_name" (top 17))
  (a10:FnAt K "are_figures" (top 18))
  (a11:FnAt K "number_in" (top 19))
  (a12:FnAt K "place_in" (top 20))
  (g13:PySem.W.nsIn K mainGlobals "FORMS"=some (some (.ref A13))) (d13:K.lookup A13=some ob13) (f13c:ob13.cls=.type "dict") (f13d:ob13.dict=none) (f13s:ob13.slots=#[]) (e13:ob13.data=.dict #[⟨PyData.keyHash Pm "take",.str "take" t13_0,.ref B13_0⟩,⟨PyData.keyHash Pm "name",.str "name" t13_1,.ref B13_1⟩,⟨PyData.keyHash Pm "put",.str "put" t13_2,.ref B13_2⟩,⟨PyData.keyHash Pm "if",.str "if" t13_3,.ref B13_3⟩,⟨PyData.keyHash Pm "go",.str "go" t13_4,.ref B13_4⟩,⟨PyData.keyHash Pm "tell",.str "tell" t13_5,.ref B13_5⟩,⟨PyData.keyHash Pm "skip",.str "skip" t13_6,.ref B13_6⟩] ep13) (s13:(A13==sysModules)=false)
  (h13_0:K.lookup B13_0=some bo13_0) (i13_0:bo13_0.cls=.type "tuple") (j13_0:bo13_0.data=.seq #[.str ("name") u13_0_0,.str ("number") u13_0_1,.str ("number") u13_0_2] bn13_0)
  (h13_1:K.lookup B13_1=some bo13_1) (i13_1:bo13_1.cls=.type "tuple") (j13_1:bo13_1.data=.seq #[.str ("name") u13_1_0] bn13_1)
  (h13_2:K.lookup B13_2=some bo13_2) (i13_2:bo13_2.cls=.type "tuple") (j13_2:bo13_2.data=.seq #[.str ("name") u13_2_0,.str ("operand") u13_2_1,.str ("put sign") u13_2_2,.str ("operand") u13_2_3] bn13_2)
  (h13_3:K.lookup B13_3=some bo13_3) (i13_3:bo13_3.cls=.type "tuple") (j13_3:bo13_3.data=.seq #[.str ("operand") u13_3_0,.str ("if sign") u13_3_1,.str ("operand") u13_3_2,.str ("go") u13_3_3,.str ("place") u13_3_4] bn13_3)
  (h13_4:K.lookup B13_4=some bo13_4) (i13_4:bo13_4.cls=.type "tuple") (j13_4:bo13_4.data=.seq #[.str ("place") u13_4_0] bn13_4)
  (h13_5:K.lookup B13_5=some bo13_5) (i13_5:bo13_5.cls=.type "tuple") (j13_5:bo13_5.data=.seq #[.str ("operand") u13_5_0] bn13_5)
  (h13_6:K.lookup B13_6=some bo13_6) (i13_6:bo13_6.cls=.type "tuple") (j13_6:bo13_6.data=.seq #[] bn13_6)
  (g14:PySem.W.nsIn K mainGlobals "MOST_TAKES"=some (some (.int (3) t14)))
  (g15:PySem.W.nsIn K mainGlobals "MOST_NAMES"=some (some (.int (5) t15)))
  (g16:PySem.W.nsIn K mainGlobals "MOST_ROWS"=some (some (.int (12) t16)))
  (a17:FnAt K "fits" (top 26))
  (a18:FnAt K "is_line" (top 27))
  (a19:FnAt K "names_read" (top 28))
  (a20:FnAt K "operand_in" (top 29))
  (a21:FnAt K "row_of" (top 30))
  (a22:FnAt K "read" (top 32))
  (a23:FnAt K "_law_whole" (top 34))
  (a24:FnAt K "_law_cell_at" (top 35))
  (a25:FnAt K "_law_small_by" (top 36))
  (a26:FnAt K "_law_operand" (top 37))
  (a27:FnAt K "_law_row" (top 38))
  (a28:FnAt K "_law_program" (top 39))
  (a29:FnAt K "_law_names" (top 40))
  (a30:FnAt K "_law_word" (top 41))
  (a31:FnAt K "_law_line" (top 42))
  (a32:FnAt K "_law_lines" (top 43))
  (a33:FnAt K "_law_text" (top 44))
  (a34:FnAt K "_law_kinds" (top 45))
  (a35:FnAt K "_law_read" (top 46))
  (a36:FnAt K "law" (top 47))
  (z37:PySem.W.nsIn K mainGlobals "len"=some none)
  (z38:PySem.W.nsIn K mainGlobals "range"=some none)
  (z39:PySem.W.nsIn K mainGlobals "tuple"=some none)
  (z40:PySem.W.nsIn K mainGlobals "list"=some none)
  (z41:PySem.W.nsIn K mainGlobals "int"=some none)
  (z42:PySem.W.nsIn K mainGlobals "bool"=some none)
  (z43:PySem.W.nsIn K mainGlobals "str"=some none)
  (z44:PySem.W.nsIn K mainGlobals "min"=some none)
  (z45:PySem.W.nsIn K mainGlobals "max"=some none)
  (z46:PySem.W.nsIn K mainGlobals "isinstance"=some none)
  (z47:PySem.W.nsIn K mainGlobals "all"=some none)
  (z48:PySem.W.nsIn K mainGlobals "any"=some none)
  (z49:PySem.W.nsIn K mainGlobals "zip"=some none)
  (z50:PySem.W.nsIn K mainGlobals "sorted"=some none)
  (z51:PySem.W.nsIn K mainGlobals "enumerate"=some none)
  (z52:PySem.W.nsIn K mainGlobals "set"=some none) :
  Text Pm K mg G T/\∃ (fd:FuncData) (N:Li Str),(∀ (s:Sd) (u:vL),BindsTo s fd ⟨[u],[]⟩ [(S "_law_script",u)])/\DefOk K mg G T "law" 16 [] fa fd [S "_law_script"] N:=by
 exact⟨Zh1 (gC X G0 yz0 y0 (gM w0_238 ZjU rfl (gM w0_239 ZjV rfl (gM w0_240 ZjW rfl (gM w0_241 ZjX rfl (gM w0_242 ZjY rfl (gM w0_243 ZjZ rfl (gM w0_244 Zj0 rfl trivial))))))) (gI X G0 g1 (gI X G0 g2 (⟨⟨.ref A3,.ref A3,PySem.W.mg_of X G0 g3,rfl,fun _ _=>.kt (its:=#[.str "+" t3_0,.str "-" t3_1,.str "*" t3_2,.str "/" t3_3,.str "mod" t3_4]) d3 f3c f3d e3 (show(5:Nat)<=sizeLine by decide) (.cons ⟨_,rfl⟩ (.cons ⟨_,rfl⟩ (.cons ⟨_,rfl⟩ (.cons ⟨_,rfl⟩ (.cons ⟨_,rfl⟩ (.nil))))))⟩,⟨⟨.ref A4,.ref A4,PySem.W.mg_of X G0 g4,rfl,fun _ _=>.kt (its:=#[.str "<" t4_0,.str "<=" t4_1,.str "=" t4_2,.str ">=" t4_3,.str ">" t4_4,.str "!=" t4_5]) d4 f4c f4d e4 (show(6:Nat)<=sizeLine by decide) (.cons ⟨_,rfl⟩ (.cons ⟨_,rfl⟩ (.cons ⟨_,rfl⟩ (.cons ⟨_,rfl⟩ (.cons ⟨_,rfl⟩ (.cons ⟨_,rfl⟩ (.nil)))))))⟩,gD X G0 a5 ZmS rfl (⟨⟨_,_,PySem.W.mg_of X G0 g6,(show RelV (.str _) _ from⟨_,rfl⟩),fun _ _=>.str _⟩,⟨⟨_,_,PySem.W.mg_of X G0 g7,(show RelV (.str _) _ from⟨_,rfl⟩),fun _ _=>.str _⟩,gD X G0 a8 ZmT rfl (gD X G0 a9 ZmU rfl (gD X G0 a10 ZmV rfl (gD X G0 a11 ZmW rfl (gD X G0 a12 ZmX rfl (⟨⟨A13,ob13,#[⟨PyData.keyHash Pm "take",.str "take" t13_0,.ref B13_0⟩,⟨PyData.keyHash Pm "name",.str "name" t13_1,.ref B13_1⟩,⟨PyData.keyHash Pm "put",.str "put" t13_2,.ref B13_2⟩,⟨PyData.keyHash Pm "if",.str "if" t13_3,.ref B13_3⟩,⟨PyData.keyHash Pm "go",.str "go" t13_4,.ref B13_4⟩,⟨PyData.keyHash Pm "tell",.str "tell" t13_5,.ref B13_5⟩,⟨PyData.keyHash Pm "skip",.str "skip" t13_6,.ref B13_6⟩],ep13,PySem.W.mg_of X G0 g13,d13,⟨f13c,f13d,f13s⟩,e13,s13,(by simp),(show EsOk Pm K [⟨PyData.keyHash Pm "take",.str "take" t13_0,.ref B13_0⟩,⟨PyData.keyHash Pm "name",.str "name" t13_1,.ref B13_1⟩,⟨PyData.keyHash Pm "put",.str "put" t13_2,.ref B13_2⟩,⟨PyData.keyHash Pm "if",.str "if" t13_3,.ref B13_3⟩,⟨PyData.keyHash Pm "go",.str "go" t13_4,.ref B13_4⟩,⟨PyData.keyHash Pm "tell",.str "tell" t13_5,.ref B13_5⟩,⟨PyData.keyHash Pm "skip",.str "skip" t13_6,.ref B13_6⟩] _ _ from .cons (v:=.ref B13_0) (t:=t13_0) rfl rfl (show RelV (.ref B13_0) (.ref B13_0) from rfl) (fun _ _=>.tup (xs:=[.str ("name"),.str ("number"),.str ("number")]) (.inr ⟨bo13_0,#[.str ("name") u13_0_0,.str ("number") u13_0_1,.str ("number") u13_0_2],bn13_0,h13_0,i13_0,j13_0,(show(3:Nat)<=sizeLine by decide),.cons ⟨_,rfl⟩ (.cons ⟨_,rfl⟩ (.cons ⟨_,rfl⟩ (.nil)))⟩) (.cons (.str _) (.cons (.str _) (.cons (.str _) (.nil))))) (.cons (v:=.ref B13_1) (t:=t13_1) rfl rfl (show RelV (.ref B13_1) (.ref B13_1) from rfl) (fun _ _=>.tup (xs:=[.str ("name")]) (.inr ⟨bo13_1,#[.str ("name") u13_1_0],bn13_1,h13_1,i13_1,j13_1,(show(1:Nat)<=sizeLine by decide),.cons ⟨_,rfl⟩ (.nil)⟩) (.cons (.str _) (.nil))) (.cons (v:=.ref B13_2) (t:=t13_2) rfl rfl (show RelV (.ref B13_2) (.ref B13_2) from rfl) (fun _ _=>.tup (xs:=[.str ("name"),.str ("operand"),.str ("put sign"),.str ("operand")]) (.inr ⟨bo13_2,#[.str ("name") u13_2_0,.str ("operand") u13_2_1,.str ("put sign") u13_2_2,.str ("operand") u13_2_3],bn13_2,h13_2,i13_2,j13_2,(show(4:Nat)<=sizeLine by decide),.cons ⟨_,rfl⟩ (.cons ⟨_,rfl⟩ (.cons ⟨_,rfl⟩ (.cons ⟨_,rfl⟩ (.nil))))⟩) (.cons (.str _) (.cons (.str _) (.cons (.str _) (.cons (.str _) (.nil)))))) (.cons (v:=.ref B13_3) (t:=t13_3) rfl rfl (show RelV (.ref B13_3) (.ref B13_3) from rfl) (fun _ _=>.tup (xs:=[.str ("operand"),.str ("if sign"),.str ("operand"),.str ("go"),.str ("place")]) (.inr ⟨bo13_3,#[.str ("operand") u13_3_0,.str ("if sign") u13_3_1,.str ("operand") u13_3_2,.str ("go") u13_3_3,.str ("place") u13_3_4],bn13_3,h13_3,i13_3,j13_3,(show(5:Nat)<=sizeLine by decide),.cons ⟨_,rfl⟩ (.cons ⟨_,rfl⟩ (.cons ⟨_,rfl⟩ (.cons ⟨_,rfl⟩ (.cons ⟨_,rfl⟩ (.nil)))))⟩) (.cons (.str _) (.cons (.str _) (.cons (.str _) (.cons (.str _) (.cons (.str _) (.nil))))))) (.cons (v:=.ref B13_4) (t:=t13_4) rfl rfl (show RelV (.ref B13_4) (.ref B13_4) from rfl) (fun _ _=>.tup (xs:=[.str ("place")]) (.inr ⟨bo13_4,#[.str ("place") u13_4_0],bn13_4,h13_4,i13_4,j13_4,(show(1:Nat)<=sizeLine by decide),.cons ⟨_,rfl⟩ (.nil)⟩) (.cons (.str _) (.nil))) (.cons (v:=.ref B13_5) (t:=t13_5) rfl rfl (show RelV (.ref B13_5) (.ref B13_5) from rfl) (fun _ _=>.tup (xs:=[.str ("operand")]) (.inr ⟨bo13_5,#[.str ("operand") u13_5_0],bn13_5,h13_5,i13_5,j13_5,(show(1:Nat)<=sizeLine by decide),.cons ⟨_,rfl⟩ (.nil)⟩) (.cons (.str _) (.nil))) (.cons (v:=.ref B13_6) (t:=t13_6) rfl rfl (show RelV (.ref B13_6) (.ref B13_6) from rfl) (fun _ _=>.tup (xs:=[]) (.inr ⟨bo13_6,#[],bn13_6,h13_6,i13_6,j13_6,(show(0:Nat)<=sizeLine by decide),.nil⟩) (.nil)) (.nil))))))))⟩,gI X G0 g14 (gI X G0 g15 (gI X G0 g16 (gD X G0 a17 ZmY rfl (gD X G0 a18 ZmZ rfl (gD X G0 a19 Zm0 rfl (gD X G0 a20 Zm1 rfl (gD X G0 a21 Zm2 rfl (gD X G0 a22 Zm3 rfl (gD X G0 a23 Zm4 rfl (gD X G0 a24 Zm5 rfl (gD X G0 a25 Zm6 rfl (gD X G0 a26 Zm7 rfl (gD X G0 a27 Zm8 rfl (gD X G0 a28 Zm9 rfl (gD X G0 a29 Zna rfl (gD X G0 a30 Znb rfl (gD X G0 a31 Znc rfl (gD X G0 a32 Znd rfl (gD X G0 a33 Zne rfl (gD X G0 a34 Znf rfl (gD X G0 a35 Zng rfl (gD X G0 a36 ZlH rfl (gB X G0 z37 (gB X G0 z38 (gB X G0 z39 (gB X G0 z40 (gB X G0 z41 (gB X G0 z42 (gB X G0 z43 (gB X G0 z44 (gB X G0 z45 (gB X G0 z46 (gB X G0 z47 (gB X G0 z48 (gB X G0 z49 (gB X G0 z50 (gB X G0 z51 (gB X G0 z52 (trivial)))))))))))))))))))))))))))))))))))))))⟩)))))⟩⟩)⟩⟩)))),gL X G0 hfa a36 ZlH rfl fun _ _ _ _ _ _ _=>rfl⟩
theorem Zhc:∀ n,XE G (run T n):=fun _=>Zgn
end
end Dp
open PySem PySem.W PyProof.Rows
set_option maxRecDepth 100000 in
set_option maxHeartbeats 0 in
theorem PySem.Challenge.cw_fakehunt_k13_texts_read_holds : PySem.Challenge.rw_fakehunt_k13_texts_read.Holds := by
 w_on;o_law;k_head;(case hw=>w_witness2)
 k_fill
 refine Dp.ZcE (l:=PySem.Challenge.rw_fakehunt_k13_texts_read) (G:=Dp.G) (T:=Dp.T) (n:=12) (i:=16) (x := "_law_script") rfl rfl ⟨rfl,by decide,by decide⟩ (fun w h Y=>PySem.W.kIn_of Y) Dp.Zhc ?F (fun ns hn=>Dp.ZcD hn)
 case F=>
  intro w mg fa h KX G0 hmg;refine' ⟨Dp.tab [(237,?C0)],Dp.ZiR (ct:=Dp.tab [(237,?C0)]) (Pm:=w.params) (C0:=?C0) KX G0 hmg ?z0 ⟨?_,?_,?_,?_,?_,?_,?_,?_,?_,?_,?_⟩ (.mk ?_ ?_ ?_ ?_ ?_) (.mk ?_ ?_ ?_ ?_ ?_) (.mk ?_ ?_ ?_ ?_ ?_) (.mk ?_ ?_ ?_ ?_ ?_) (.mk ?_ ?_ ?_ ?_ ?_) (.mk ?_ ?_ ?_ ?_ ?_) (.mk ?_ ?_ ?_ ?_ ?_) ?_ ?_ ?_ ?_ ?_ ?_ ?_ ?_ ?_ ?_ ?_ ?_ (.mk ?_ ?_ ?_ ?_) ?_ ?_ (.mk ?_ ?_ ?_ ?_) (.mk ?_ ?_ ?_ ?_) (.mk ?_ ?_ ?_ ?_) (.mk ?_ ?_ ?_ ?_) (.mk ?_ ?_ ?_ ?_) ?_ ?_ ?_ ?_ ?_ ?_ ?_ ?_ ?_ ?_ ?_ ?_ ?_ ?_ ?_ ?_ ?_ ?_ ?_ ?_ ?_ ?_ ?_ ?_ ?_ ?_ ?_ ?_ ?_ ?_ ?_ (.mk ?_ ?_ ?_ ?_) (.mk ?_ ?_ ?_ ?_) (.mk ?_ ?_ ?_ ?_) (.mk ?_ ?_ ?_ ?_) (.mk ?_ ?_ ?_ ?_) (.mk ?_ ?_ ?_ ?_) (.mk ?_ ?_ ?_ ?_) (.mk ?_ ?_ ?_ ?_) (.mk ?_ ?_ ?_ ?_) (.mk ?_ ?_ ?_ ?_) (.mk ?_ ?_ ?_ ?_) (.mk ?_ ?_ ?_ ?_) (.mk ?_ ?_ ?_ ?_) (.mk ?_ ?_ ?_ ?_) (.mk ?_ ?_ ?_ ?_) (.mk ?_ ?_ ?_ ?_) (.mk ?_ ?_ ?_ ?_) (.mk ?_ ?_ ?_ ?_) (.mk ?_ ?_ ?_ ?_) (.mk ?_ ?_ ?_ ?_) ?_ ?_ ?_ ?_ ?_ ?_ ?_ ?_ ?_ ?_ ?_ ?_ ?_ ?_ ?_ ?_⟩
  all_goals (first|k_is|exact rfl|skip)
  all_goals (first|k_is|exact rfl|skip)

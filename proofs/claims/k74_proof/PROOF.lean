import PyProof.Rows.All
import Wide.All
import OpenK.AllK
import Wide.FinOn
import Lean
import PyProof.EqAt
import PyProof.EqKinds
import PyProof.TupleCall
import PyProof.TupleKey
import PyProof.DictWalks
import PyProof.DictItems
import KE.KPairComp
import KE.KUnpack
import PySem.Challenge.RW_fakehunt_k74_two_books
set_option Elab.async false
set_option linter.all false
set_option maxRecDepth 100000
set_option maxHeartbeats 4000000
set_option genSizeOf false
def aB:=@List.length_map
def aD:=@Nat.le_refl
def aE:=@decide_eq_false
def aG:=@List.mem_cons
def aH:=@decide_eq_true
def aI:=@List.length_append
def aJ:=@List.size_toArray
def aL:=@List.map_cons
def aM:=@Nat.le_trans
def aO:=@List.length_cons
def aP:=@List.mem_singleton
def aR:=@List.getElem?_map
def aS:=@Nat.lt_of_lt_of_le
def aT:=@List.not_mem_nil
def aU:=@Nat.zero_le
def aV:=@List.mem_of_getElem?
def aW:=@List.append_nil
def aX:=@Nat.ne_of_lt
def aY:=@List.length_set
def aZ:=@Int.toNat_natCast
def bB:=@List.mem_map
def bC:=@List.all_cons
def bD:=@Nat.zero_add
def bE:=@List.getElem?_eq_some_iff
def bF:=@List.append_assoc
def bG:=@List.map_append
def bH:=@List.length_take
def bI:=@List.mem_append
def bJ:=@List.getElem?_set_ne
def bL:=@Bool.eq_iff_iff
def bM:=@Nat.lt_succ_self
def bN:=@List.map_map
def bO:=@List.lookup_cons
def bP:=@Int.toNat_of_nonneg
def bQ:=@Int.natCast_add
def bR:=@List.nodup_cons
def bS:=@List.getElem?_append_left
def bT:=@List.length_replicate
def bU:=@Nat.le_succ
def bV:=@List.replicate_succ
def bW:=@Bool.or_eq_true
def bX:=@List.length_range
def bY:=@beq_eq_false_iff_ne
def bZ:=@Nat.lt_irrefl
def cA:=@List.mem_append_right
def cB:=@List.getElem?_append_right
def cC:=@List.all_eq_true
def cD:=@List.flatMap_cons
def cF:=@List.any_cons
def cG:=@Bool.and_false
def cH:=@Bool.false_eq_true
def cI:=@List.drop_eq_getElem_cons
def cJ:=@List.mem_range
def cK:=@List.getElem?_set_self
def cL:=@Nat.le_of_eq
def cM:=@List.length_drop
def cN:=@List.flatten_cons
def cP:=@List.find?_cons
def cQ:=@Nat.add_assoc
def cR:=@List.drop_zero
def cT:=@Bool.not_eq_true'
def cU:=@List.getElem?_eq_none_iff
def cV:=@Bool.true_and
def cW:=@List.mem_filter
def cX:=@Nat.le_of_lt
def cY:=@Array.length_toList
def cZ:=@Nat.ne_of_gt
def dA:=@Bool.or_false
def dB:=@List.nil_append
def dC:=@List.nodup_append
def dD:=@List.length_nil
def dF:=@List.nodup_nil
def dG:=@Bool.and_eq_true_iff
def dH:=@Bool.and_true
def dI:=@Option.map_eq_some_iff
def dJ:=@Option.bind_eq_some_iff
def dL:=@Nat.le_add_right
def dM:=@List.getElem_mem
def dO:=@Bool.decide_or
def dP:=@Nat.le_of_not_lt
def dQ:=@Bool.or_eq_false_iff
def dR:=@List.length_eq_zero_iff
def dS:=@List.range'_succ
def dU:=@List.cons_ne_nil
def dW:=@Int.natCast_nonneg
def dX:=@List.map_flatMap
def dY:=@List.getElem?_replicate
def dZ:=@List.length_singleton
def eA:=@Array.getElem?_eq_getElem
def eB:=@List.getElem?_eq_none
def eC:=@List.find?_cons_of_neg
def eD:=@List.getElem?_toArray
def eE:=@List.take_of_length_le
section
open PySem PySem.Spec PyProof.Rows
def aA:=@wpAny_bind
def aF:=@wpAny_pure
def aK:=@Heap.lt_size
def aQ:=@Heap.get?_push_of_some
def bA:=@Heap.get?_push_size
def bK:=@wpAny_mono
end
abbrev Li.{u}(α:Type u):Type u:=List α
abbrev Ot.{u}(α:Type u):Type u:=Option α
abbrev vL:=PySem.Value
abbrev Ad:=PySem.Addr
abbrev sH7:=PySem.Shared
theorem oB7{α β:Type}{a:α}{f:α->Ot β}:(some a).bind f=f a:=rfl
abbrev fG7:=PySem.W.Frag
theorem bA7(a b:Bool):((a&&b)=true)=(a=true/\b=true):=Bool.and_eq_true a b
theorem lG7{α:Type _}{l:Li α}{i:Nat}(h:i<l.length):l[i]?=some l[i]:=List.getElem?_eq_getElem h
theorem lM7{α:Type _}(y:α){a:α}{l:Li α}(h:a∈l):a∈y::l:=List.mem_cons_of_mem y h
theorem lQ7{α:Type _}{a:α}{l:Li α}:a∈a::l:=List.mem_cons_self
theorem bF7:¬false=true:=Bool.false_ne_true
namespace L2
open PySem PySem.Spec PyProof.Rows

noncomputable abbrev Key:=Sum Int Str
noncomputable def keyIs:Key->vL->Bool
  |.inl k,v=>Value.isInt k v
  |.inr x,v=>Value.isStrOf x v
noncomputable def keyH(w:World):Key->Int
  |.inl k=>hashInt k
  |.inr x=>hashStr w x
theorem keyIs_shape:∀ {k:Key}{v:vL},keyIs k v=true->(∃ i t,k=Sum.inl i/\v=Value.int i t)\/(∃ x t,k=Sum.inr x/\v=Value.str x t)
  |.inl i,v,h=>by
    obtain⟨t,e⟩:=Value.isInt_shape (k:=i) (v:=v) h;exact .inl ⟨i,t,rfl,e⟩
  |.inr x,v,h=>by
    obtain⟨t,e⟩:=Value.isStrOf_shape (x:=x) (v:=v) h;exact .inr ⟨x,t,rfl,e⟩
theorem keyIs_int(i:Int)(t:Tok):keyIs (.inl i) (.int i t)=true:=by simp[keyIs,Value.isInt]
theorem keyIs_str(x:Str)(t:Tok):keyIs (.inr x) (.str x t)=true:=by simp[keyIs,Value.isStrOf]
theorem key_ll(a b:Int):decide ((Sum.inl a:Key)=Sum.inl b)=(a==b):=by
  by_cases e:a=b
  · subst e;simp
  · have h:¬(Sum.inl a:Key)=Sum.inl b:=fun q=>e (Sum.inl.inj q)
    rw[aE h];exact(bY.mpr e).symm
theorem key_rr(a b:Str):decide ((Sum.inr a:Key)=Sum.inr b)=decide (a=b):=by
  by_cases e:a=b
  · subst e;simp
  · have h:¬(Sum.inr a:Key)=Sum.inr b:=fun q=>e (Sum.inr.inj q)
    rw[aE h,aE e]
theorem key_lr(a:Int)(b:Str):decide ((Sum.inl a:Key)=Sum.inr b)=false:=aE (fun q=>nomatch q)
theorem key_rl(a:Str)(b:Int):decide ((Sum.inr a:Key)=Sum.inl b)=false:=aE (fun q=>nomatch q)

noncomputable def mixKind(prog:Program)(w:World):PySem.KeyKind prog w Key where
  is:=keyIs
  hash:=keyH w
  inj:=fun v a b ha hb=>by
    rcases keyIs_shape ha with⟨i,t,rfl,rfl⟩|⟨x,t,rfl,rfl⟩
    · rcases keyIs_shape hb with⟨j,u,rfl,e⟩|⟨y,u,rfl,e⟩
      · injection e with e1 _;rw[e1]
      · exact nomatch e
    · rcases keyIs_shape hb with⟨j,u,rfl,e⟩|⟨y,u,rfl,e⟩
      · exact nomatch e
      · injection e with e1 _;rw[e1]
  byValue:=fun k v h=>by
    rcases keyIs_shape h with⟨i,t,rfl,rfl⟩|⟨x,t,rfl,rfl⟩<;>rfl
  pyHash:=fun hv h=>by
    rcases keyIs_shape hv with⟨i,t,rfl,rfl⟩|⟨x,t,rfl,rfl⟩
    · exact wpAny_pyHash_int h
    · exact wpAny_pyHash_str h
  eqBool:=fun hu hv h=>by
    rcases keyIs_shape hu with⟨i,t,rfl,rfl⟩|⟨x,t,rfl,rfl⟩
    · rcases keyIs_shape hv with⟨j,u,rfl,rfl⟩|⟨y,u,rfl,rfl⟩
      · rw[key_ll]at h;exact wpAny_eqBool_int h
      · rw[key_lr]at h;exact SeqAt.EqAt.int_str i t y u _ _ _ _ h
    · rcases keyIs_shape hv with⟨j,u,rfl,rfl⟩|⟨y,u,rfl,rfl⟩
      · rw[key_rl]at h;exact SeqAt.EqAt.str_int x t j u _ _ _ _ h
      · rw[key_rr]at h;exact wpAny_eqBool_str h
  «strs»:=fun k x t v h=>by
    rcases keyIs_shape h with⟨i,u,rfl,e⟩|⟨y,u,rfl,e⟩
    · exact nomatch e
    · injection e with e1 _
      subst e1;cases v<;>rfl

theorem mixKind_int(prog:Program)(w:World)(i:Int)(t:Tok):(mixKind prog w).is (.inl i) (.int i t)=true:=keyIs_int i t
theorem mixKind_str(prog:Program)(w:World)(x:Str)(t:Tok):(mixKind prog w).is (.inr x) (.str x t)=true:=keyIs_str x t
inductive V where
  |non|bl (b:Bool)|int (i:Int)|str (x:Str)|byt (b:Array UInt8)|flt (b:UInt64)|ref (a:Addr)|ty (n:String)
  deriving DecidableEq

def RelV:V->vL->Prop
  |.non,u=>u=Value.none
  |.bl b,u=>u=Value.bool b
  |.int i,u=>∃ t,u=Value.int i t
  |.str x,u=>∃ t,u=Value.str x t
  |.byt b,u=>∃ t,u=Value.bytes b t
  |.flt b,u=>∃ t,u=Value.float b t
  |.ref a,u=>u=Value.ref a
  |.ty n,u=>u=Value.type n

abbrev Vals:Li V->Li vL->Prop:=Paired RelV
variable{xs:Li V}{us:Li vL}
theorem Vals.length(r:Vals xs us):xs.length=us.length:=Paired.length r
theorem Vals.get:∀ {xs:Li V}{us:Li vL}{i:Nat}{x:V},Vals xs us->xs[i]?=some x->∃ u,us[i]?=some u/\RelV x u
  |_,_,_,_,.nil,e=>by simp at e
  |_,_,0,_,.cons r _,e=>by simp at e;subst e;exact⟨_,rfl,r⟩
  |_,_,i+1,x,.cons _ t,e=>by
    obtain⟨u,h1,h2⟩:=Vals.get (i:=i) (x:=x) t (by simpa using e)
    exact⟨u,by simpa using h1,h2⟩
theorem Vals.set{x:V}{u:vL}(r:RelV x u):∀ {xs:Li V}{us:Li vL} (i:Nat),Vals xs us->Vals (xs.set i x) (us.set i u)
  |_,_,_,.nil=>.nil
  |_,_,0,.cons _ t=>.cons r t
  |_,_,i+1,.cons q t=>.cons q (Vals.set r i t)
theorem Vals.append:∀ {xs ys:Li V}{us ws:Li vL},Vals xs us->Vals ys ws->Vals (xs++ys) (us++ws)
  |_,_,_,_,.nil,s=>s
  |_,_,_,_,.cons r t,s=>.cons r (Vals.append t s)
theorem Vals.take:∀ {xs:Li V}{us:Li vL} (n:Nat),Vals xs us->Vals (xs.take n) (us.take n)
  |_,_,0,_=>.nil
  |_,_,_+1,.nil=>.nil
  |_,_,n+1,.cons r t=>.cons r (Vals.take n t)
theorem Vals.drop:∀ {xs:Li V}{us:Li vL} (n:Nat),Vals xs us->Vals (xs.drop n) (us.drop n)
  |_,_,0,r=>r
  |_,_,_+1,.nil=>.nil
  |_,_,n+1,.cons _ t=>Vals.drop n t

def RelO:Ot V->Ot vL->Prop
  |some v,some u=>RelV v u
  |none,none=>True
  |_,_=>False
def KV{κ:Type}:Li (κ×V)->Li (κ×vL)->Prop:=Paired fun(p:κ×V) (q:κ×vL)=>p.1=q.1/\RelV p.2 q.2

noncomputable def kV:Key->V
  |.inl i=>.int i
  |.inr x=>.str x

inductive HO where
    |lst (xs:List V)
    |tup (xs:List V)
    |dK (kvs:List (Key×V))|dT (kvs:List (List Key×V))|dN (f:World->List DictEntry)
    |set (S:Int->Bool) (n:Nat)
    |ins (C dx:Addr) (fs:List (Str×V))
    |own (x:Addr)
    |xd (fs:List (Str×V))
    |met (f x:Addr)
    |rng (lo hi:Int)
    |frz (o:Obj) (u:HO)
    |tbl (ps:Array Value)
    |ext (φ:Heap->Prop)

noncomputable abbrev Hp:=Ad->Ot HO
noncomputable def upd(H:Hp)(a:Ad)(o:HO):Hp:=fun b=>if b=a then some o else H b
variable{H:Hp}
theorem upd_same{a:Ad}{o:HO}:upd H a o a=some o:=by unfold upd;rw[if_pos rfl]
theorem upd_ne{a b:Ad}{o:HO}(h:b≠a):upd H a o b=H b:=by unfold upd;rw[if_neg h]
theorem ne_of{a b:Ad}{o u:HO}(h:H a=some o)(h':H b=some u)(d:o≠u):a≠b:=by
  intro e;subst e;rw[h]at h';exact d (Option.some.inj h')
theorem ne_of_none{a b:Ad}{o:HO}(h:H a=some o)(h':H b=none):a≠b:=by
  intro e;subst e;rw[h]at h';cases h'

section
variable (P:Program) (w:World)
def ObjOk(H:Hp)(h:Heap)(a:Ad):HO->Prop
  |.lst xs=>xs.length<=sizeLine/\∃ (its:Li vL) (n:Nat),Vals xs its/\h.get? a=some { cls:=.type "list",data:=.seq its.toArray n }
  |.tup xs=>xs.length<=sizeLine/\∃ its:Li vL,Vals xs its/\IsTup h a its.toArray
  |.dK kvs=>kvs.length<=sizeLine/\(a==sysModules)=false/\∃ vs,KV kvs vs/\h.DictOf (mixKind P w) a vs
  |.dT kvs=>kvs.length<=sizeLine/\(a==sysModules)=false/\∃ xs:Li (Li Key×Ad×vL),
      Paired (fun(p:Li Key×V) (q:Li Key×Ad×vL)=>p.1=q.1/\H q.2.1=some (.tup (p.1.map kV))/\RelV p.2 q.2.2) kvs xs /\
      ∃ o es ep,h.get? a=some o/\o.ExactDict/\o.data=.dict es ep/\es.toList=xs.map (entryOfKey (tupleKind (mixKind P w)))/\(xs.map (·.1)).Nodup
  |.dN f=>(a==sysModules)=false/\∃ o es,h.get? a=some o/\o.ExactDict/\o.data=.dict es es.size/\es.toList=f w
  |.set S n=>h.SetOf (intKind P w) a S n
  |.ins C dx fs=>H dx=some (.own a)/\fs.length<=1000/\dx≠a/\h.get? a=some (PySem.W.instObj C dx) /\
      ∃ mA,h.Ns1 dx mA/\(∀ f,RelO (fs.lookup f) (mA f))/\PySem.Within mA (fs.map (·.1))
  |.own _=>∃ o,h.get? a=some o
  |.xd fs=>∃ mA,h.Ns1 a mA/\∀ f,RelO (fs.lookup f) (mA f)
  |.rng lo hi=>∃ t u v,h.get? a=some { cls:=.type "range",data:=.fields #[.int lo t,.int hi u,.int 1 v] }
  |.frz o u=>h.get? a=some o/\ObjOk H h a u
  |.tbl ps=>h.get? a=some { cls:=.none,data:=.fields ps }
  |.met f x=>h.get? a=some (PySem.W.methodObj (.ref f) (.ref x))
  |.ext φ=>φ h/\(∃ o,h.get? a=some o)/\∀ h1 h2:Heap,φ h1->(∀ o,h1.get? a=some o->h2.get? a=some o)->φ h2
def HOk(H:Hp)(h:Heap):Prop:=∀ a o,H a=some o->ObjOk P w H h a o
end

section
variable {P:Program}{w:World}{H H':Hp}{h h':Heap}{a:Ad}{o:HO}
theorem ObjOk.lt(x:ObjOk P w H h a o):a < h.objs.size:=by
  cases o with
  |lst xs=>obtain⟨_,_,_,_,e⟩:=x;exact aK e
  |tup xs=>obtain⟨_,_,_,p⟩:=x;exact p.lt
  |dK kvs=>obtain⟨_,_,_,_,o,_,_,e,_⟩:=x;exact aK e
  |dT kvs=>obtain⟨_,_,_,_,o,_,_,e,_⟩:=x;exact aK e
  |dN f=>obtain⟨_,o,_,e,_⟩:=x;exact aK e
  |set S n=>obtain⟨o,_,_,_,e,_⟩:=x;exact aK e
  |ins C dx fs=>obtain⟨_,_,_,e,_⟩:=x;exact aK e
  |own y=>obtain⟨_,e⟩:=x;exact aK e
  |xd fs=>obtain⟨_,⟨_,_,_,e,_⟩,_⟩:=x;exact aK e
  |rng lo hi=>obtain⟨_,_,_,e⟩:=x;exact aK e
  |frz ob u=>obtain⟨e,_⟩:=x;exact aK e
  |tbl ps=>exact aK (show h.get? a=some _ from x)
  |met f y=>exact aK (show h.get? a=some _ from x)
  |ext φ=>obtain⟨_,⟨_,e⟩,_⟩:=x;exact aK e
theorem Paired.mapP{α β:Type}{F G:α->β->Prop}:∀ {l₁:Li α}{l₂:Li β},Paired F l₁ l₂->(∀ a b,F a b->G a b)->Paired G l₁ l₂
  |_,_,.nil,_=>.nil
  |_,_,.cons r t,f=>.cons (f _ _ r) (Paired.mapP t f)
theorem ObjOk.stay(x:ObjOk P w H h a o)(k:∀ b u,(b=a\/H b=some (.own a))->h.get? b=some u->h'.get? b=some u)(ho:∀ b,H b=some (.own a)->H' b=some (.own a))(ht:∀ b xs,H b=some (.tup xs)->H' b=some (.tup xs)):ObjOk P w H' h' a o:=by
  induction o with
  |lst xs=>obtain⟨z,its,n,r,e⟩:=x;exact⟨z,its,n,r,k _ _ (.inl rfl) e⟩
  |tup xs=>obtain⟨z,its,r,ob,e,c⟩:=x;exact⟨z,its,r,ob,k _ _ (.inl rfl) e,c⟩
  |dK kvs=>obtain⟨z,y,vs,r,ob,es,ep,e,c⟩:=x;exact⟨z,y,vs,r,ob,es,ep,k _ _ (.inl rfl) e,c⟩
  |dT kvs=>
    obtain⟨z,y,xs,r,ob,es,ep,e,c⟩:=x;exact⟨z,y,xs,Paired.mapP r fun p q z=>⟨z.1,ht _ _ z.2.1,z.2.2⟩,ob,es,ep,k _ _ (.inl rfl) e,c⟩
  |dN f=>obtain⟨z,ob,es,e,c⟩:=x;exact⟨z,ob,es,k _ _ (.inl rfl) e,c⟩
  |set S n=>obtain⟨ob,es,ep,t,e,c⟩:=x;exact⟨ob,es,ep,t,k _ _ (.inl rfl) e,c⟩
  |ins C dx fs=>
    obtain⟨d,z,ne,e,mA,⟨od,es,ep,e2,c⟩,r⟩:=x;exact⟨ho _ d,z,ne,k _ _ (.inl rfl) e,mA,⟨od,es,ep,k _ _ (.inr d) e2,c⟩,r⟩
  |own y=>obtain⟨ob,e⟩:=x;exact⟨ob,k _ _ (.inl rfl) e⟩
  |xd fs=>obtain⟨mA,⟨od,es,ep,e,c⟩,r⟩:=x;exact⟨mA,⟨od,es,ep,k _ _ (.inl rfl) e,c⟩,r⟩
  |rng lo hi=>obtain⟨t,u,v,e⟩:=x;exact⟨t,u,v,k _ _ (.inl rfl) e⟩
  |frz ob u ih=>obtain⟨e,q⟩:=x;exact⟨k _ _ (.inl rfl) e,ih q⟩
  |tbl ps=>
    have e:h.get? a=some { cls:=.none,data:=.fields ps }:=x;show h'.get? a=some { cls:=.none,data:=.fields ps };exact k a _ (.inl rfl) e
  |met f y=>
    have e:h.get? a=some (PySem.W.methodObj (.ref f) (.ref y)):=x;show h'.get? a=some (PySem.W.methodObj (.ref f) (.ref y));exact k a _ (.inl rfl) e
  |ext φ=>obtain⟨p,⟨o,e⟩,st⟩:=x;exact⟨st _ _ p fun o q=>k _ _ (.inl rfl) q,⟨o,k _ _ (.inl rfl) e⟩,st⟩
theorem HOk.lt(x:HOk P w H h)(e:H a=some o):a < h.objs.size:=(x a o e).lt
theorem HOk.fresh(x:HOk P w H h)(e:h.objs.size<=a):H a=none:=by
  cases q:H a with
  |none=>rfl
  |some u=>exact absurd (aS (x.lt q) e) (bZ _)
theorem HOk.kept(x:HOk P w H h)(k:∀ b u,h.get? b=some u->h'.get? b=some u):HOk P w H h':=fun a o e=>
  (x a o e).stay (fun b u _ q=>k b u q) (fun _ q=>q) fun _ _ q=>q
theorem HOk.laid(x:HOk P w H h)(k:∀ b u,h.get? b=some u->h'.get? b=some u)(hp:h.objs.size<=a)(new:ObjOk P w (upd H a o) h' a o):HOk P w (upd H a o) h':=fun b u e=>by
  have hn:=x.fresh hp;by_cases hb:b=a
  · subst hb;rw[upd_same]at e;cases e;exact new
  · rw[upd_ne hb]at e
    exact(x b u e).stay (fun c v _ q=>k c v q) (fun c q=>by rw[upd_ne (ne_of_none q hn)];exact q) fun c xs q=>by rw[upd_ne (ne_of_none q hn)];exact q
end

def Rd(H:Hp)(a:Ad)(u:HO):Prop:=H a=some u\/∃ o,H a=some (.frz o u)
variable{w:World}{h:Heap}
theorem Rd.ok{P:Program}{a:Ad}{u:HO}(r:Rd H a u)(x:HOk P w H h):ObjOk P w H h a u:=by
  rcases r with r|⟨o,r⟩
  · exact x a u r
  · obtain⟨_,q⟩:=x a _ r
    exact q
def Mut:Ot HO->Prop
  |some (.lst _)=>True
  |some (.dK _)=>True
  |some (.dT _)=>True
  |some (.dN _)=>True
  |some (.set _ _)=>True
  |some (.ins _ _ _)=>True
  |some (.ext _)=>True
  |_=>False
section
variable {P:Program}{w:World}{H:Hp}{h h':Heap}{x e:Ad}{o':HO}
theorem HOk.write(ok:HOk P w H h)(mu:Mut (H x))(he:e=x\/H e=some (.own x))(k:∀ b u,b≠e->h.get? b=some u->h'.get? b=some u)(heo:∃ u,h'.get? e=some u)(new:ObjOk P w (upd H x o') h' x o'):HOk P w (upd H x o') h':=fun b u q=>by
  have nown:∀ c y,H c=some (.own y)->c≠x:=fun c y r z=>by subst z;rw[r]at mu;exact mu
  have ntup:∀ c xs,H c=some (.tup xs)->c≠x:=fun c xs r z=>by subst z;rw[r]at mu;exact mu
  by_cases hb:b=x
  · subst hb;rw[upd_same]at q;cases q;exact new
  · rw[upd_ne hb]at q
    by_cases hbe:b=e
    · have q':H b=some (.own x):=by
        rcases he with z|z
        · exact absurd (hbe.trans z) hb
        · rw[hbe];exact z
      rw[q]at q';cases q'
      obtain⟨v,hv⟩:=heo;exact⟨v,by rw[hbe];exact hv⟩
    · refine(ok b u q).stay (fun c v hc r=>k c v ?_ r) (fun c r=>by rw[upd_ne (nown c b r)];exact r) fun c xs r=>by rw[upd_ne (ntup c xs r)];exact r
      rcases hc with rfl|hc
      · exact hbe
      · rintro rfl
        rcases he with z|z
        · exact nown c b hc z
        · rw[hc]at z;cases z;exact hb rfl
end

structure Un(fs ex:List Addr)(H H':Hp)(h h':Heap):Prop where
  keep:∀ b o,h.get? b=some o->H b=none->b∉fs->b∉ex->h'.get? b=some o
  slot:∀ b o,h.get? b=some o->H b=none->b∈fs->b∉ex->∃ sl,h'.get? b=some { o with slots:=sl }
  free:∀ b o,h.get? b=some o->H b=none->b∉ex->H' b=none
  there:∀ b o,h.get? b=some o->b∉ex->∃ o',h'.get? b=some o'
  tups:∀ b xs,H b=some (.tup xs)->H' b=some (.tup xs)
  frzs:∀ b o u,H b=some (.frz o u)->H' b=some (.frz o u)
  tbls:∀ b ps,H b=some (.tbl ps)->∃ more,H' b=some (.tbl (ps++more))
section
variable {fs fs' ex ex':Li Ad}{H H1 H2:Hp}{h h1 h2 h':Heap}{a x e:Ad}{o:HO}
theorem Un.any(u:Un fs ex H H1 h h1){b:Ad}{ob:Obj}(q:h.get? b=some ob)(n:H b=none)(hx:b∉ex):∃ sl,h1.get? b=some { ob with slots:=sl }:=by
  by_cases hb:b∈fs
  · exact u.slot b ob q n hb hx
  · exact⟨ob.slots,u.keep b ob q n hb hx⟩
theorem Un.kept(k:∀ b u,h.get? b=some u->h'.get? b=some u):Un fs ex H H h h':=
  ⟨fun b ob q _ _ _=>k b ob q,fun b ob q _ _ _=>⟨ob.slots,k b ob q⟩,fun _ _ _ n _=>n,fun b ob q _=>⟨ob,k b ob q⟩,fun _ _ q=>q,fun _ _ _ q=>q,fun _ ps q=>⟨#[],by rw[q];simp⟩⟩
theorem Un.refl:Un fs ex H H h h:=Un.kept fun _ _ q=>q
theorem Un.laid(k:∀ b u,h.get? b=some u->h'.get? b=some u)(hp:h.objs.size<=a)(hn:H a=none):Un fs ex H (upd H a o) h h' where
  keep:=fun b u q _ _ _=>k b u q
  slot:=fun b u q _ _ _=>⟨u.slots,k b u q⟩
  free:=fun b u q n _=>by rw[upd_ne (aX (aS (aK q) hp))];exact n
  there:=fun b u q _=>⟨u,k b u q⟩
  tups:=fun b xs q=>by rw[upd_ne (ne_of_none q hn)];exact q
  frzs:=fun b u xs q=>by rw[upd_ne (ne_of_none q hn)];exact q
  tbls:=fun b ps q=>⟨#[],by rw[upd_ne (ne_of_none q hn),q];simp⟩
theorem Un.write(mu:Mut (H x))(he:e=x\/H e=some (.own x))(k:∀ b u,b≠e->h.get? b=some u->h'.get? b=some u)(heo:∃ u,h'.get? e=some u):Un fs ex H (upd H x o) h h':=by
  have hx:∀ b,H b=none->b≠x:=fun b n z=>by subst z;rw[n]at mu;exact mu
  have hb:∀ b,H b=none->b≠e:=fun b n z=>by
    subst z;rcases he with r|r
    · exact hx b n r
    · rw[n]at r;cases r
  have hm:∀ b u,H b=some u->¬Mut (some u)->b≠x:=fun b u q nm z=>by subst z;rw[q]at mu;exact nm mu
  refine⟨fun b u q n _ _=>k b u (hb b n) q,fun b u q n _ _=>⟨u.slots,k b u (hb b n) q⟩,fun b u q n _=>by rw[upd_ne (hx b n)];exact n,fun b u q _=>?_,
    fun b xs q=>by rw[upd_ne (hm b _ q fun z=>z)];exact q,fun b u xs q=>by rw[upd_ne (hm b _ q fun z=>z)];exact q,fun b ps q=>⟨#[],by rw[upd_ne (hm b _ q fun z=>z),q];simp⟩⟩
  by_cases hbe:b=e
  · subst hbe;exact heo
  · exact⟨u,k b u hbe q⟩
end

noncomputable def trk(h:Heap)(H:Hp):Li Ad:=(List.range h.objs.size).filter fun a=>(H a).isSome
noncomputable def hidT(h:Heap)(H:Hp):Heap:=PySem.W.hideAll h (trk h H)
theorem hidT_size(h:Heap)(H:Hp):(hidT h H).objs.size=h.objs.size:=PySem.W.hideAll_size _ _
theorem hidT_get{b:Ad}{o:Obj}(e:h.get? b=some o)(n:H b=none):(hidT h H).get? b=some o:=
  PySem.W.hideAll_get _ e fun hm=>by
    have q:(H b).isSome=true:=(cW.mp hm).2;rw[n]at q;simp at q
theorem of_hidT{b:Ad}{o:Obj}(e:(hidT h H).get? b=some o):h.get? b=some o/\H b=none:=by
  have e':h.get? b=some o:=PySem.W.of_hideAll (trk h H) e;refine⟨e',?_⟩;cases q:H b with
  |none=>rfl
  |some x=>
    have hm:b∈trk h H:=cW.mpr ⟨cJ.mpr (aK e'),by simp[q]⟩
    have z:(hidT h H).get? b=none:=PySem.W.hideAll_none (trk h H) hm;rw[z]at e;cases e

structure Mod(K:fG7)(mg:Str->Option Value)(base:Heap):Prop where
  kin:K.In base
  glob:base.Ns mainGlobals mg
  blt:∃ mb,base.Ns builtinsNs mb/\∀ x:Str,x ≠ "__name__"->mb x=bootBuiltins x
  nolimit:base.NoLimit

structure Cx where
  prog:Program
  w:World
  K:fG7
  mg:Str->Option Value
  base:Heap
  A:Around
  N:List Str
  s₀:Shared
  H₀:Hp
  env:Env
  outer:List Env
  stack:List Env
  ex:List Addr
  fn:Str->Bool
  calm:Bool
  pn:List (Addr×Obj)
  xe:Value->Shared->Prop
noncomputable def frs(l:Li Env):Li Ad:=l.filterMap (·.frame)
noncomputable abbrev Cx.fs(X:Cx):Li Ad:=frs X.outer

def Vis(sc:Scope)(x:Str):Prop:=sc.names.lookup x=some .local\/sc.names.lookup x=some .cell\/sc.names.lookup x=some .free
def Loc(sc:Scope)(x:Str):Prop:=sc.names.lookup x=some .local\/sc.names.lookup x=some .cell
def Look(env:Env)(h:Heap)(m:Str->Ot vL)(x:Str)(u:vL):Prop:=
  (env.kindOf x=some .local/\m x=some u)\/((env.kindOf x=some .cell\/env.kindOf x=some .free)/\∃ c,env.cells.lookup x=some c/\h.IsCell c (some u))

structure Cx.Ok(X:Cx):Prop where
  mod:Mod X.K X.mg X.base
  kind:X.env.scope.kind=.function
  glob:X.env.globals=mainGlobals
  blt:X.env.builtins=builtinsNs
  above:X.s₀.heap.objs.size<=X.env.locals
  inj:∀ x y c,X.env.cells.lookup x=some c->X.env.cells.lookup y=some c->x=y
  has:∀ x,(X.env.kindOf x=some .cell\/X.env.kindOf x=some .free)->∃ c,X.env.cells.lookup x=some c
  cab:∀ x c,X.fn x=true->X.env.cells.lookup x=some c->X.s₀.heap.objs.size<=c
  hd:X.calm=true->X.A.handled=none
  frames:X.A.frames=some X.stack
  stk:X.stack=X.outer\/(X.stack=X.env :: X.outer/\X.env.frame=some X.env.locals)
  exf:∀ b∈X.ex,b≠X.env.locals/\∀ x c,X.env.cells.lookup x=some c->c≠b
  bs:∀ b o,X.base.get? b=some o->X.s₀.heap.get? b=some o/\X.H₀ b=none
  bsz:X.base.objs.size<=X.s₀.heap.objs.size
  noex:∀ b o,X.base.get? b=some o->b∉X.ex
  exfs:∀ b∈X.ex,b∉X.fs
  funs:X.s₀.heap.FunFrames X.base X.outer
  frf:∀ b∈X.fs,X.H₀ b=none

structure Inv(X:Cx)(pQ:List (Addr×Obj))(σ:List (Option V))(H:Hp)(s:Shared):Prop where
  ok:X.Ok
  os:s.os=X.s₀.os
  bare:AllBare s.gens
  base:Un X.fs X.ex X.H₀ H X.s₀.heap s.heap
  loc:∃ m,s.heap.Ns X.env.locals m/\∀ (i:Nat) (x:Str) (v:V),X.N[i]?=some x->σ[i]?=some (some v)->Vis X.env.scope x->∃ u,RelV v u/\Look X.env s.heap m x u
  cell:∀ x c,X.env.cells.lookup x=some c->∃ v,s.heap.IsCell c v
  free:H X.env.locals=none
  freeC:∀ x c,X.env.cells.lookup x=some c->H c=none
  pin:∀ p∈X.pn++pQ,s.heap.get? p.1=some p.2/\H p.1=none/\p.1≠X.env.locals/\p.1∉X.fs/\∀ v,p.2.data≠.cell v
  hok:HOk X.prog X.w H s.heap
  len:σ.length=X.N.length

variable{g':Array GenState}{t' i:Nat}{d':Drawn}{N:Li Str}{s':sH7}
section
variable {X:Cx}{pQ:Li (Ad×Obj)}{σ:Li (Ot V)}{H H':Hp}{s:sH7}{h':Heap}

theorem Cx.Ok.nofr(ok:X.Ok){b:Ad}{o:Obj}(e:X.base.get? b=some o):b∉X.fs:=fun hb=>by
  have:=(ok.funs.mem hb).1;rw[e]at this;cases this
theorem Inv.bs(I:Inv X pQ σ H s):∀ b o,X.base.get? b=some o->s.heap.get? b=some o/\H b=none:=fun b o e=>
  ⟨I.base.keep b o (I.ok.bs b o e).1 (I.ok.bs b o e).2 (I.ok.nofr e) (I.ok.noex b o e),I.base.free b o (I.ok.bs b o e).1 (I.ok.bs b o e).2 (I.ok.noex b o e)⟩
theorem Inv.bk(I:Inv X pQ σ H s):∀ b o,X.base.get? b=some o->s.heap.get? b=some o:=fun b o e=>(I.bs b o e).1
theorem Inv.mod(I:Inv X pQ σ H s):Mod X.K X.mg X.base:=I.ok.mod
theorem Inv.kIn(I:Inv X pQ σ H s):X.K.In s.heap:=I.ok.mod.kin.keeps I.bk
theorem Inv.lt(I:Inv X pQ σ H s):X.env.locals < s.heap.objs.size:=let ⟨_,hn,_⟩:=I.loc;hn.lt
theorem Inv.sz(I:Inv X pQ σ H s):X.s₀.heap.objs.size<=s.heap.objs.size:=aM I.ok.above (cX I.lt)
theorem Inv.nofs(I:Inv X pQ σ H s){a:Ad}(h:s.heap.objs.size<=a):a∉X.fs:=fun hb=>by
  obtain⟨_,o,ho,_⟩:=I.ok.funs.mem hb;exact absurd (aS (aK ho) (aM I.sz h)) (bZ _)
theorem Inv.cne(I:Inv X pQ σ H s):∀ x c,X.env.cells.lookup x=some c->c≠X.env.locals:=fun x c e z=>by
  obtain⟨v,o,ho,hd⟩:=I.cell x c e;obtain⟨m,⟨o',es,ep,ho',hd',_⟩,_⟩:=I.loc;rw[z,ho']at ho;cases ho;rw[hd']at hd;cases hd
theorem Inv.funs(I:Inv X pQ σ H s):s.heap.FunFrames X.base X.outer:=by
  have all:∀ (l:Li Env),(∀ b∈frs l,b∈X.fs)->X.s₀.heap.FunFrames X.base l->s.heap.FunFrames X.base l:=by
    intro l
    induction l with
    |nil=>intro _ _;trivial
    |cons env r ih=>
      intro hs hl;obtain⟨hk,⟨L,o,hf,hn,ho,hd⟩,hr⟩:=hl;have hL:L∈X.fs:=hs L (by unfold frs;rw[List.filterMap_cons,hf];exact lQ7)
      obtain⟨sl,e⟩:=I.base.slot L o ho (I.ok.frf L hL) hL fun z=>I.ok.exfs L z hL
      exact⟨hk,⟨L,_,hf,hn,e,hd⟩,ih (fun b hb=>hs b (by unfold frs;rw[List.filterMap_cons,hf];exact lM7 _ hb)) hr⟩
  exact all X.outer (fun _ hb=>hb) I.ok.funs

theorem Inv.stack(I:Inv X pQ σ H s):s.heap.FunFrames X.base X.stack:=by
  rcases I.ok.stk with e|⟨e,hf⟩
  · rw[e];exact I.funs
  · rw[e]
    obtain⟨m,hn,_⟩:=I.loc;refine .cons (by rw[I.ok.kind];decide) hf hn ?_ I.funs
    exact Heap.get?_none_of_le (aM I.ok.bsz I.ok.above)
theorem Inv.stkSub(I:Inv X pQ σ H s):∀ b∈frs X.stack,b∈X.env.locals :: X.fs:=fun b hb=>by
  rcases I.ok.stk with e|⟨e,hf⟩
  · rw[e]at hb;exact lM7 _ hb
  · rw[e]at hb
    unfold frs at hb;rw[List.filterMap_cons,hf]at hb;exact hb
theorem Inv.stkFree(I:Inv X pQ σ H s):∀ b∈frs X.stack,H b=none:=fun b hb=>by
  rcases aG.mp (I.stkSub b hb) with e|hb
  · rw[e];exact I.free
  · obtain⟨_,o,ho,_⟩:=I.ok.funs.mem hb
    exact I.base.free b o ho (I.ok.frf b hb) fun z=>I.ok.exfs b z hb

theorem Inv.step{ch:Li Ad}(I:Inv X pQ σ H s)(hch:∀ b∈ch,(b∈X.ex\/X.s₀.heap.objs.size<=b)/\b≠X.env.locals/\(∀ x c,X.env.cells.lookup x=some c->c≠b)/\∀ p∈X.pn++pQ,p.1≠b)(keep:∀ b o,b≠X.env.locals->b∉X.fs->b∉ch->s.heap.get? b=some o->H b=none->h'.get? b=some o)(slot:∀ b o,b≠X.env.locals->b∈X.fs->b∉ch->s.heap.get? b=some o->H b=none->∃ sl,h'.get? b=some { o with slots:=sl })(free:∀ b o,b∉ch->s.heap.get? b=some o->H b=none->H' b=none)(there:∀ b o,b∉ch->s.heap.get? b=some o->∃ o',h'.get? b=some o')(tups:∀ b xs,H b=some (.tup xs)->H' b=some (.tup xs))(frzs:∀ b o u,H b=some (.frz o u)->H' b=some (.frz o u))(tbls:∀ b ps,H b=some (.tbl ps)->∃ more,H' b=some (.tbl (ps++more)))(ns:∀ m,s.heap.Ns X.env.locals m->h'.Ns X.env.locals m)(hok:HOk X.prog X.w H' h')(hg:AllBare g') :
    Inv X pQ σ H' { s with heap:=h',gens:=g',drawn:=d',toks:=t' }:=by
  have neL:∀ b o,X.s₀.heap.get? b=some o->b≠X.env.locals:=fun b o e=>aX (aS (aK e) I.ok.above)
  have neC:∀ b o,X.s₀.heap.get? b=some o->b∉X.ex->b∉ch:=fun b o e hx hb=>by
    rcases (hch b hb).1 with z|z
    · exact hx z
    · exact absurd (aS (aK e) z) (bZ _)
  have cellK:∀ x c,X.env.cells.lookup x=some c->∀ v,s.heap.IsCell c v->h'.IsCell c v:=fun x c e v ⟨o,ho,hd⟩=>by
    have nch:c∉ch:=fun z=>(hch c z).2.2.1 x c e rfl
    by_cases hc:c∈X.fs
    · obtain⟨sl,q⟩:=slot c o (I.cne x c e) hc nch ho (I.freeC x c e)
      exact⟨_,q,hd⟩
    · exact⟨o,keep c o (I.cne x c e) hc nch ho (I.freeC x c e),hd⟩
  refine⟨I.ok,I.os,hg,⟨fun b o e n hb hx=>?_,fun b o e n hb hx=>?_,fun b o e n hx=>?_,fun b o e hx=>?_,fun b xs e=>tups b xs (I.base.tups b xs e),fun b o xs e=>frzs b o xs (I.base.frzs b o xs e),fun b ps e=>?_⟩,?_,fun x c e=>?_,?_,fun x c e=>?_,fun p hp=>?_,hok,I.len⟩
  · exact keep b o (neL b o e) hb (neC b o e hx) (I.base.keep b o e n hb hx) (I.base.free b o e n hx)
  · obtain⟨sl,e1⟩:=I.base.slot b o e n hb hx
    obtain⟨sl',e2⟩:=slot b _ (neL b o e) hb (neC b o e hx) e1 (I.base.free b o e n hx);exact⟨sl',e2⟩
  · obtain⟨o',e1⟩:=I.base.there b o e hx
    exact free b o' (neC b o e hx) e1 (I.base.free b o e n hx)
  · obtain⟨o',e1⟩:=I.base.there b o e hx
    exact there b o' (neC b o e hx) e1
  · obtain⟨m1,e1⟩:=I.base.tbls b ps e
    obtain⟨m2,e2⟩:=tbls b _ e1;exact⟨m1++m2,by rw[e2,Array.append_assoc]⟩
  · obtain⟨m,hn,hl⟩:=I.loc
    refine⟨m,ns m hn,fun i x v e1 e2 e3=>?_⟩
    obtain⟨u,r,l⟩:=hl i x v e1 e2 e3;refine⟨u,r,?_⟩;rcases l with l|⟨k,c,e,z⟩
    · exact .inl l
    · exact .inr ⟨k,c,e,cellK x c e _ z⟩
  · obtain⟨v,z⟩:=I.cell x c e
    exact⟨v,cellK x c e v z⟩
  · obtain⟨m,⟨o,_,_,ho,_⟩,_⟩:=I.loc
    exact free _ o (fun z=>(hch _ z).2.1 rfl) ho I.free
  · obtain⟨v,o,ho,hd⟩:=I.cell x c e
    exact free c o (fun z=>(hch c z).2.2.1 x c e rfl) ho (I.freeC x c e)
  · obtain⟨e,n,ne,nf,d⟩:=I.pin p hp
    have nch:p.1∉ch:=fun z=>(hch p.1 z).2.2.2 p hp rfl
    exact⟨keep p.1 p.2 ne nf nch e n,free p.1 p.2 nch e n,ne,nf,d⟩
theorem Inv.un(I:Inv X pQ σ H s)(u:Un X.fs [] H H' s.heap h')(hok:HOk X.prog X.w H' h'):Inv X pQ σ H' { s with heap:=h',toks:=t' }:=by
  obtain⟨m,⟨o,es,ep,ho,r⟩,_⟩:=id I.loc;obtain⟨sl,hL⟩:=u.any ho I.free (by simp)
  exact I.step (g':=s.gens) (d':=s.drawn) (ch:=[]) (fun _ z=>nomatch z) (fun b o _ hb _ e n=>u.keep b o e n hb (by simp)) (fun b o _ hb _ e n=>u.slot b o e n hb (by simp)) (fun b o _ e n=>u.free b o e n (by simp)) (fun b o _ e=>u.there b o e (by simp)) u.tups u.frzs u.tbls (fun m' hm=>by
    obtain⟨o',es',ep',ho',r'⟩:=hm;rw[ho]at ho';cases ho'
    exact⟨_,es',ep',hL,r'⟩) hok I.bare
theorem Inv.call{ch:Li Ad}(I:Inv X pQ σ H s)(u:Un (frs X.stack) ch H H' s.heap h')(hok:HOk X.prog X.w H' h')(hg:AllBare g')(hch:∀ b∈ch,(b∈X.ex\/X.s₀.heap.objs.size<=b)/\b≠X.env.locals/\(∀ x c,X.env.cells.lookup x=some c->c≠b)/\∀ p∈X.pn++pQ,p.1≠b) :
    Inv X pQ σ H' { s with heap:=h',gens:=g',drawn:=d',toks:=t' }:=by
  obtain⟨m,⟨o,es,ep,ho,r⟩,_⟩:=id I.loc;obtain⟨sl,hL⟩:=u.any ho I.free fun z=>(hch _ z).2.1 rfl
  exact I.step (ch:=ch) hch (fun b o hL hb hc e n=>u.keep b o e n (fun z=>(aG.mp (I.stkSub b z)).elim hL hb) hc) (fun b o _ _ hc e n=>u.any e n hc) (fun b o hc e n=>u.free b o e n hc) (fun b o hc e=>u.there b o e hc) u.tups u.frzs u.tbls (fun m' hm=>by
    obtain⟨o',es',ep',ho',r'⟩:=hm;rw[ho]at ho';cases ho'
    exact⟨_,es',ep',hL,r'⟩) hok hg
theorem Inv.turned{it:Ad}(I:Inv X pQ σ H s)(k:∀ b o,b≠it->s.heap.get? b=some o->h'.get? b=some o)(hn:H it=none)(hL:it≠X.env.locals)(h1:it∈X.ex\/X.s₀.heap.objs.size<=it)(h2:∀ x c,X.env.cells.lookup x=some c->c≠it)(h3:∀ p∈X.pn++pQ,p.1≠it):Inv X pQ σ H { s with heap:=h',toks:=t' }:=by
  have nit:∀ b u,H b=some u->b≠it:=fun b u e z=>by rw[z,hn]at e;cases e
  refine I.step (g':=s.gens) (d':=s.drawn) (ch:=[it]) (fun b hb=>?_) (fun b o _ _ hc e _=>k b o (fun z=>hc (by simp[z])) e) (fun b o _ _ hc e _=>⟨o.slots,k b o (fun z=>hc (by simp[z])) e⟩) (fun _ _ _ _ n=>n)
    (fun b o hc e=>⟨o,k b o (fun z=>hc (by simp[z])) e⟩) (fun _ _ e=>e) (fun _ _ _ e=>e) (fun b ps e=>⟨#[],by rw[e];simp⟩) (fun m hm=>?_) (fun b u e=>?_) I.bare
  · have e:b=it:=by simpa using hb
    subst e;exact⟨h1,hL,h2,h3⟩
  · obtain⟨o,es,ep,ho,r⟩:=hm
    exact⟨o,es,ep,k _ o (Ne.symm hL) ho,r⟩
  · refine(I.hok b u e).stay (fun c v hc q=>k c v ?_ q) (fun _ q=>q) fun _ _ q=>q
    rcases hc with z|z
    · rw[z];exact nit b u e
    · exact nit c _ z
theorem Inv.tok(I:Inv X pQ σ H s)(t:Nat):Inv X pQ σ H { s with toks:=t }:=I.un (h':=s.heap) (t':=t) Un.refl I.hok
theorem Inv.kept{t':Nat}(I:Inv X pQ σ H s)(k:∀ b u,s.heap.get? b=some u->h'.get? b=some u):Inv X pQ σ H { s with heap:=h',toks:=t' }:=I.un (Un.kept k) (I.hok.kept k)
theorem Inv.laid{a:Ad}{o:HO}{t':Nat}(I:Inv X pQ σ H s)(k:∀ b u,s.heap.get? b=some u->h'.get? b=some u)(hp:s.heap.objs.size<=a)(new:ObjOk X.prog X.w (upd H a o) h' a o) :
    Inv X pQ σ (upd H a o) { s with heap:=h',toks:=t' }:=I.un (Un.laid k hp (I.hok.fresh hp)) (I.hok.laid k hp new)
theorem Inv.write{x e:Ad}{o:HO}{t':Nat}(I:Inv X pQ σ H s)(mu:Mut (H x))(he:e=x\/H e=some (.own x))(k:∀ b u,b≠e->s.heap.get? b=some u->h'.get? b=some u)(heo:∃ u,h'.get? e=some u)(new:ObjOk X.prog X.w (upd H x o) h' x o):Inv X pQ σ (upd H x o) { s with heap:=h',toks:=t' }:=I.un (Un.write mu he k heo) (I.hok.write mu he k heo new)
theorem Inv.pins_of{pins':Li (Ad×Obj)}(I:Inv X pQ σ H s)(h:∀ p∈pins',s.heap.get? p.1=some p.2/\H p.1=none/\p.1≠X.env.locals/\p.1∉X.fs/\∀ v,p.2.data≠.cell v):Inv X pins' σ H s:=
  ⟨I.ok,I.os,I.bare,I.base,I.loc,I.cell,I.free,I.freeC,fun p hp=>(bI.mp hp).elim (fun z=>I.pin p (List.mem_append_left _ z)) (h p),I.hok,I.len⟩

theorem nodup_ix(hN:N.Nodup){j:Nat}{x:Str}(a:N[i]?=some x)(b:N[j]?=some x):i=j:=by
  obtain⟨h1,e1⟩:=bE.mp a;obtain⟨h2,e2⟩:=bE.mp b;exact(List.getElem_inj hN).mp (e1.trans e2.symm)

theorem store_ok2{M:Model}{A:Around}{E:vL->sH7->Prop}{x:Str}{v:V}{u:vL}{Q:Unit->sH7->Prop}(I:Inv X pQ σ H s)(hN:X.N.Nodup)(hi:X.N[i]?=some x)(hx:Loc X.env.scope x)(r:RelV v u)(h:∀ s',Inv X pQ (σ.set i (some v)) H s'->(∃ a,Heap.SameBut a s.heap s'.heap/\(a=X.env.locals\/X.env.cells.lookup x=some a))->Q () s')(hf:X.fn x=true\/X.env.scope.names.lookup x=some .local:=by first|exact .inl rfl|exact .inr rfl|assumption):wpAny M A (storeName X.env x u) Q E s:=by
  obtain⟨m,hn,hl⟩:=id I.loc;have hcls:(X.env.scope.kind==.class||(X.env.scope.kind==.module&&X.env.locals != X.env.globals))=false:=by rw[I.ok.kind];rfl
  have hiσ:i < σ.length:=by rw[I.len];exact(bE.mp hi).1
  have cne:=I.cne;have tracked:∀ {a:Ad}{h':Heap},(∃ o,s.heap.get? a=some o/\H a=none)->Heap.SameBut a s.heap h'->HOk X.prog X.w H h':=fun {a h'} ha hs b ob e=>by
    obtain⟨_,_,hfree⟩:=ha;refine(I.hok b ob e).stay (fun c w' hc q=>(hs.2 c ?_).trans q) (fun _ q=>q) fun _ _ q=>q
    rintro rfl
    rcases hc with rfl|hc
    · rw[hfree]at e;cases e
    · rw[hfree]at hc;cases hc
  rcases hx with hk|hk
  · refine wpAny_storeName_local hk hn (fun h' hn' hs=>?_) hcls
    obtain⟨oL,_,_,hoL,_⟩:=id hn;refine h _ ⟨I.ok,I.os,I.bare,⟨fun b o e n hb hx=>?_,fun b o e n hb hx=>?_,I.base.free,fun b o e hx=>?_,I.base.tups,I.base.frzs,I.base.tbls⟩,⟨_,hn',fun j y v' e1 e2 e3=>?_⟩,fun y c e=>?_,I.free,I.freeC,fun p hp=>?_,tracked ⟨oL,hoL,I.free⟩ hs,by simpa using I.len⟩ ⟨_,hs,.inl rfl⟩
    · exact(hs.2 b (aX (aS (aK e) I.ok.above))).trans (I.base.keep b o e n hb hx)
    · obtain⟨sl,e1⟩:=I.base.slot b o e n hb hx
      exact⟨sl,(hs.2 b (aX (aS (aK e) I.ok.above))).trans e1⟩
    · obtain⟨o',e1⟩:=I.base.there b o e hx
      exact⟨o',(hs.2 b (aX (aS (aK e) I.ok.above))).trans e1⟩
    · by_cases hj:j=i
      · subst hj
        rw[hi]at e1;cases e1
        rw[cK hiσ]at e2;cases e2;exact⟨u,r,.inl ⟨hk,by simp⟩⟩
      · rw[bJ (Ne.symm hj)]at e2
        obtain⟨u',r',q⟩:=hl j y v' e1 e2 e3;refine⟨u',r',?_⟩;rcases q with⟨k,e⟩|⟨k,c,e,z⟩
        · refine .inl ⟨k,?_⟩
          have:y≠x:=fun e=>hj (nodup_ix hN e1 (e ▸ hi))
          simp[this,e]
        · exact .inr ⟨k,c,e,z.sameBut hs (cne y c e)⟩
    · obtain⟨w',z⟩:=I.cell y c e
      exact⟨w',z.sameBut hs (cne y c e)⟩
    · obtain⟨e,n,ne,nf,d⟩:=I.pin p hp
      exact⟨(hs.2 p.1 ne).trans e,n,ne,nf,d⟩
  · have hfn:X.fn x=true:=by
      rcases hf with z|z
      · exact z
      · rw[z]at hk;cases hk
    obtain⟨c,hc⟩:=I.ok.has x (.inl hk);obtain⟨w',z⟩:=I.cell x c hc;refine wpAny_storeName_cell I.ok.kind hk hc z (fun h' hc' hs=>?_)
    obtain⟨oc,hoc,hocd⟩:=id z;refine h { s with heap:=h' } ⟨I.ok,I.os,I.bare,⟨fun b o e n hb hx=>?_,fun b o e n hb hx=>?_,I.base.free,fun b o e hx=>?_,I.base.tups,I.base.frzs,I.base.tbls⟩,⟨m,hn.sameBut hs (Ne.symm (cne x c hc)),fun j y v' e1 e2 e3=>?_⟩,fun y c' e=>?_,I.free,I.freeC,fun p hp=>?_,tracked ⟨oc,hoc,I.freeC x c hc⟩ hs,by simpa using I.len⟩ ⟨c,hs,.inr hc⟩
    · exact(hs.2 b (aX (aS (aK e) (I.ok.cab x c hfn hc)))).trans (I.base.keep b o e n hb hx)
    · obtain⟨sl,e1⟩:=I.base.slot b o e n hb hx
      exact⟨sl,(hs.2 b (aX (aS (aK e) (I.ok.cab x c hfn hc)))).trans e1⟩
    · obtain⟨o',e1⟩:=I.base.there b o e hx
      exact⟨o',(hs.2 b (aX (aS (aK e) (I.ok.cab x c hfn hc)))).trans e1⟩
    · by_cases hj:j=i
      · subst hj
        rw[hi]at e1;cases e1
        rw[cK hiσ]at e2;cases e2;exact⟨u,r,.inr ⟨.inl hk,c,hc,hc'⟩⟩
      · rw[bJ (Ne.symm hj)]at e2
        obtain⟨u',r',q⟩:=hl j y v' e1 e2 e3;refine⟨u',r',?_⟩;rcases q with q|⟨k,c',e,z'⟩
        · exact .inl q
        · refine .inr ⟨k,c',e,z'.sameBut hs ?_⟩
          rintro rfl
          exact hj (nodup_ix hN e1 (I.ok.inj _ _ _ e hc ▸ hi))
    · by_cases hcc:c'=c
      · subst hcc;exact⟨_,hc'⟩
      · obtain⟨w2,z2⟩:=I.cell y c' e
        exact⟨w2,z2.sameBut hs hcc⟩
    · obtain⟨e,n,ne,nf,d⟩:=I.pin p hp
      refine⟨(hs.2 p.1 ?_).trans e,n,ne,nf,d⟩;intro q;rw[q,hoc]at e;have q':oc=p.2:=Option.some.inj e;exact d w' (by rw[<-q'];exact hocd)
theorem store_ok{M:Model}{A:Around}{E:vL->sH7->Prop}{x:Str}{v:V}{u:vL}{Q:Unit->sH7->Prop}(I:Inv X pQ σ H s)(hN:X.N.Nodup)(hi:X.N[i]?=some x)(hx:Loc X.env.scope x)(r:RelV v u)(h:∀ s',Inv X pQ (σ.set i (some v)) H s'->Q () s')(hf:X.fn x=true\/X.env.scope.names.lookup x=some .local:=by first|exact .inl rfl|exact .inr rfl|assumption):wpAny M A (storeName X.env x u) Q E s:=
  store_ok2 I hN hi hx r (fun s' I' _=>h s' I') hf
theorem Inv.call'{ch:Li Ad}(I:Inv X pQ σ H s)(ho:s'.os=s.os)(u:Un (frs X.stack) ch H H' s.heap s'.heap)(hok:HOk X.prog X.w H' s'.heap)(hg:AllBare s'.gens)(hch:∀ b∈ch,(b∈X.ex\/X.s₀.heap.objs.size<=b)/\b≠X.env.locals/\(∀ x c,X.env.cells.lookup x=some c->c≠b)/\∀ p∈X.pn++pQ,p.1≠b):Inv X pQ σ H' s':=by
  obtain⟨h',g',d',t',o'⟩:=s';have e:o'=s.os:=ho;subst e;exact I.call (g':=g') (t':=t') (d':=d') u hok hg hch
end

abbrev XK:=vL->Ot Ad->Hp->Prop
noncomputable abbrev St:=Li (Ot V)
abbrev VK:=V->Hp->Prop
abbrev TE:=St->Hp->VK->Prop
abbrev TT:=St->Hp->(Bool->Hp->Prop)->Prop
abbrev TA:=St->Hp->(Li V->Hp->Prop)->Prop
structure Ends where
  nx:St->Hp->Prop
  rt:VK
  bk:St->Hp->Prop:=fun _ _=>False
  ct:St->Hp->Prop:=fun _ _=>False
abbrev TS:=Ends->St->Hp->Prop

def EP(X:Cx)(pQ:Li (Ad×Obj))(σ:St)(Q:VK)(u:vL)(s':sH7):Prop:=∃ v H',Inv X pQ σ H' s'/\RelV v u/\Q v H'
def TP(X:Cx)(pQ:Li (Ad×Obj))(σ:St)(Q:Bool->Hp->Prop)(b:Bool)(s':sH7):Prop:=∃ H',Inv X pQ σ H' s'/\Q b H'
def AP(X:Cx)(pQ:Li (Ad×Obj))(σ:St)(Q:Li V->Hp->Prop)(us:Li vL)(s':sH7):Prop:=∃ vs H',Inv X pQ σ H' s'/\Vals vs us/\Q vs H'
def SP(X:Cx)(pQ:Li (Ad×Obj))(D:Ends)(f:Flow)(s':sH7):Prop:=
  match f with
  |.next=>∃ σ' H',Inv X pQ σ' H' s'/\D.nx σ' H'
  |.brk=>∃ σ' H',Inv X pQ σ' H' s'/\D.bk σ' H'
  |.cont=>∃ σ' H',Inv X pQ σ' H' s'/\D.ct σ' H'
  |.ret u=>∃ v σ' H',Inv X pQ σ' H' s'/\RelV v u/\D.rt v H'

def PE(X:Cx)(e:Expr)(t:TE):Prop:=
  ∀ (pQ:Li (Ad×Obj)) (s:sH7) (σ:St) (H:Hp) (Q:VK),Inv X pQ σ H s->t σ H Q->wpAny (model X.prog X.w) X.A (eval e X.env) (EP X pQ σ Q) X.xe s
def PT(X:Cx)(e:Expr)(t:TT):Prop:=
  ∀ (pQ:Li (Ad×Obj)) (s:sH7) (σ:St) (H:Hp) (Q:Bool->Hp->Prop),Inv X pQ σ H s->t σ H Q->wpAny (model X.prog X.w) X.A (isTrue e X.env (eval e X.env)) (TP X pQ σ Q) X.xe s
def PW(X:Cx)(e:Expr)(t:TT):Prop:=
  ∀ (whole:Sem vL) (pQ:Li (Ad×Obj)) (s:sH7) (σ:St) (H:Hp) (Q:Bool->Hp->Prop),Inv X pQ σ H s->t σ H Q->wpAny (model X.prog X.w) X.A (isTrue e X.env whole) (TP X pQ σ Q) X.xe s
variable{X:Cx}
theorem PW.pt{e:Expr}{t:TT}(h:PW X e t):PT X e t:=h _
def PA(X:Cx)(es:Li Expr)(t:TA):Prop:=
  ∀ (pos:Pos) (pQ:Li (Ad×Obj)) (s:sH7) (σ:St) (H:Hp) (Q:Li V->Hp->Prop),Inv X pQ σ H s->t σ H Q->wpAny (model X.prog X.w) X.A (spliced (backTo pos (starEach es X.env))) (AP X pQ σ Q) X.xe s
def PS(X:Cx)(st:Stmt)(t:TS):Prop:=
  ∀ (pQ:Li (Ad×Obj)) (s:sH7) (σ:St) (H:Hp) (D:Ends),Inv X pQ σ H s->t D σ H->wpAny (model X.prog X.w) X.A (exec st X.env) (SP X pQ D) X.xe s
def PSs(X:Cx)(st:Li Stmt)(t:TS):Prop:=
  ∀ (pQ:Li (Ad×Obj)) (s:sH7) (σ:St) (H:Hp) (D:Ends),Inv X pQ σ H s->t D σ H->wpAny (model X.prog X.w) X.A (execs st X.env) (SP X pQ D) X.xe s
variable{M:Model}{A:Around}
theorem thn{α:Type}{t:Sem α}{Q Q':α->sH7->Prop}{E:vL->sH7->Prop}{s:sH7}(h:wpAny M A t Q E s)(hQ:∀ a s,Q a s->Q' a s):wpAny M A t Q' E s:=bK h hQ fun _ _ x=>x
variable{pQ:Li (Ad×Obj)}{s:sH7}{Q:vL->sH7->Prop}
section
variable {X:Cx}


noncomputable def tVar(i:Nat):TE:=fun σ H Q=>∃ v,σ[i]?=some (some v)/\Q v H
noncomputable def tC(v:V):TE:=fun _ H Q=>Q v H
theorem pe_var{x:Str}{pos:Pos}(hN:X.N[i]?=some x)(hv:Vis X.env.scope x)(hd:(x==("__debug__":Str))=false:=by decide)(hcd:(x==("__classdict__":Str))=false:=by decide):PE X (.Name x pos) (tVar i):=by
  intro pQ s σ H Q I h;obtain⟨v,e,h⟩:=h;obtain⟨m,hn,hl⟩:=I.loc;obtain⟨u,r,l⟩:=hl i x v hN e hv;have fin:EP X pQ σ Q u s:=⟨v,H,I,r,h⟩;rcases l with⟨hk,hm⟩|⟨hk,c,hc,hcell⟩
  · exact wpAny_Name (wpAny_loadName_local I.ok.kind hk hn hm fin) hd
  · rcases hk with hk|hk
    · exact wpAny_Name (wpAny_loadName_cell I.ok.kind hk hc hcell fin) hd
    · exact wpAny_Name (wpAny_loadName_free I.ok.kind hk hc hcell fin hcd) hd
theorem pe_int{i j pos}:PE X (.Constant (.int i) j pos) (tC (.int i)):=fun _ _ _ H _ I h=>wpAny_Constant_int ⟨.int i,H,I.tok _,⟨_,rfl⟩,h⟩
theorem pe_bl{b j pos}:PE X (.Constant (.bool b) j pos) (tC (.bl b)):=fun _ _ _ H _ I h=>Constant_bool ⟨.bl b,H,I,rfl,h⟩
theorem pe_non{j pos}:PE X (.Constant .none j pos) (tC .non):=fun _ _ _ H _ I h=>Constant_none ⟨.non,H,I,rfl,h⟩
theorem pe_str{x j pos}:PE X (.Constant (.str x) j pos) (tC (.str x)):=fun _ _ _ H _ I h=>Calls.Constant_str ⟨.str x,H,I.tok _,⟨_,rfl⟩,h⟩

def Gl(X:Cx)(x:Str):Prop:=X.env.kindOf x=some .globalImplicit
theorem ld_glob{E:vL->sH7->Prop}{σ:St}{x:Str}{u:vL}{pos:Pos}(I:Inv X pQ σ H s)(hg:Gl X x)(hm:X.mg x=some u)(h:Q u s)(hd:(x==("__debug__":Str))=false:=by decide):wpAny (model X.prog X.w) X.A (eval (.Name x pos) X.env) Q E s:=
  Calls.Name_function_global I.ok.kind hg (Calls.loadGlobal_global (by rw[I.ok.glob];exact I.mod.glob.keeps I.bk) hm h) hd
theorem ld_blt{E:vL->sH7->Prop}{σ:St}{x:Str}{u:vL}{pos:Pos}(I:Inv X pQ σ H s)(hg:Gl X x)(hm:X.mg x=none)(hv:bootBuiltins x=some u)(h:Q u s)(hn:x ≠ "__name__":=by decide)(hd:(x==("__debug__":Str))=false:=by decide):wpAny (model X.prog X.w) X.A (eval (.Name x pos) X.env) Q E s:=by
  obtain⟨mb,h1,h2⟩:=I.mod.blt;exact Calls.Name_function_global I.ok.kind hg (Calls.loadGlobal_builtin (by rw[I.ok.glob];exact I.mod.glob.keeps I.bk) hm (by rw[I.ok.blt];exact h1.keeps I.bk) ((h2 x hn).trans hv) h) hd
theorem pe_glob{x:Str}{v:V}{u:vL}{pos:Pos}(hg:Gl X x)(hm:X.mg x=some u)(r:RelV v u)(hd:(x==("__debug__":Str))=false:=by decide):PE X (.Name x pos) (tC v):=
  fun _ _ _ H _ I h=>ld_glob I hg hm ⟨v,H,I,r,h⟩ hd
theorem pe_bltn{x:Str}{v:V}{u:vL}{pos:Pos}(hg:Gl X x)(hm:X.mg x=none)(hv:bootBuiltins x=some u)(r:RelV v u)(hn:x ≠ "__name__":=by decide)(hd:(x==("__debug__":Str))=false:=by decide):PE X (.Name x pos) (tC v):=
  fun _ _ _ H _ I h=>ld_blt I hg hm hv ⟨v,H,I,r,h⟩ hn hd

variable {a b:Expr}{ta tb:TE}{pos:Pos}

def PC(X:Cx)(op:CmpOp)(a b:Expr)(t:TE):Prop:=
  ∀ (pQ:Li (Ad×Obj)) (s:sH7) (σ:St) (H:Hp) (Q:VK),Inv X pQ σ H s->t σ H Q->
    wpAny (model X.prog X.w) X.A (eval a X.env) (fun v s₁=>wpAny (model X.prog X.w) X.A (eval b X.env) (fun u s₂=>wpAny (model X.prog X.w) X.A (compareOp op v u) (EP X pQ σ Q) X.xe s₂) X.xe s₁) X.xe s
noncomputable def tB(t:TE):TT:=fun σ H Q=>t σ H fun x H1=>∃ c,x=.bl c/\Q c H1
theorem pt_val{e:Expr}{t:TE}(h:PE X e t)(he:∀ whole,isTrue e X.env whole=(do let v <-whole;standAt e.pos;holding [v] (truthy v)):=by intro _;rfl):PT X e (tB t):=by
  intro pQ s σ H Q I hw;refine isTrue_plain (thn (h pQ s σ H _ I hw) fun v s1 ⟨x,H1,I1,r1,q1⟩=>?_) (he _)
  obtain⟨d,rfl,q⟩:=q1;cases r1;exact wpAny_truthy_bool ⟨H1,I1,q⟩

variable {tA tB':TT}{rest:Li Expr}
noncomputable def tAnd(t u:TT):TT:=fun σ H Q=>t σ H fun c H1=>if c=true then u σ H1 Q else Q false H1
noncomputable def tOr(t u:TT):TT:=fun σ H Q=>t σ H fun c H1=>if c=true then Q true H1 else u σ H1 Q
noncomputable def tNot(t:TT):TT:=fun σ H Q=>t σ H fun c H1=>Q (!c) H1
theorem pw_and1(ha:PT X a tA):PW X (.BoolOp .And [a] pos) tA:=by
  intro wh pQ s σ H Q I h;refine isTrue_and (thn (ha pQ s σ H Q I h) fun c s1 e=>?_)
  cases c with
  |true=>exact isTrue_and_nil e
  |false=>exact e
theorem pw_or1(ha:PT X a tA):PW X (.BoolOp .Or [a] pos) tA:=by
  intro wh pQ s σ H Q I h;refine isTrue_or (thn (ha pQ s σ H Q I h) fun c s1 e=>?_)
  cases c with
  |false=>exact isTrue_or_nil e
  |true=>exact e
theorem pw_and(ha:PT X a tA)(hb:PW X (.BoolOp .And (b :: rest) pos) tB'):PW X (.BoolOp .And (a :: b :: rest) pos) (tAnd tA tB'):=by
  intro wh pQ s σ H Q I h;refine isTrue_and (thn (ha pQ s σ H _ I h) fun c s1 ⟨H1,I1,q1⟩=>?_)
  cases c with
  |true=>exact hb wh pQ s1 σ H1 Q I1 q1
  |false=>exact⟨H1,I1,q1⟩
theorem pw_or(ha:PT X a tA)(hb:PW X (.BoolOp .Or (b :: rest) pos) tB'):PW X (.BoolOp .Or (a :: b :: rest) pos) (tOr tA tB'):=by
  intro wh pQ s σ H Q I h;refine isTrue_or (thn (ha pQ s σ H _ I h) fun c s1 ⟨H1,I1,q1⟩=>?_)
  cases c with
  |true=>exact⟨H1,I1,q1⟩
  |false=>exact hb wh pQ s1 σ H1 Q I1 q1
theorem pt_not(ha:PT X a tA):PT X (.UnaryOp .Not a pos) (tNot tA):=by
  intro pQ s σ H Q I h;exact isTrue_not (ha pQ s σ H (fun c H1=>Q (!c) H1) I h)
noncomputable def tAndV(ta tb:TE):TE:=fun σ H Q=>ta σ H fun x H1=>∃ c,x=.bl c/\if c=true then tb σ H1 Q else Q (.bl false) H1
noncomputable def tOrV(ta tb:TE):TE:=fun σ H Q=>ta σ H fun x H1=>∃ c,x=.bl c/\if c=true then Q (.bl true) H1 else tb σ H1 Q
noncomputable def tNotV(ta:TE):TE:=fun σ H Q=>ta σ H fun x H1=>∃ c,x=.bl c/\Q (.bl (!c)) H1
theorem pe_one{op}{t:TE}(h:PE X a t):PE X (.BoolOp op [a] pos) t:=fun pQ s σ H Q I hw=>BoolOp_one (h pQ s σ H Q I hw)
theorem pe_and(ha:PE X a ta)(hb:PE X (.BoolOp .And (b :: rest) pos) tb):PE X (.BoolOp .And (a :: b :: rest) pos) (tAndV ta tb):=by
  intro pQ s σ H Q I h;refine BoolOp_and (thn (ha pQ s σ H _ I h) fun v s1 ⟨x,H1,I1,r1,q1⟩=>?_)
  obtain⟨c,rfl,q1⟩:=q1;cases r1;refine wpAny_truthy_bool ?_;cases c with
  |true=>exact hb pQ s1 σ H1 Q I1 q1
  |false=>exact⟨.bl false,H1,I1,rfl,q1⟩
theorem pe_or(ha:PE X a ta)(hb:PE X (.BoolOp .Or (b :: rest) pos) tb):PE X (.BoolOp .Or (a :: b :: rest) pos) (tOrV ta tb):=by
  intro pQ s σ H Q I h;refine BoolOp_or (thn (ha pQ s σ H _ I h) fun v s1 ⟨x,H1,I1,r1,q1⟩=>?_)
  obtain⟨c,rfl,q1⟩:=q1;cases r1;refine wpAny_truthy_bool ?_;cases c with
  |false=>exact hb pQ s1 σ H1 Q I1 q1
  |true=>exact⟨.bl true,H1,I1,rfl,q1⟩
theorem pe_not(ha:PE X a ta):PE X (.UnaryOp .Not a pos) (tNotV ta):=by
  intro pQ s σ H Q I h;refine UnaryOp_ (thn (ha pQ s σ H _ I h) fun v s1 ⟨x,H1,I1,r1,q1⟩=>?_)
  obtain⟨c,rfl,q1⟩:=q1;cases r1;exact not_of (wpAny_truthy_bool ⟨.bl (!c),H1,I1,rfl,q1⟩)
noncomputable def tIf(t:TT)(ta tb:TE):TE:=fun σ H Q=>t σ H fun c H1=>if c=true then ta σ H1 Q else tb σ H1 Q
theorem pe_ifExp{c:Expr}(hc:PT X c tA)(ha:PE X a ta)(hb:PE X b tb):PE X (.IfExp c a b pos) (tIf tA ta tb):=by
  intro pQ s σ H Q I h;refine wpAny_IfExp (thn (hc pQ s σ H _ I h) fun d s1 ⟨H1,I1,q1⟩=>?_)
  cases d with
  |true=>exact ha pQ s1 σ H1 Q I1 q1
  |false=>exact hb pQ s1 σ H1 Q I1 q1
end
def SqL(K:fG7)(H:Hp)(a:Ad)(xs:Li V):Prop:=
  Rd H a (.lst xs) \/
    ∃ (o:Obj) (its:Array vL) (n:Nat),K.lookup a=some o/\o.cls=.type "list"/\o.dict=none/\o.data=.seq its n/\its.size<=sizeLine/\Vals xs its.toList
def SqT(K:fG7)(H:Hp)(a:Ad)(xs:Li V):Prop:=
  Rd H a (.tup xs) \/
    ∃ (o:Obj) (its:Array vL) (n:Nat),K.lookup a=some o/\o.cls=.type "tuple"/\o.data=.seq its n/\its.size<=sizeLine/\Vals xs its.toList
noncomputable def absV:vL->Ot V
  |.none=>some .non
  |.bool b=>some (.bl b)
  |.int i _=>some (.int i)
  |.str x _=>some (.str x)
  |.bytes b _=>some (.byt b)
  |.float b _=>some (.flt b)
  |.ref a=>some (.ref a)
  |.type n=>some (.ty n)
  |_=>none
theorem RelV.abs{x:V}{u:vL}(r:RelV x u):absV u=some x:=by
  cases x with
  |non=>cases r;rfl
  |bl _=>cases r;rfl
  |int _=>obtain⟨t,rfl⟩:=r;rfl
  |str _=>obtain⟨t,rfl⟩:=r;rfl
  |byt _=>obtain⟨t,rfl⟩:=r;rfl
  |flt _=>obtain⟨t,rfl⟩:=r;rfl
  |ref _=>cases r;rfl
  |ty _=>cases r;rfl
variable{y:V}
theorem RelV.inj{x:V}{u:vL}(r:RelV x u)(q:RelV y u):x=y:=Option.some.inj (r.abs.symm.trans q.abs)
theorem Vals.inj:∀ {xs ys:Li V}{us:Li vL},Vals xs us->Vals ys us->xs=ys
  |_,_,_,.nil,.nil=>rfl
  |_,_,_,.cons r t,.cons r' t'=>by rw[r.inj r',Vals.inj t t']
variable{K:fG7}
section
variable {X:Cx}{pQ:Li (Ad×Obj)}{σ:St}{H:Hp}{s:sH7}{a:Ad}{xs ys:Li V}
theorem SqT.of(h:H a=some (.tup xs)):SqT K H a xs:=.inl (.inl h)
theorem Inv.list(I:Inv X pQ σ H s)(h:SqL X.K H a xs):∃ its:Li vL,Vals xs its/\PlainL s.heap a its.toArray/\xs.length<=sizeLine:=by
  rcases h with h|⟨o,its,n,hk,hc,hd,hs,hz,r⟩
  · obtain⟨z,its,n,r,e⟩:=h.ok I.hok
    exact⟨its,r,⟨_,n,e,rfl,rfl,rfl⟩,z⟩
  · refine⟨its.toList,r,⟨o,n,I.kIn a o hk,hc,hd,by simpa using hs⟩,?_⟩
    have e:=r.length;simp only[cY]at e;omega
theorem Inv.tuple(I:Inv X pQ σ H s)(h:SqT X.K H a xs):∃ its:Li vL,Vals xs its/\IsTup s.heap a its.toArray/\xs.length<=sizeLine:=by
  rcases h with h|⟨o,its,n,hk,hc,hs,hz,r⟩
  · obtain⟨z,its,r,p⟩:=h.ok I.hok
    exact⟨its,r,p,z⟩
  · refine⟨its.toList,r,⟨o,I.kIn a o hk,hc,n,by simpa using hs⟩,?_⟩
    have e:=r.length;simp only[cY]at e;omega
theorem Inv.list_inj(I:Inv X pQ σ H s)(h:SqL X.K H a xs)(h':SqL X.K H a ys):xs=ys:=by
  obtain⟨its,r,⟨o,n,e,_,_,d⟩,_⟩:=I.list h;obtain⟨its',r',⟨o',n',e',_,_,d'⟩,_⟩:=I.list h';rw[e]at e';cases e'
  rw[d]at d'
  injection d' with d1 _
  have:its=its':=by simpa using congrArg Array.toList d1
  subst this;exact r.inj r'
theorem Inv.tuple_inj(I:Inv X pQ σ H s)(h:SqT X.K H a xs)(h':SqT X.K H a ys):xs=ys:=by
  obtain⟨its,r,⟨o,e,_,n,d⟩,_⟩:=I.tuple h;obtain⟨its',r',⟨o',e',_,n',d'⟩,_⟩:=I.tuple h';rw[e]at e';cases e'
  rw[d]at d'
  injection d' with d1 _
  have:its=its':=by simpa using congrArg Array.toList d1
  subst this;exact r.inj r'
end

noncomputable abbrev Cx.wish(X:Cx)(E:vL->sH7->Prop):Cx:={ X with xe:=E }
noncomputable abbrev Cx.nox(X:Cx):Cx:=X.wish fun _ _=>False
theorem Cx.Ok.wish(ok:X.Ok)(E:vL->sH7->Prop):(X.wish E).Ok:=
  ⟨ok.mod,ok.kind,ok.glob,ok.blt,ok.above,ok.inj,ok.has,ok.cab,ok.hd,ok.frames,ok.stk,ok.exf,ok.bs,ok.bsz,ok.noex,ok.exfs,ok.funs,ok.frf⟩
theorem Cx.Ok.unwish{E:vL->sH7->Prop}(ok:(X.wish E).Ok):X.Ok:=
  ⟨ok.mod,ok.kind,ok.glob,ok.blt,ok.above,ok.inj,ok.has,ok.cab,ok.hd,ok.frames,ok.stk,ok.exf,ok.bs,ok.bsz,ok.noex,ok.exfs,ok.funs,ok.frf⟩
section
variable {X:Cx}{pQ:Li (Ad×Obj)}{σ:St}{H:Hp}{s:sH7}{E:vL->sH7->Prop}
theorem Inv.wish(I:Inv X pQ σ H s)(E:vL->sH7->Prop):Inv (X.wish E) pQ σ H s:=⟨I.ok.wish E,I.os,I.bare,I.base,I.loc,I.cell,I.free,I.freeC,I.pin,I.hok,I.len⟩
theorem Inv.unwish(I:Inv (X.wish E) pQ σ H s):Inv X pQ σ H s:=⟨I.ok.unwish,I.os,I.bare,I.base,I.loc,I.cell,I.free,I.freeC,I.pin,I.hok,I.len⟩
theorem SP.unwish{D:Ends}{f:Flow}(h:SP (X.wish E) pQ D f s'):SP X pQ D f s':=by
  cases f with
  |next=>obtain⟨σ',H',I,q⟩:=h;exact⟨σ',H',I.unwish,q⟩
  |brk=>obtain⟨σ',H',I,q⟩:=h;exact⟨σ',H',I.unwish,q⟩
  |cont=>obtain⟨σ',H',I,q⟩:=h;exact⟨σ',H',I.unwish,q⟩
  |ret u=>obtain⟨v,σ',H',I,r,q⟩:=h;exact⟨v,σ',H',I.unwish,r,q⟩
theorem PSs.nox{st:Li Stmt}{t:TS}(h:PSs X.nox st t):PSs X st t:=fun pQ s σ H D I hw=>
  bK (h pQ s σ H D (I.wish _) hw) (fun _ _ q=>q.unwish) fun _ _ z=>False.elim z
end

section
variable {X:Cx}{st:Stmt}{rest:Li Stmt}{t u:TS}{e:Expr}{te:TE}{pos:Pos}
noncomputable def tNext:TS:=fun D σ H=>D.nx σ H
noncomputable def tSeq(t u:TS):TS:=fun D σ H=>t { D with nx:=u D } σ H
theorem pss_nil:PSs X [] tNext:=fun _ _ σ H _ I h=>wpAny_execs_nil ⟨σ,H,I,h⟩
theorem pss_cons(h1:PS X st t)(h2:PSs X rest u):PSs X (st :: rest) (tSeq t u):=by
  intro pQ s σ H D I h;refine wpAny_execs_cons (thn (h1 pQ s σ H { D with nx:=u D } I h) fun f s1 q=>?_)
  cases f with
  |next=>
    obtain⟨σ',H',I',q⟩:=q;exact h2 pQ s1 σ' H' D I' q
  |ret v=>exact q
  |brk=>exact q
  |cont=>exact q
noncomputable def tBreak:TS:=fun D σ H=>D.bk σ H
noncomputable def tCont:TS:=fun D σ H=>D.ct σ H
theorem ps_pass:PS X (.Pass pos) tNext:=fun _ _ σ H _ I h=>wpAny_Pass ⟨σ,H,I,h⟩
theorem ps_break:PS X (.Break pos) tBreak:=fun _ _ σ H _ I h=>wpAny_Break ⟨σ,H,I,h⟩
theorem ps_continue:PS X (.Continue pos) tCont:=fun _ _ σ H _ I h=>wpAny_Continue ⟨σ,H,I,h⟩
theorem Inv.quiet{σ:St}(I:Inv X pQ σ H s):interactive X.env=false:=by simp[interactive,I.ok.kind]
noncomputable def tDrop(te:TE):TS:=fun D σ H=>te σ H fun _ H1=>D.nx σ H1
theorem ps_expr(he:PE X e te)(hs:swapsWith e none pos.line X.env=pure false:=by rfl):PS X (.Expr e pos) (tDrop te):=by
  intro pQ s σ H D I h;exact wpAny_Expr_any (thn (he pQ s σ H _ I h) fun v s1 ⟨x,H1,I1,r1,q1⟩=>⟨σ,H1,I1,q1⟩) I.quiet hs
noncomputable def tRet(te:TE):TS:=fun D σ H=>te σ H D.rt
theorem ps_ret(he:PE X e te):PS X (.Return (some e) pos) (tRet te):=by
  intro pQ s σ H D I h;exact wpAny_Return_some (thn (he pQ s σ H _ I h) fun v s1 ⟨x,H1,I1,r1,q1⟩=>⟨x,σ,H1,I1,r1,q1⟩)
noncomputable def tIfS(c:TT)(t u:TS):TS:=fun D σ H=>c σ H fun b H1=>if b=true then t D σ H1 else u D σ H1
theorem ps_if{c:Expr}{a b:Li Stmt}{tc:TT}(hc:PT X c tc)(ha:PSs X a t)(hb:PSs X b u):PS X (.If c a b pos) (tIfS tc t u):=by
  intro pQ s σ H D I h;refine wpAny_If (thn (hc pQ s σ H _ I h) fun d s1 ⟨H1,I1,q1⟩=>?_)
  cases d with
  |true=>exact ha pQ s1 σ H1 D I1 q1
  |false=>exact hb pQ s1 σ H1 D I1 q1
end

abbrev TG:=V->St->Hp->(St->Hp->Prop)->Prop
abbrev TGs:=Li V->St->Hp->(St->Hp->Prop)->Prop
def PG(X:Cx)(target:Expr)(t:TG):Prop:=
  ∀ (pQ:Li (Ad×Obj)) (s:sH7) (σ:St) (H:Hp) (v:V) (u:vL) (Q:St->Hp->Prop),Inv X pQ σ H s->RelV v u->t v σ H Q->
    wpAny (model X.prog X.w) X.A (assign target X.env u) (fun _ s'=>∃ σ' H',Inv X pQ σ' H' s'/\Q σ' H') X.xe s
def PGs(X:Cx)(ts:Li Expr)(t:TGs):Prop:=
  ∀ (pQ:Li (Ad×Obj)) (s:sH7) (σ:St) (H:Hp) (vs:Li V) (us:Li vL) (Q:St->Hp->Prop),Inv X pQ σ H s->Vals vs us->t vs σ H Q->
    wpAny (model X.prog X.w) X.A (assignInOrder ((assignEach ts X.env).map (·.2)) us) (fun _ s'=>∃ σ' H',Inv X pQ σ' H' s'/\Q σ' H') X.xe s
abbrev TSet:=V->V->V->Hp->(Hp->Prop)->Prop
def PSet(X:Cx)(t:TSet):Prop:=
  ∀ (pQ:Li (Ad×Obj)) (s:sH7) (σ:St) (H:Hp) (o i v:V) (ov iv u:vL) (Q:Hp->Prop),Inv X pQ σ H s->RelV o ov->RelV i iv->RelV v u->t o i v H Q->
    wpAny (model X.prog X.w) X.A (setItem ov iv u) (fun _ s'=>∃ H',Inv X pQ σ H' s'/\Q H') X.xe s
variable{es:Li Expr}{n:Nat}{tg:Expr}
section
variable {X:Cx}{pos:Pos}
noncomputable def gName(i:Nat):TG:=fun v σ H Q=>Q (σ.set i (some v)) H
theorem pg_name{x:Str}(hN:X.N.Nodup)(hi:X.N[i]?=some x)(hx:Loc X.env.scope x)(hf:X.fn x=true\/X.env.scope.names.lookup x=some .local:=by first|exact .inl rfl|exact .inr rfl|assumption):PG X (.Name x pos) (gName i):=by
  intro pQ s σ H v u Q I r h;exact wpAny_assign_Name (store_ok I hN hi hx r (fun s' I'=>⟨_,H,I',h⟩) hf)
noncomputable def gNil:TGs:=fun vs σ H Q=>vs=[]/\Q σ H
noncomputable def gCons(t:TG)(u:TGs):TGs:=fun vs σ H Q=>∃ v r,vs=v :: r/\t v σ H fun σ' H'=>u r σ' H' Q
theorem pgs_nil:PGs X [] gNil:=by
  intro pQ s σ H vs us Q I r h;obtain⟨e,h⟩:=h;subst e;cases r;exact assignInOrder_nil ⟨σ,H,I,h⟩
theorem pgs_cons{e:Expr}{t:TG}{u:TGs}(h1:PG X e t)(h2:PGs X es u)(hs:(assignEach (e :: es) X.env).map (·.2)=assign e X.env :: (assignEach es X.env).map (·.2):=by rfl):PGs X (e :: es) (gCons t u):=by
  intro pQ s σ H vs us Q I r h;obtain⟨v,vr,e1,h⟩:=h;subst e1;cases r with
  |cons r rr=>
    rw[hs];refine assignInOrder_cons (thn (h1 pQ s σ H _ _ _ I r h) fun _ s1 ⟨σ1,H1,I1,q1⟩=>?_)
    exact h2 pQ s1 σ1 H1 _ _ Q I1 rr q1
noncomputable def gTup(K:fG7)(n:Nat)(t:TGs):TG:=fun v σ H Q=>∃ a xs,v=.ref a/\SqT K H a xs/\xs.length=n/\t xs σ H Q
theorem pg_tup{k:Nat}{t:TGs}(hc:X.calm=true)(h:PGs X es t)(hn:(assignEach es X.env).length=n:=by rfl)(hst:(assignEach es X.env).findIdx? (·.1)=none:=by rfl):PG X (.Tuple es k pos) (gTup X.K n t):=by
  intro pQ s σ H v u Q I r hw;obtain⟨a,xs,e1,hq,hl,hw⟩:=hw;subst e1;cases r;obtain⟨its,rv,ht,hz⟩:=I.tuple hq;refine assign_Tuple_tuple (I.ok.hd hc) ht (by simp[hn,<-hl,rv.length]) hst fun h' hx=>?_
  have I1:Inv X pQ σ H { s with heap:=h' }:=I.kept (t':=s.toks) fun b o e=>hx b o (aX (aK e)) e
  exact h pQ _ σ H xs _ Q I1 (by simpa using rv) hw
noncomputable def gSub(to ti:TE)(t:TSet):TG:=fun v σ H Q=>to σ H fun o H1=>ti σ H1 fun i H2=>t o i v H2 fun H3=>Q σ H3
theorem pg_sub{o i:Expr}{to ti:TE}{t:TSet}(ho:PE X o to)(hi:PE X i ti)(hs:PSet X t)(ha:∀ v,assign (.Subscript o i pos) X.env v=(do
      let ov <-holding [v] (eval o X.env)
      let iv <-holding [v,ov] (eval i X.env)
      standAt pos
      holding [v,ov,iv] (setItem ov iv v)
      release [v,ov,iv] []):=by intro _;rfl):PG X (.Subscript o i pos) (gSub to ti t):=by
  intro pQ s σ H v u Q I r h;rw[ha];refine aA (wpAny_holding (thn (ho pQ s σ H _ I h) fun ov s1 ⟨x,H1,I1,r1,q1⟩=>?_))
  refine aA (wpAny_holding (thn (hi pQ s1 σ H1 _ I1 q1) fun iv s2 ⟨y,H2,I2,r2,q2⟩=>?_))
  refine aA (wpAny_standAt (aA (wpAny_holding (thn (hs pQ s2 σ H2 x y v ov iv u _ I2 r1 r2 r q2) fun _ s3 ⟨H3,I3,q3⟩=>?_))))
  exact wpAny_release ⟨σ,H3,I3,q3⟩
noncomputable def tAsg(te:TE)(g:TG):TS:=fun D σ H=>te σ H fun x H1=>g x σ H1 D.nx
theorem ps_asg{e:Expr}{te:TE}{g:TG}(he:PE X e te)(hg:PG X tg g)(hs:swapsWithSole [tg] e pos.line X.env=pure false:=by rfl)(hw:swappedStores [tg] e X.env=pure none:=by rfl)(h1:(assignEach [tg] X.env).map (·.2)=[assign tg X.env]:=by rfl):PS X (.Assign [tg] e pos) (tAsg te g):=by
  intro pQ s σ H D I h;refine wpAny_Assign_stores (thn (he pQ s σ H _ I h) fun v s1 ⟨x,H1,I1,r1,q1⟩=>?_) hs hw
  rw[h1];exact thn (hg pQ s1 σ H1 x v _ I1 r1 q1) fun _ s2 q=>q
theorem ps_set{x:Str}{e:Expr}{te:TE}{pos':Pos}(hN:X.N.Nodup)(hi:X.N[i]?=some x)(hx:Loc X.env.scope x)(he:PE X e te)(hs:swapsWith e (some (.Name x pos')) pos.line X.env=pure false:=by rfl)(hf:X.fn x=true\/X.env.scope.names.lookup x=some .local:=by first|exact .inl rfl|exact .inr rfl|assumption) :
    PS X (.Assign [.Name x pos'] e pos) (tAsg te (gName i)):=by
  intro pQ s σ H D I h;refine wpAny_Assign_Name (thn (he pQ s σ H _ I h) fun v s1 ⟨y,H1,I1,r1,q1⟩=>?_) hs
  exact store_ok I1 hN hi hx r1 (fun s2 I2=>⟨_,H1,I2,q1⟩) hf
end

variable{body:Li Stmt}
section
variable {X:Cx}{pos:Pos}
noncomputable def tWhile(c:TT)(tb:TS):TS:=fun D σ H=>∃ W:Nat->St->Hp->Prop,(∃ m,W m σ H)/\∀ m σ H,W m σ H->
  c σ H fun b H1=>if b=true then ∃ N:St->Hp->Prop,(∀ σ' H',N σ' H'->∃ m',m' < m/\W m' σ' H')/\tb { D with nx:=N,ct:=N,bk:=D.nx } σ H1 else D.nx σ H1
theorem ps_while{c:Expr}{tc:TT}{tb:TS}(hp:PassesOwn (model X.prog X.w) X.A X.env X.xe)(hc:PT X c tc)(hb:PSs X body tb):PS X (.While c body [] pos) (tWhile tc tb):=by
  intro pQ s σ H D I h;obtain⟨W,⟨m0,w0⟩,turn⟩:=h;refine wpAny_While (codeAny_whileLoop (fun n s'=>∃ σ' H',Inv X pQ σ' H' s'/\W n σ' H') ?_ m0 ⟨σ,H,I,w0⟩)
  rintro n s1 ⟨σ1,H1,I1,w1⟩
  refine wpAny_passesOwn hp (thn (hc pQ s1 σ1 H1 _ I1 (turn n σ1 H1 w1)) fun b s2 ⟨H2,I2,q2⟩=>?_)
  cases b with
  |true=>
    obtain⟨N,hN,q2⟩:=q2;rw[if_pos rfl];refine wpAny_passesOwn hp (thn (hb pQ s2 σ1 H2 _ I2 q2) fun f s3 q3=>?_)
    cases f with
    |next=>
      obtain⟨σ3,H3,I3,n3⟩:=q3;obtain⟨m',hm,w3⟩:=hN σ3 H3 n3;exact⟨m',hm,σ3,H3,I3,w3⟩
    |cont=>
      obtain⟨σ3,H3,I3,n3⟩:=q3;obtain⟨m',hm,w3⟩:=hN σ3 H3 n3;exact⟨m',hm,σ3,H3,I3,w3⟩
    |brk=>exact q3
    |ret v=>exact q3
  |false=>
    rw[if_neg bF7];exact wpAny_execs_nil ⟨σ1,H2,I2,q2⟩
end

structure It where
  go:Nat->Hp->Prop
  yld:Nat->Hp->V->Hp->Prop
  stop:Nat->Hp->Prop
def FpOk(X:Cx)(pQ:Li (Ad×Obj))(H:Hp)(b:Ad):Prop:=
  H b=none/\b≠X.env.locals/\b∉X.fs/\(b∈X.ex\/X.s₀.heap.objs.size<=b)/\(∀ x c,X.env.cells.lookup x=some c->c≠b)/\∀ p∈X.pn++pQ,p.1≠b
theorem Inv.fpOk{σ:St}{H':Hp}{b:Ad}(I:Inv X pQ σ H s)(hb:s.heap.objs.size<=b)(hn:H' b=none):FpOk X pQ H' b:=by
  refine⟨hn,cZ (aS I.lt hb),I.nofs hb,.inr (aM I.sz hb),fun x c e z=>?_,fun p hp z=>?_⟩
  · obtain⟨v,q⟩:=I.cell x c e
    exact absurd (aS q.lt (by rw[z];exact hb)) (bZ _)
  · exact absurd (aS (aK (I.pin p hp).1) (by rw[z];exact hb)) (bZ _)
structure Turn(P:Program)(w:World)(K:fG7)(tg:Expr)(J:It)(fp:List Addr)(it:Addr)(tn:Nat->Heap->Prop):Prop where
  mem:it∈fp
  obj:∀ i h,tn i h->∀ b∈fp,∃ o,h.get? b=some o/\∀ v,o.data≠.cell v
  keep:∀ i h h',tn i h->(∀ b∈fp,∀ o,h.get? b=some o->h'.get? b=some o)->tn i h'
  item:∀ (X:Cx),X.prog=P->X.w=w->X.K=K->X.calm=true->∀ (i:Nat) (pQ:List (Addr×Obj)) (s:Shared) (σ:St) (H:Hp) (E:Value->Shared->Prop),Inv X pQ σ H s->(∀ b∈fp,FpOk X pQ H b)->tn i s.heap->J.go i H->
    wpAny (model P w) X.A (pyNext (.ref it)) (fun r s1=>∃ u,r=some u /\
      wpAny (model P w) X.A (letOwnedTupleGo tg (.ref it) u) (fun _ s2=>∃ x H',Inv X pQ σ H' s2/\RelV x u/\J.yld i H x H'/\tn (i+1) s2.heap/\∀ b∈fp,H' b=none) E s1) E s
  done:∀ (X:Cx),X.prog=P->X.w=w->X.K=K->X.calm=true->∀ (i:Nat) (pQ:List (Addr×Obj)) (s:Shared) (σ:St) (H:Hp) (E:Value->Shared->Prop),Inv X pQ σ H s->(∀ b∈fp,FpOk X pQ H b)->tn i s.heap->J.stop i H->
    wpAny (model P w) X.A (pyNext (.ref it)) (fun r s1=>r=none/\Inv X pQ σ H s1) E s
  self:∀ (A:Around) (i:Nat) (s:Shared) (Q:Value->Shared->Prop) (E:Value->Shared->Prop),tn i s.heap->Q (.ref it) s->wpAny (model P w) A (pyIter (.ref it)) Q E s
abbrev TI:=St->Hp->(It->Hp->Prop)->Prop
def PIE(X:Cx)(pQ:Li (Ad×Obj))(σ:St)(tg:Expr)(R:It->Hp->Prop)(itv:vL)(s2:sH7):Prop:=
  ∃ (it:Ad) (fp:Li Ad) (tn:Nat->Heap->Prop) (J:It) (H':Hp),itv=.ref it/\Inv X pQ σ H' s2/\Turn X.prog X.w X.K tg J fp it tn/\tn 0 s2.heap/\(∀ b∈fp,FpOk X pQ H' b)/\R J H'
def PI(X:Cx)(tg iter:Expr)(wi:TI):Prop:=
  ∀ (pQ:Li (Ad×Obj)) (s:sH7) (σ:St) (H:Hp) (R:It->Hp->Prop),Inv X pQ σ H s->wi σ H R->
    wpAny (model X.prog X.w) X.A (eval iter X.env) (fun v s1=>wpAny (model X.prog X.w) X.A (pyIter v) (PIE X pQ σ tg R) X.xe s1) X.xe s

theorem go_of{E:vL->sH7->Prop}{it:Ad}{u:vL}{o:Obj}{n:String}{vs:Array vL}{Q:Unit->sH7->Prop}(ho:s.heap.get? it=some o)(hc:o.cls=.type n)(hd:o.data=.fields vs)(hn:["enumerate", "zip", "dict_itemiterator", "dict_reverseitemiterator", "odict_iterator", "itertools.zip_longest", "itertools.pairwise"].contains n=false)(hQ:Q () s):wpAny M A (letOwnedTupleGo tg (.ref it) u) Q E s:=by
  unfold letOwnedTupleGo;cases tg<;>first
    |exact aF hQ
    | (cases u<;>first
        |exact aF hQ
        | (refine aA (wpAny_load ho ?_)
           rw[hc,hd];show wpAny M A (if (["enumerate", "zip", "dict_itemiterator", "dict_reverseitemiterator", "odict_iterator", "itertools.zip_longest", "itertools.pairwise"].contains n&&vs[0]?==some (rawInt _))=true then _ else _) Q E s
           rw[if_neg (by intro h;rw[hn,Bool.false_and]at h;cases h)]
           exact aF hQ))

noncomputable def Itl(K:fG7)(a:Ad):It:=
  ⟨fun i H=>∃ xs x,SqL K H a xs/\xs[i]?=some x,fun i H x H'=>H'=H/\∀ xs,SqL K H a xs->xs[i]?=some x,fun i H=>∃ xs,SqL K H a xs/\xs.length<=i⟩
noncomputable def Itt(K:fG7)(a:Ad):It:=
  ⟨fun i H=>∃ xs x,SqT K H a xs/\xs[i]?=some x,fun i H x H'=>H'=H/\∀ xs,SqT K H a xs->xs[i]?=some x,fun i H=>∃ xs,SqT K H a xs/\xs.length<=i⟩
noncomputable def Itr(lo:Int)(n:Nat):It:=⟨fun i _=>i < n,fun i H x H'=>H'=H/\x=.int (lo+i),fun i _=>n<=i⟩
theorem turn_list{P:Program}(a it:Ad):Turn P w K tg (Itl K a) [it] it (fun i h=>h.IsListIter it a i) where
  mem:=by simp
  obj:=fun i h st b hb=>by
    have e:b=it:=by simpa using hb
    subst e;obtain⟨o,e,c,d⟩:=st;exact⟨o,e,fun v z=>by rw[d]at z;cases z⟩
  keep:=fun i h h' st k=>st.at fun o e=>k it (by simp) o e
  item:=by
    intro X hP hw hK hc i pQ s σ H E I hf st hg;subst hP hw hK;obtain⟨xs,x,hq,hx⟩:=hg;obtain⟨its,rv,p,hz⟩:=I.list hq;obtain⟨u,hu,ru⟩:=rv.get hx;obtain⟨f0,f1,f2,f3,f4,f5⟩:=hf it (by simp)
    refine wpAny_pyNext_list_item st p.isList (x:=u) (by simpa using hu) fun h' st' sb=>?_
    have I1:Inv X pQ σ H { s with heap:=h' }:=I.turned (t':=s.toks) (fun b o hb e=>(sb.2 b hb).trans e) f0 f1 f3 f4 f5
    obtain⟨o,e,c,d⟩:=id st';exact⟨u,rfl,go_of (s:={ s with heap:=h' }) e c d (by decide) ⟨x,H,I1,ru,⟨rfl,fun ys hy=>by rw[I.list_inj hy hq];exact hx⟩,st',fun b hb=>(hf b hb).1⟩⟩
  done:=by
    intro X hP hw hK hc i pQ s σ H E I hf st hg;subst hP hw hK;obtain⟨xs,hq,hx⟩:=hg;obtain⟨its,rv,p,hz⟩:=I.list hq;obtain⟨f0,f1,f2,f3,f4,f5⟩:=hf it (by simp)
    have hl:=rv.length;exact wpAny_pyNext_list_end (I.ok.hd hc) st p.isList (by simp;omega) fun h' eb=>⟨rfl,I.turned (t':=s.toks) (fun b o hb e=>eb b o hb e) f0 f1 f3 f4 f5⟩
  self:=fun _ _ _ _ _ st h=>wpAny_pyIter_listiter st h
theorem turn_tuple{P:Program}(a it:Ad):Turn P w K tg (Itt K a) [it] it (fun i h=>h.IsTupleIter it a i) where
  mem:=by simp
  obj:=fun i h st b hb=>by
    have e:b=it:=by simpa using hb
    subst e;obtain⟨o,e,c,d⟩:=st;exact⟨o,e,fun v z=>by rw[d]at z;cases z⟩
  keep:=fun i h h' st k=>st.at fun o e=>k it (by simp) o e
  item:=by
    intro X hP hw hK hc i pQ s σ H E I hf st hg;subst hP hw hK;obtain⟨xs,x,hq,hx⟩:=hg;obtain⟨its,rv,p,hz⟩:=I.tuple hq;obtain⟨u,hu,ru⟩:=rv.get hx;obtain⟨f0,f1,f2,f3,f4,f5⟩:=hf it (by simp)
    refine wpAny_pyNext_tuple_item st (show s.heap.IsTuple a its.toArray from p) (x:=u) (by simpa using hu) fun h' st' sb=>?_
    have I1:Inv X pQ σ H { s with heap:=h' }:=I.turned (t':=s.toks) (fun b o hb e=>(sb.2 b hb).trans e) f0 f1 f3 f4 f5
    obtain⟨o,e,c,d⟩:=id st';exact⟨u,rfl,go_of (s:={ s with heap:=h' }) e c d (by decide) ⟨x,H,I1,ru,⟨rfl,fun ys hy=>by rw[I.tuple_inj hy hq];exact hx⟩,st',fun b hb=>(hf b hb).1⟩⟩
  done:=by
    intro X hP hw hK hc i pQ s σ H E I hf st hg;subst hP hw hK;obtain⟨xs,hq,hx⟩:=hg;obtain⟨its,rv,p,hz⟩:=I.tuple hq;obtain⟨f0,f1,f2,f3,f4,f5⟩:=hf it (by simp)
    have hl:=rv.length;exact wpAny_pyNext_tuple_end (I.ok.hd hc) st (show s.heap.IsTuple a its.toArray from p) (by simp;omega) fun h' eb=>⟨rfl,I.turned (t':=s.toks) (fun b o hb e=>eb b o hb e) f0 f1 f3 f4 f5⟩
  self:=fun _ _ _ _ _ st h=>wpAny_pyIter_tupleiter st h
theorem turn_range{P:Program}(it:Ad)(lo:Int)(n:Nat):Turn P w K tg (Itr lo n) [it] it (fun i h=>IsRangeIter h it (lo+(i:Nat) * 1) ((n:Int) - (i:Nat)) 1) where
  mem:=by simp
  obj:=fun i h st b hb=>by
    have e:b=it:=by simpa using hb
    subst e;exact⟨_,st,fun v z=>by
      have z':Data.fields _=Data.cell v:=z;cases z'⟩
  keep:=fun i h h' st k=>k it (by simp) _ st
  item:=by
    intro X hP hw hK hc i pQ s σ H E I hf st hg;subst hP hw hK;obtain⟨f0,f1,f2,f3,f4,f5⟩:=hf it (by simp)
    have W:=Walks.range (prog:=X.prog) (w:=X.w) (I.ok.hd hc) it lo 1 n;refine W.item i s _ _ hg st fun v h' tk hv st' kk=>?_
    obtain⟨t,rfl⟩:=hv;have I1:Inv X pQ σ H { s with heap:=h',toks:=tk }:=I.turned (fun b o hb e=>kk b o (by simpa using hb) e) f0 f1 f3 f4 f5
    refine⟨_,rfl,go_of (s:={ s with heap:=h',toks:=tk }) (n := "range_iterator") st' rfl rfl (by decide) ⟨.int (lo+i),H,I1,⟨t,?_⟩,⟨rfl,rfl⟩,st',fun b hb=>(hf b hb).1⟩⟩
    rw[Int.mul_one]
  done:=by
    intro X hP hw hK hc i pQ s σ H E I hf st hg;subst hP hw hK;obtain⟨f0,f1,f2,f3,f4,f5⟩:=hf it (by simp)
    exact wpAny_pyNext_range_end (I.ok.hd hc) st (by have:n<=i:=hg;omega) fun h' eb=>⟨rfl,I.turned (t':=s.toks) (fun b o hb e=>eb b o hb e) f0 f1 f3 f4 f5⟩
  self:=fun _ _ _ _ _ st h=>wpAny_pyIter_rangeiter st h
variable{l:Expr}{lo:Int}{fp:Li Ad}
section
variable {X:Cx}{tg:Expr}
noncomputable def iList(K:fG7)(tl:TE):TI:=fun σ H R=>tl σ H fun x H1=>∃ a,x=.ref a/\(∃ xs,SqL K H1 a xs)/\R (Itl K a) H1
noncomputable def iTup(K:fG7)(tl:TE):TI:=fun σ H R=>tl σ H fun x H1=>∃ a,x=.ref a/\(∃ xs,SqT K H1 a xs)/\R (Itt K a) H1
theorem pi_list{tl:TE}(hl:PE X l tl):PI X tg l (iList X.K tl):=by
  intro pQ s σ H R I h;refine thn (hl pQ s σ H _ I h) fun v s1 ⟨x,H1,I1,r1,q1⟩=>?_
  obtain⟨a,e,⟨xs,hq⟩,q⟩:=q1;subst e;cases r1;obtain⟨its,rv,p,hz⟩:=I1.list hq;refine wpAny_pyIter_list p.isList ?_;refine⟨s1.heap.objs.size,[s1.heap.objs.size],_,_,H1,rfl,I1.kept (t':=s1.toks) fun b o e=>aQ _ e,turn_list a _,⟨_,bA _ rfl,rfl,rfl⟩,fun b hb=>?_,q⟩
  have e:b=s1.heap.objs.size:=by simpa using hb
  subst e;exact I1.fpOk (aD _) (I1.hok.fresh (aD _))
theorem pi_tup{tl:TE}(hl:PE X l tl):PI X tg l (iTup X.K tl):=by
  intro pQ s σ H R I h;refine thn (hl pQ s σ H _ I h) fun v s1 ⟨x,H1,I1,r1,q1⟩=>?_
  obtain⟨a,e,⟨xs,hq⟩,q⟩:=q1;subst e;cases r1;obtain⟨its,rv,p,hz⟩:=I1.tuple hq;refine wpAny_pyIter_tuple (show s1.heap.IsTuple a its.toArray from p) ?_;refine⟨s1.heap.objs.size,[s1.heap.objs.size],_,_,H1,rfl,I1.kept (t':=s1.toks) fun b o e=>aQ _ e,turn_tuple a _,⟨_,bA _ rfl,rfl,rfl⟩,fun b hb=>?_,q⟩
  have e:b=s1.heap.objs.size:=by simpa using hb
  subst e;exact I1.fpOk (aD _) (I1.hok.fresh (aD _))
theorem range_it{σ:St}{R:It->Hp->Prop}{E:vL->sH7->Prop}{hi:Int}{t u v:Tok}{tk:Nat}(I:Inv X pQ σ H s)(h1:-(2 ^ 62)<=lo)(h2:lo < 2 ^ 62)(h3:-(2 ^ 62)<=hi)(h4:hi < 2 ^ 62)(q:R (Itr lo (hi - lo).toNat) H):wpAny (model X.prog X.w) X.A (pyIter (.ref s.heap.objs.size)) (PIE X pQ σ tg R) E { s with heap:=s.heap.push { cls:=.type "range",data:=.fields #[.int lo t,.int hi u,.int 1 v] },toks:=tk }:=by
  refine wpAny_pyIter_range (IsRange.new ..) (small_one h1 h2 h3 h4) ?_;have I1:Inv X pQ σ H { s with heap:=s.heap.push { cls:=.type "range",data:=.fields #[.int lo t,.int hi u,.int 1 v] },toks:=tk }:=I.kept fun b o e=>aQ _ e
  refine⟨(s.heap.push { cls:=.type "range",data:=.fields #[.int lo t,.int hi u,.int 1 v] }).objs.size,[(s.heap.push { cls:=.type "range",data:=.fields #[.int lo t,.int hi u,.int 1 v] }).objs.size],_,_,H,rfl,
    I1.kept (t':=tk) fun b o e=>aQ _ e,turn_range _ lo (hi - lo).toNat,?_,fun b hb=>?_,q⟩
  · have e1:lo+((0:Nat):Int) * 1=lo:=by simp
    have e2:(((hi - lo).toNat:Nat):Int) - ((0:Nat):Int)=Builtin.Range.rangeSize lo hi 1:=by rw[rangeSize_one];split<;>omega
    show IsRangeIter _ _ (lo+((0:Nat):Int) * 1) ((((hi - lo).toNat:Nat):Int) - ((0:Nat):Int)) 1;rw[e1,e2];exact bA _ rfl
  · have e:b=(s.heap.push { cls:=.type "range",data:=.fields #[.int lo t,.int hi u,.int 1 v] }).objs.size:=by simpa using hb
    subst e;exact I1.fpOk (aD _) (I1.hok.fresh (aD _))
noncomputable def iRng1(ta:TA):TI:=fun σ H R=>ta σ H fun vs H1=>∃ j:Int,vs=[.int j]/\-(2 ^ 62)<=j/\j < 2 ^ 62/\R (Itr 0 j.toNat) H1
theorem pi_range1{a:Expr}{ta:TA}{p pos:Pos}(hg:Gl X "range")(hm:X.mg "range"=none)(ha:PA X [a] ta)(hs:starEach [a] X.env=[(false,eval a X.env)]:=by rfl):PI X tg (.Call (.Name "range" p) [a] [] pos) (iRng1 ta):=by
  intro pQ s σ H R I h;refine Call_ (ld_blt I hg hm boot_range (PyProof.Rows.callWith_type1 (thn (ha pos pQ s σ H _ I h) fun us s1 ⟨vs,H1,I1,r1,q1⟩=>?_) hs rfl))
  obtain⟨j,e,q1,q2,q⟩:=q1;subst e;cases r1 with
  |cons r rr=>
    cases rr;obtain⟨t,rfl⟩:=r;exact call_range_1 (range_it I1 (by omega) (by omega) q1 q2 (by simpa using q))

noncomputable def tFor(wi:TI)(g:TG)(tb:TS):TS:=fun D σ H=>wi σ H fun J H1=>∃ W:Nat->Nat->St->Hp->Prop,(∃ m,W 0 m σ H1)/\∀ i m σ H,W i m σ H->
  (J.stop i H/\D.nx σ H)\/(J.go i H/\∃ N:St->Hp->Prop,(∀ σ' H',N σ' H'->∃ m',m' < m/\W (i+1) m' σ' H')/\∀ x H',J.yld i H x H'->g x σ H' fun σ2 H2=>tb { D with nx:=N,ct:=N,bk:=D.nx } σ2 H2)
noncomputable def pinsAt(fp:Li Ad)(h:Heap):Li (Ad×Obj):=fp.filterMap fun b=>(h.get? b).map fun o=>(b,o)
theorem mem_pinsAt{b:Ad}{o:Obj}(hb:b∈fp)(e:h.get? b=some o):(b,o)∈pinsAt fp h:=List.mem_filterMap.mpr ⟨b,hb,by rw[e];rfl⟩
theorem of_pinsAt{p:Ad×Obj}(hp:p∈pinsAt fp h):p.1∈fp/\h.get? p.1=some p.2:=by
  obtain⟨b,hb,e⟩:=List.mem_filterMap.mp hp;cases q:h.get? b with
  |none=>rw[q]at e;cases e
  |some o=>
    rw[q]at e;have e':(b,o)=p:=Option.some.inj e;subst e';exact⟨hb,q⟩
theorem Inv.pinned{σ:St}{fp:Li Ad}(I:Inv X pQ σ H s)(hf:∀ b∈fp,FpOk X pQ H b)(ho:∀ b∈fp,∃ o,s.heap.get? b=some o/\∀ v,o.data≠.cell v):Inv X (pQ++pinsAt fp s.heap) σ H s:=
  I.pins_of fun p hp=>(bI.mp hp).elim (fun z=>I.pin p (cA _ z)) fun z=>by
    obtain⟨hb,e⟩:=of_pinsAt z;obtain⟨f0,f1,f2,_⟩:=hf p.1 hb;obtain⟨o,e',d⟩:=ho p.1 hb;rw[e]at e';cases e'
    exact⟨e,f0,f1,f2,d⟩
theorem Inv.unpinned{pl:Li (Ad×Obj)}{σ:St}(I:Inv X (pQ++pl) σ H s):Inv X pQ σ H s:=I.pins_of fun p hp=>I.pin p (cA _ (List.mem_append_left _ hp))
theorem ps_for{iter:Expr}{wi:TI}{g:TG}{tb:TS}{pos:Pos}(hp:PassesOwn (model X.prog X.w) X.A X.env X.xe)(hc:X.calm=true)(hi:PI X tg iter wi)(hg:PG X tg g)(hb:PSs X body tb)(hs:∀ x,foldedSetIterable iter X.env x=pure x:=by intro _;rfl):PS X (.For tg iter body [] pos) (tFor wi g tb):=by
  intro pQ s σ H D I h;refine wpAny_For (thn (hi pQ s σ H _ I h) fun v s1 h1=>thn h1 fun itv s2 h2=>?_) hs
  obtain⟨it,fp,tn,J,H2,e,I2,T,st2,f2,W,⟨m0,w0⟩,turn⟩:=h2;subst e
  -- what stays true of the iterator's objects through the loop
  have stat:∀ {H':Hp},(∀ b∈fp,H' b=none)->∀ b∈fp,FpOk X pQ H' b:=fun hn b hb=>⟨hn b hb,(f2 b hb).2⟩
  refine codeAny_forLoop_any (fun n s'=>∃ i σ' H',Inv X pQ σ' H' s'/\tn i s'.heap/\(∀ b∈fp,H' b=none)/\W i n σ' H') ?_ m0 ⟨0,σ,H2,I2,st2,fun b hb=>(f2 b hb).1,w0⟩
  rintro n s3 ⟨i,σ3,H3,I3,st3,fr3,w3⟩
  rcases turn i n σ3 H3 w3 with⟨stop,qn⟩|⟨go,N,hN,step⟩
  · refine wpAny_passesOwn hp (thn (T.done X rfl rfl rfl hc i pQ s3 σ3 H3 X.xe I3 (stat fr3) st3 stop) fun r s4 ⟨hr,I4⟩=>?_)
    subst hr;exact wpAny_execs_nil ⟨σ3,H3,I4,qn⟩
  · refine wpAny_passesOwn hp (thn (T.item X rfl rfl rfl hc i pQ s3 σ3 H3 X.xe I3 (stat fr3) st3 go) fun r s4 ⟨u,hr,h4⟩=>?_)
    subst hr;refine wpAny_passesOwn hp (thn h4 fun _ s5 ⟨x,H5,I5,r5,y5,st5,fr5⟩=>?_)
    have I5':=I5.pinned (stat fr5) (T.obj _ _ st5);refine wpAny_passesOwn hp (thn (hg _ s5 σ3 H5 x u _ I5' r5 (step x H5 y5)) fun _ s6 ⟨σ6,H6,I6,q6⟩=>?_)
    refine wpAny_passesOwn hp (thn (hb _ s6 σ6 H6 _ I6 q6) fun f s7 q7=>?_)
    have again:∀ {σ7:St}{H7:Hp},Inv X (pQ++pinsAt fp s5.heap) σ7 H7 s7->N σ7 H7->∃ m,m < n/\∃ i σ' H',Inv X pQ σ' H' s7/\tn i s7.heap/\(∀ b∈fp,H' b=none)/\W i m σ' H':=fun {σ7 H7} I7 n7=>by
      obtain⟨m',hm,w7⟩:=hN σ7 H7 n7;refine⟨m',hm,i+1,σ7,H7,I7.unpinned,T.keep _ _ _ st5 fun b hb o e=>(I7.pin (b,o) (cA _ (cA _ (mem_pinsAt hb e)))).1,fun b hb=>?_,w7⟩
      obtain⟨o,e,d⟩:=T.obj _ _ st5 b hb;exact(I7.pin (b,o) (cA _ (cA _ (mem_pinsAt hb e)))).2.1
    cases f with
    |next=>obtain⟨σ7,H7,I7,n7⟩:=q7;exact again I7 n7
    |cont=>obtain⟨σ7,H7,I7,n7⟩:=q7;exact again I7 n7
    |brk=>obtain⟨σ7,H7,I7,q7⟩:=q7;exact⟨σ7,H7,I7.unpinned,q7⟩
    |ret v=>obtain⟨x7,σ7,H7,I7,r7,q7⟩:=q7;exact⟨x7,σ7,H7,I7.unpinned,r7,q7⟩
end

theorem for_tup{a:Ad}{g:TG}{tb:TS}{D:Ends}{σ:St}{H:Hp}(Pv:Nat->St->Hp->Prop)(h0:Pv 0 σ H)(hl:∀ i σ H,i<=xs.length->Pv i σ H->SqT K H a xs)(hs:∀ i x σ H,xs[i]?=some x->Pv i σ H->g x σ H fun σ2 H2=>tb { D with nx:=Pv (i+1),ct:=Pv (i+1),bk:=D.nx } σ2 H2)(hd:∀ σ H,Pv xs.length σ H->D.nx σ H) :
    ∃ W:Nat->Nat->St->Hp->Prop,(∃ m,W 0 m σ H)/\∀ i m σ H,W i m σ H->
      ((Itt K a).stop i H/\D.nx σ H)\/((Itt K a).go i H/\∃ N:St->Hp->Prop,(∀ σ' H',N σ' H'->∃ m',m' < m/\W (i+1) m' σ' H')/\∀ x H',(Itt K a).yld i H x H'->g x σ H' fun σ2 H2=>tb { D with nx:=N,ct:=N,bk:=D.nx } σ2 H2):=by
  refine⟨fun i m σ H=>m=xs.length - i/\i<=xs.length/\Pv i σ H,⟨xs.length,by simp,aU _,h0⟩,?_⟩
  rintro i m σ H ⟨rfl,hi,p⟩
  have q:=hl i σ H hi p;by_cases hlt:i < xs.length
  · refine .inr ⟨⟨xs,xs[i],q,by simp[hlt]⟩,Pv (i+1),fun σ' H' p'=>⟨xs.length - (i+1),by omega,rfl,hlt,p'⟩,fun x H' y=>?_⟩
    obtain⟨e,y⟩:=y;subst e;exact hs i x σ _ (y xs q) p
  · have e:i=xs.length:=by omega
    subst e;exact .inl ⟨⟨xs,q,aD _⟩,hd σ H p⟩
theorem for_range{g:TG}{tb:TS}{D:Ends}{σ:St}{H:Hp}(Pv:Nat->St->Hp->Prop)(h0:Pv 0 σ H)(hs:∀ i σ H,i < n->Pv i σ H->g (.int (lo+i)) σ H fun σ2 H2=>tb { D with nx:=Pv (i+1),ct:=Pv (i+1),bk:=D.nx } σ2 H2)(hd:∀ σ H,Pv n σ H->D.nx σ H) :
    ∃ W:Nat->Nat->St->Hp->Prop,(∃ m,W 0 m σ H)/\∀ i m σ H,W i m σ H->
      ((Itr lo n).stop i H/\D.nx σ H)\/((Itr lo n).go i H/\∃ N:St->Hp->Prop,(∀ σ' H',N σ' H'->∃ m',m' < m/\W (i+1) m' σ' H')/\∀ x H',(Itr lo n).yld i H x H'->g x σ H' fun σ2 H2=>tb { D with nx:=N,ct:=N,bk:=D.nx } σ2 H2):=by
  refine⟨fun i m σ H=>m=n - i/\i<=n/\Pv i σ H,⟨n,by simp,aU _,h0⟩,?_⟩
  rintro i m σ H ⟨rfl,hi,p⟩
  by_cases hlt:i < n
  · refine .inr ⟨hlt,Pv (i+1),fun σ' H' p'=>⟨n - (i+1),by omega,rfl,hlt,p'⟩,fun x H' y=>?_⟩
    obtain⟨e,y⟩:=y;subst e y;exact hs i σ _ hlt p
  · have e:i=n:=by omega
    subst e;exact .inl ⟨aD _,hd σ H p⟩
abbrev R2:=V->V->Hp->VK->Prop
def OpR(X:Cx)(f:vL->vL->Sem vL)(r:R2):Prop:=
  ∀ (pQ:Li (Ad×Obj)) (s:sH7) (σ:St) (H:Hp) (x y:V) (v u:vL) (Q:VK),Inv X pQ σ H s->RelV x v->RelV y u->r x y H Q->
    wpAny (model X.prog X.w) X.A (f v u) (EP X pQ σ Q) X.xe s
def UnR(X:Cx)(f:vL->Sem vL)(r:V->Hp->VK->Prop):Prop:=
  ∀ (pQ:Li (Ad×Obj)) (s:sH7) (σ:St) (H:Hp) (x:V) (v:vL) (Q:VK),Inv X pQ σ H s->RelV x v->r x H Q->
    wpAny (model X.prog X.w) X.A (f v) (EP X pQ σ Q) X.xe s
def CallR(X:Cx)(f:vL)(r:Li V->Hp->VK->Prop):Prop:=
  ∀ (pQ:Li (Ad×Obj)) (s:sH7) (σ:St) (H:Hp) (xs:Li V) (us:Li vL) (Q:VK),Inv X pQ σ H s->Vals xs us->r xs H Q->
    wpAny (model X.prog X.w) X.A (call f us) (EP X pQ σ Q) X.xe s

noncomputable def tOp(r:R2)(ta tb:TE):TE:=fun σ H Q=>ta σ H fun x H1=>tb σ H1 fun y H2=>r x y H2 Q
noncomputable def tUn(r:V->Hp->VK->Prop)(ta:TE):TE:=fun σ H Q=>ta σ H fun x H1=>r x H1 Q
noncomputable def rI(C:Int->Int->Prop)(g:Int->Int->V):R2:=fun x y H Q=>∃ i j,x=.int i/\y=.int j/\C i j/\Q (g i j) H
noncomputable def rI0(g:Int->Int->V):R2:=fun x y H Q=>∃ i j,x=.int i/\y=.int j/\Q (g i j) H
def rU(g:Int->V):V->Hp->VK->Prop:=fun x H Q=>∃ i,x=.int i/\Q (g i) H

section
variable {X:Cx}{a b c:Expr}{ta tb tc:TE}{pos:Pos}

theorem binT(ha:PE X a ta)(hb:PE X b tb){σ:St}{R:V->V->Hp->Prop}(I:Inv X pQ σ H s)(h:ta σ H fun x H1=>tb σ H1 fun y H2=>R x y H2){f:vL->vL->Sem vL}(hf:∀ v u s2 x y H2,Inv X pQ σ H2 s2->RelV x v->RelV y u->R x y H2->wpAny (model X.prog X.w) X.A (f v u) Q X.xe s2) :
    wpAny (model X.prog X.w) X.A (eval a X.env) (fun v s₁=>wpAny (model X.prog X.w) X.A (eval b X.env) (fun u s₂=>wpAny (model X.prog X.w) X.A (f v u) Q X.xe s₂) X.xe s₁) X.xe s:=by
  refine thn (ha pQ s σ H _ I h) fun v s1 ⟨x,H1,I1,r1,q1⟩=>?_
  refine thn (hb pQ s1 σ H1 _ I1 q1) fun u s2 ⟨y,H2,I2,r2,q2⟩=>?_
  exact hf v u s2 x y H2 I2 r1 r2 q2

theorem pe_op{op:Operator}{r:R2}(ho:OpR X (binaryOp op) r)(ha:PE X a ta)(hb:PE X b tb):PE X (.BinOp a op b pos) (tOp r ta tb):=by
  intro pQ s σ H Q I h;exact wpAny_BinOp (binT ha hb I h fun v u s2 x y H2 I2 rx ry q=>ho pQ s2 σ H2 x y v u Q I2 rx ry q)
theorem pe_un{op:UnaryOp}{r:V->Hp->VK->Prop}(ho:UnR X (unaryOp op) r)(ha:PE X a ta):PE X (.UnaryOp op a pos) (tUn r ta):=by
  intro pQ s σ H Q I h;exact UnaryOp_ (thn (ha pQ s σ H _ I h) fun v s1 ⟨x,H1,I1,r1,q1⟩=>ho pQ s1 σ H1 x v Q I1 r1 q1)

theorem opI{f:vL->vL->Sem vL}{C:Int->Int->Prop}{g:Int->Int->Int}(rule:∀ (i j:Int) (t u:Tok) (s:sH7) (Q:vL->sH7->Prop) (E:vL->sH7->Prop),C i j->Q (.int (g i j) s.toks) { s with toks:=s.toks+1 }->wpAny (model X.prog X.w) X.A (f (.int i t) (.int j u)) Q E s) :
    OpR X f (rI C fun i j=>.int (g i j)):=by
  intro pQ s σ H x y v u Q I rx ry h;obtain⟨i,j,rfl,rfl,hc,q⟩:=h;obtain⟨t,rfl⟩:=rx;obtain⟨t',rfl⟩:=ry;exact rule i j t t' s _ _ hc ⟨.int (g i j),H,I.tok _,⟨_,rfl⟩,q⟩
theorem opI0{f:vL->vL->Sem vL}{g:Int->Int->Int}(rule:∀ (i j:Int) (t u:Tok) (s:sH7) (Q:vL->sH7->Prop) (E:vL->sH7->Prop),Q (.int (g i j) s.toks) { s with toks:=s.toks+1 }->wpAny (model X.prog X.w) X.A (f (.int i t) (.int j u)) Q E s) :
    OpR X f (rI0 fun i j=>.int (g i j)):=by
  intro pQ s σ H x y v u Q I rx ry h;obtain⟨i,j,rfl,rfl,q⟩:=h;obtain⟨t,rfl⟩:=rx;obtain⟨t',rfl⟩:=ry;exact rule i j t t' s _ _ ⟨.int (g i j),H,I.tok _,⟨_,rfl⟩,q⟩
theorem opB0{f:vL->vL->Sem vL}{g:Int->Int->Bool}(rule:∀ (i j:Int) (t u:Tok) (s:sH7) (Q:vL->sH7->Prop) (E:vL->sH7->Prop),Q (.bool (g i j)) s->wpAny (model X.prog X.w) X.A (f (.int i t) (.int j u)) Q E s) :
    OpR X f (rI0 fun i j=>.bl (g i j)):=by
  intro pQ s σ H x y v u Q I rx ry h;obtain⟨i,j,rfl,rfl,q⟩:=h;obtain⟨t,rfl⟩:=rx;obtain⟨t',rfl⟩:=ry;exact rule i j t t' s _ _ ⟨.bl (g i j),H,I,rfl,q⟩

def CDiv(i j:Int):Prop:=0 < j/\j < 1073741824
def CDivN(i j:Int):Prop:=j≠0/\j.natAbs < 1073741824
def CPow(i j:Int):Prop:=0<=j/\j<=1000000/\i.natAbs < 2 ^ 64
def CMul(i j:Int):Prop:=(-(2 ^ 64) < i/\i < 2 ^ 64)\/(-(2 ^ 64) < j/\j < 2 ^ 64)
theorem CMul.ok{i j:Int}(h:CMul i j):IntMulOk i j:=by
  rcases h with⟨h1,h2⟩|⟨h1,h2⟩
  · exact .of_left (intBits_le_64 h1 h2)
  · exact .of_right (intBits_le_64 h1 h2)

theorem op_add:OpR X (binaryOp .Add) (rI0 fun i j=>.int (i+j)):=opI0 fun _ _ _ _ _ _ _ q=>add_int q
theorem op_sub:OpR X (binaryOp .Sub) (rI0 fun i j=>.int (i - j)):=opI0 fun _ _ _ _ _ _ _ q=>sub_int q
theorem op_mul:OpR X (binaryOp .Mult) (rI CMul fun i j=>.int (i * j)):=opI fun _ _ _ _ _ _ _ hc q=>mul_int q hc.ok
theorem op_fdiv:OpR X (binaryOp .FloorDiv) (rI CDiv fun i j=>.int (i / j)):=opI fun i j _ _ _ _ _ hc q=>by
  have h1:(0:Int) < j:=hc.1;have h2:j < 1073741824:=hc.2;exact floordiv_int (by omega) (by rw[Int.fdiv_eq_ediv_of_nonneg i (by omega)];exact q) (.inl (PyProof.noPylong_small (by omega)))
theorem op_fdivN:OpR X (binaryOp .FloorDiv) (rI CDivN fun i j=>.int (i.fdiv j)):=opI fun _ _ _ _ _ _ _ hc q=>floordiv_int hc.1 q (.inl (PyProof.noPylong_small hc.2))
theorem op_mod:OpR X (binaryOp .Mod) (rI (fun _ j=>0 < j) fun i j=>.int (i % j)):=opI fun i j _ _ _ _ _ hc q=>by
  have h1:(0:Int) < j:=hc;exact mod_int' (by omega) (by rw[Int.fmod_eq_emod_of_nonneg i (by omega)];exact q)
theorem op_modN:OpR X (binaryOp .Mod) (rI (fun _ j=>j≠0) fun i j=>.int (i.fmod j)):=opI fun _ _ _ _ _ _ _ hc q=>mod_int' hc q
theorem op_shl:OpR X (binaryOp .LShift) (rI CPow fun i j=>.int (i * 2 ^ j.toNat)):=opI fun _ _ _ _ _ _ _ hc q=>lshift_int_small hc.1 hc.2.1 hc.2.2 q
theorem op_and:OpR X (binaryOp .BitAnd) (rI0 fun i j=>.int (Builtin.bitAnd i j)):=opI0 fun _ _ _ _ _ _ _ q=>and_int q
theorem op_or:OpR X (binaryOp .BitOr) (rI0 fun i j=>.int (Builtin.bitOr i j)):=opI0 fun _ _ _ _ _ _ _ q=>or_int q


theorem unI{f:vL->Sem vL}{g:Int->Int}(rule:∀ (i:Int) (t:Tok) (s:sH7) (Q:vL->sH7->Prop) (E:vL->sH7->Prop),Q (.int (g i) s.toks) { s with toks:=s.toks+1 }->wpAny (model X.prog X.w) X.A (f (.int i t)) Q E s) :
    UnR X f (rU fun i=>.int (g i)):=by
  intro pQ s σ H x v Q I rx h;obtain⟨i,rfl,q⟩:=h;obtain⟨t,rfl⟩:=rx;exact rule i t s _ _ ⟨.int (g i),H,I.tok _,⟨_,rfl⟩,q⟩
theorem un_neg:UnR X (unaryOp .USub) (rU fun i=>.int (-i)):=unI fun _ _ _ _ _ q=>neg_int q

end

noncomputable def scal:V->V->Bool
  |.non,.non=>true|.non,.int _=>true|.int _,.non=>true|.non,.bl _=>true|.bl _,.non=>true|.non,.str _=>true|.str _,.non=>true
  |.int _,.int _=>true|.bl _,.bl _=>true|.str _,.str _=>true|.byt _,.byt _=>true
  |.int _,.str _=>true|.str _,.int _=>true|.bl _,.str _=>true|.str _,.bl _=>true
  |_,_=>false
noncomputable def rEq:R2:=fun x y H Q=>scal x y=true/\Q (.bl (decide (x=y))) H
noncomputable def rNe:R2:=fun x y H Q=>scal x y=true/\Q (.bl (!decide (x=y))) H

theorem dec_int{i j:Int}:decide (V.int i=V.int j)=(i==j):=by
  rw[bL];simp
theorem dec_bl{i j:Bool}:decide (V.bl i=V.bl j)=(i==j):=by
  rw[bL];simp
theorem dec_str{i j:Str}:decide (V.str i=V.str j)=(i==j):=by
  rw[bL];simp
theorem dec_byt{i j:Array UInt8}:decide (V.byt i=V.byt j)=(i.toList==j.toList):=by
  rw[bL];cases i;cases j;simp

variable{op:CmpOp}
section
variable {X:Cx}{a b c:Expr}{ta tb tc:TE}{pos:Pos}
theorem fin_bl{σ:St}{Q:VK}{k k':Bool}(I:Inv X pQ σ H s)(q:Q (.bl k) H)(e:k=k'):EP X pQ σ Q (.bool k') s:=by
  subst e;exact⟨.bl k,H,I,rfl,q⟩
theorem op_eq:OpR X (compareOp .Eq) rEq:=by
  intro pQ s σ H x y v u Q I rx ry h;obtain⟨hs,q⟩:=h;cases x with
  |non=>
    cases rx;cases y with
    |non=>cases ry;exact PySem.EqNone.eq_none_none (fin_bl I q (by simp))
    |bl j=>cases ry;exact PySem.EqNone.eq_none_bool (fin_bl I q (by simp))
    |int j=>obtain⟨t',rfl⟩:=ry;exact PySem.EqNone.eq_none_int (fin_bl I q (by simp))
    |str j=>obtain⟨t',rfl⟩:=ry;exact PySem.EqNone.eq_none_str (fin_bl I q (by simp))
    |_=>exact absurd (show false=true from hs) bF7
  |bl i=>
    cases rx;cases y with
    |non=>cases ry;exact PySem.EqNone.eq_bool_none (fin_bl I q (by simp))
    |bl j=>cases ry;exact eq_bool (fin_bl I q dec_bl)
    |str j=>obtain⟨t',rfl⟩:=ry;exact PySem.EqMixed.eq_bool_str (fin_bl I q (by simp))
    |_=>exact absurd (show false=true from hs) bF7
  |int i=>
    obtain⟨t,rfl⟩:=rx;cases y with
    |non=>cases ry;exact PySem.EqNone.eq_int_none (fin_bl I q (by simp))
    |int j=>obtain⟨t',rfl⟩:=ry;exact eq_int (fin_bl I q dec_int)
    |str j=>obtain⟨t',rfl⟩:=ry;exact PySem.EqMixed.eq_int_str (fin_bl I q (by simp))
    |_=>exact absurd (show false=true from hs) bF7
  |str i=>
    obtain⟨t,rfl⟩:=rx;cases y with
    |non=>cases ry;exact PySem.EqNone.eq_str_none (fin_bl I q (by simp))
    |bl j=>cases ry;exact PySem.EqMixed.eq_str_bool (fin_bl I q (by simp))
    |int j=>obtain⟨t',rfl⟩:=ry;exact PySem.EqMixed.eq_str_int (fin_bl I q (by simp))
    |str j=>obtain⟨t',rfl⟩:=ry;exact eq_str (fin_bl I q dec_str)
    |_=>exact absurd (show false=true from hs) bF7
  |byt i=>
    obtain⟨t,rfl⟩:=rx;cases y with
    |byt j=>obtain⟨t',rfl⟩:=ry;exact PySem.W.eq_bytes (fin_bl I q dec_byt)
    |_=>exact absurd (show false=true from hs) bF7
  |_=>cases y<;>exact absurd (show false=true from hs) bF7
theorem op_ne:OpR X (compareOp .NotEq) rNe:=by
  intro pQ s σ H x y v u Q I rx ry h;obtain⟨hs,q⟩:=h;cases x with
  |non=>
    cases rx;cases y with
    |non=>cases ry;exact PySem.EqNone.ne_none_none (fin_bl I q (by simp))
    |bl j=>cases ry;exact PySem.EqNone.ne_none_bool (fin_bl I q (by simp))
    |int j=>obtain⟨t',rfl⟩:=ry;exact PySem.EqNone.ne_none_int (fin_bl I q (by simp))
    |str j=>obtain⟨t',rfl⟩:=ry;exact PySem.EqNone.ne_none_str (fin_bl I q (by simp))
    |_=>exact absurd (show false=true from hs) bF7
  |bl i=>
    cases rx;cases y with
    |non=>cases ry;exact PySem.EqNone.ne_bool_none (fin_bl I q (by simp))
    |bl j=>cases ry;exact ne_bool (fin_bl I q (congrArg not dec_bl))
    |str j=>obtain⟨t',rfl⟩:=ry;exact PySem.EqMixed.ne_bool_str (fin_bl I q (by simp))
    |_=>exact absurd (show false=true from hs) bF7
  |int i=>
    obtain⟨t,rfl⟩:=rx;cases y with
    |non=>cases ry;exact PySem.EqNone.ne_int_none (fin_bl I q (by simp))
    |int j=>obtain⟨t',rfl⟩:=ry;exact ne_int (fin_bl I q (congrArg not dec_int))
    |str j=>obtain⟨t',rfl⟩:=ry;exact PySem.EqMixed.ne_int_str (fin_bl I q (by simp))
    |_=>exact absurd (show false=true from hs) bF7
  |str i=>
    obtain⟨t,rfl⟩:=rx;cases y with
    |non=>cases ry;exact PySem.EqNone.ne_str_none (fin_bl I q (by simp))
    |bl j=>cases ry;exact PySem.EqMixed.ne_str_bool (fin_bl I q (by simp))
    |int j=>obtain⟨t',rfl⟩:=ry;exact PySem.EqMixed.ne_str_int (fin_bl I q (by simp))
    |str j=>obtain⟨t',rfl⟩:=ry;exact ne_str (fin_bl I q (congrArg not dec_str))
    |_=>exact absurd (show false=true from hs) bF7
  |byt i=>
    obtain⟨t,rfl⟩:=rx;cases y with
    |byt j=>obtain⟨t',rfl⟩:=ry;exact PySem.W.ne_bytes (fin_bl I q (congrArg not dec_byt))
    |_=>exact absurd (show false=true from hs) bF7
  |_=>cases y<;>exact absurd (show false=true from hs) bF7

theorem op_lt:OpR X (compareOp .Lt) (rI0 fun i j=>.bl (decide (i < j))):=opB0 fun _ _ _ _ _ _ _ q=>lt_int q
theorem op_le:OpR X (compareOp .LtE) (rI0 fun i j=>.bl (decide (i<=j))):=opB0 fun _ _ _ _ _ _ _ q=>le_int q
theorem op_gt:OpR X (compareOp .Gt) (rI0 fun i j=>.bl (decide (j < i))):=opB0 fun _ _ _ _ _ _ _ q=>gt_int q
theorem op_ge:OpR X (compareOp .GtE) (rI0 fun i j=>.bl (decide (j<=i))):=opB0 fun _ _ _ _ _ _ _ q=>ge_int q
theorem op_in_str:OpR X (compareOp .In) (fun x y H Q=>∃ i j,x=.str i/\y=.str j/\Q (.bl (!(Builtin.Str.occurrences j i 0 j.length 1).isEmpty)) H):=by
  intro pQ s σ H x y v u Q I rx ry h;obtain⟨i,j,rfl,rfl,q⟩:=h;obtain⟨t,rfl⟩:=rx;obtain⟨t',rfl⟩:=ry;exact in_str (fin_bl I q rfl)

theorem op_isN:OpR X (compareOp .Is) (fun x y H Q=>y=.non/\Q (.bl (decide (x=.non))) H):=by
  intro pQ s σ H x y v u Q I rx ry h;obtain⟨rfl,q⟩:=h;cases ry;refine is_none_gen (fin_bl I q ?_);cases x<;>first
    | (cases rx;rfl)
    | (obtain⟨t,rfl⟩:=rx;rfl)
theorem op_notN:OpR X (compareOp .IsNot) (fun x y H Q=>y=.non/\Q (.bl (!decide (x=.non))) H):=by
  intro pQ s σ H x y v u Q I rx ry h;obtain⟨rfl,q⟩:=h;cases ry;refine isnot_none_gen (fin_bl I q ?_);cases x<;>first
    | (cases rx;rfl)
    | (obtain⟨t,rfl⟩:=rx;rfl)



theorem pe_cmpR{r:R2}(ho:OpR X (compareOp op) r)(ha:PE X a ta)(hb:PE X b tb)(hm:behindInMarks op b=false):PE X (.Compare a [op] [b] pos) (tOp r ta tb):=by
  intro pQ s σ H Q I h;exact wpAny_Compare1 (binT ha hb I h fun v u s2 x y H2 I2 rx ry q=>ho pQ s2 σ H2 x y v u Q I2 rx ry q) hm
noncomputable def tTest(t:TE):TT:=fun σ H Q=>t σ H fun x H'=>∃ k,x=.bl k/\Q k H'
theorem pt_cmpR{r:R2}(ho:OpR X (compareOp op) r)(ha:PE X a ta)(hb:PE X b tb)(hm:behindInMarks op b=false):PT X (.Compare a [op] [b] pos) (tTest (tOp r ta tb)):=by
  intro pQ s σ H Q I h;refine wpAny_isTrue_Compare1 (thn (ha pQ s σ H _ I h) fun v s1 ⟨x,H1,I1,r1,q1⟩=>thn (hb pQ s1 σ H1 _ I1 q1) fun u s2 ⟨y,H2,I2,r2,q2⟩=>
    thn (ho pQ s2 σ H2 x y v u _ I2 r1 r2 q2) fun c s3 ⟨z,H3,I3,r3,k,e,q3⟩=>?_) hm
  subst e;cases r3;exact wpAny_truthy_bool ⟨H3,I3,q3⟩

theorem line63:(sizeLine:Nat) < 2 ^ 63:=by rw[sizeLine_eq];decide

theorem op_add_str:OpR X (binaryOp .Add) (fun x y H Q=>∃ i j,x=.str i/\y=.str j/\i.length+j.length<=sizeLine/\Q (.str (i++j)) H):=by
  intro pQ s σ H x y v u Q I rx ry h;obtain⟨i,j,rfl,rfl,hz,q⟩:=h;obtain⟨t,rfl⟩:=rx;obtain⟨t',rfl⟩:=ry;exact add_str (fun t' tk=>⟨.str (i++j),H,I.tok _,⟨_,rfl⟩,q⟩) hz


theorem vals1{x:V}(r:Vals [x] us):∃ u,us=[u]/\RelV x u:=by
  cases r with
  |cons r1 r2=>cases r2;exact⟨_,rfl,r1⟩
theorem vals2{x:V}(r:Vals [x,y] us):∃ u w',us=[u,w']/\RelV x u/\RelV y w':=by
  cases r with
  |cons r1 r2=>
    cases r2 with
    |cons r3 r4=>cases r4;exact⟨_,_,rfl,r1,r3⟩
theorem call_max2(hc:X.calm=true):CallR X (.builtin "max") (fun xs H Q=>∃ i j,xs=[.int i,.int j]/\Q (.int (if j > i then j else i)) H):=by
  intro pQ s σ H xs us Q I r h;obtain⟨i,j,rfl,q⟩:=h;obtain⟨u,w',rfl,⟨t,rfl⟩,⟨t',rfl⟩⟩:=vals2 r;refine max_two_ints (I.ok.hd hc) fun h' tk k=>⟨_,H,I.kept k,?_,q⟩
  by_cases hj:j > i
  · rw[if_pos hj,if_pos hj];exact⟨_,rfl⟩
  · rw[if_neg hj,if_neg hj];exact⟨_,rfl⟩
theorem call_min2(hc:X.calm=true):CallR X (.builtin "min") (fun xs H Q=>∃ i j,xs=[.int i,.int j]/\Q (.int (if j < i then j else i)) H):=by
  intro pQ s σ H xs us Q I r h;obtain⟨i,j,rfl,q⟩:=h;obtain⟨u,w',rfl,⟨t,rfl⟩,⟨t',rfl⟩⟩:=vals2 r;refine min_two_ints (I.ok.hd hc) fun h' tk k=>⟨_,H,I.kept k,?_,q⟩
  by_cases hj:j < i
  · rw[if_pos hj,if_pos hj];exact⟨_,rfl⟩
  · rw[if_neg hj,if_neg hj];exact⟨_,rfl⟩
def LenV(K:fG7)(x:V)(H:Hp)(n:Nat):Prop:=
  match x with
  |.str y=>y.length<=sizeLine/\n=y.length
  |.byt y=>y.size<=sizeLine/\n=y.size
  |.ref p=>(∃ xs,SqL K H p xs/\n=xs.length)\/∃ xs,SqT K H p xs/\n=xs.length
  |_=>False
theorem call_len:CallR X (.builtin "len") (fun xs H Q=>∃ x n,xs=[x]/\LenV X.K x H n/\Q (.int n) H):=by
  intro pQ s σ H xs us Q I r h;obtain⟨x,n,rfl,e,q⟩:=h;obtain⟨u,rfl,rx⟩:=vals1 r;have hl:=line63;have hs:sizeLine=16777216:=sizeLine_eq;cases x with
  |str y=>
    obtain⟨t,rfl⟩:=rx;obtain⟨hy,e'⟩:y.length<=sizeLine/\n=y.length:=e;subst e';exact len_str (by omega) ⟨.int _,H,I.tok _,⟨_,rfl⟩,q⟩
  |byt y=>
    obtain⟨t,rfl⟩:=rx;obtain⟨hy,e'⟩:y.size<=sizeLine/\n=y.size:=e;subst e';exact PySem.W.len_bytes (by omega) ⟨.int _,H,I.tok _,⟨_,rfl⟩,q⟩
  |ref p=>
    cases rx;have e':(∃ xs,SqL X.K H p xs/\n=xs.length)\/∃ xs,SqT X.K H p xs/\n=xs.length:=e;rcases e' with⟨xs,hx,e'⟩|⟨xs,hx,e'⟩
    · subst e'
      obtain⟨its,r',pl,hz⟩:=I.list hx;have hlen:=r'.length;exact Calls.call_len_list pl.isList (by simp only[aJ];omega) ⟨.int xs.length,H,I.tok _,⟨_,by simp only[aJ];rw[hlen]⟩,q⟩
    · subst e'
      obtain⟨its,r',pl,hz⟩:=I.tuple hx;have hlen:=r'.length;exact len_tuple pl (by simp only[aJ];omega) ⟨.int xs.length,H,I.tok _,⟨_,by simp only[aJ];rw[hlen]⟩,q⟩
  |_=>exact(show False from e).elim
end
structure ObjM(h:Heap)(x dx C:Addr)(mA:Str->Option Value):Prop where
  obj:h.get? x=some (PySem.W.instObj C dx)
  ns:h.Ns1 dx mA
  ne:dx≠x

variable{mA:Str->Ot vL}
theorem lookIn_ns{dx:Ad}(n:h.Ns1 dx mA):∃ od,h.get? dx=some od/\∀ name,PySem.W.lookIn name od=some (mA name):=by
  obtain⟨o,es,ep,ho,hd,hk,_,hm⟩:=n;refine⟨o,ho,fun name=>?_⟩
  have e:=hm name;unfold nsFind findBy at e;rw[<-Array.find?_toList]at e;unfold PySem.W.lookIn;rw[hd];dsimp only;split
  · rename_i y q
    rw[q]at e;exact congrArg some e
  · rename_i q
    rw[q]at e;have a:es.toList.any (·.refKey)=false:=by
      rw[List.any_eq_false];intro y hy;obtain⟨z,t,hkey⟩:=hk y (Array.mem_toList_iff.mp hy);simp[DictEntry.refKey,hkey]
    have a':¬es.toList.any (·.refKey)=true:=by rw[a];exact bF7
    rw[if_neg a'];exact congrArg some e

theorem ObjM.look{x dx C:Ad}(I:ObjM h x dx C mA):∃ od,PySem.W.InstAt h x (PySem.W.instObj C dx) C (some od)/\∀ name,PySem.W.lookIn name od=some (mA name):=
  let ⟨od,ho,hl⟩:=lookIn_ns I.ns
  ⟨od,⟨I.obj,rfl,rfl,ho⟩,hl⟩

variable{pl:Sem Bool}{kw:Li (Str×vL)}
section
variable {prog:Program}{w:World}{A:Around}{E:vL->sH7->Prop}{s:sH7}{K:fG7}{x dx C f:Ad}{mA:Str->Ot vL}{name:Str}{v:vL}

theorem get_map{expr:Bool}(X:K.In s.heap)(I:ObjM s.heap x dx C mA)(hg:PySem.W.plainGet K C name=true)(hh:PySem.W.hasDictIn K C=true)(ha:PySem.W.findIn K (.ref C) name=some none)(hv:mA name=some v)(hv':PySem.W.handedIn v=true)(h:Q v { s with toks:=s.toks+1 }) :
    wpAny (model prog w) A (getAttr (.ref x) name expr) Q E s:=by
  obtain⟨od,J,hl⟩:=I.look;exact PySem.W.get_value X J (PySem.W.plainGet_of hg).1 (PySem.W.findObj_own hh ha rfl (by rw[hl,hv])) hv' h


theorem get_meth{Q:vL×Li vL->sH7->Prop}(X:K.In s.heap)(I:ObjM s.heap x dx C mA)(hg:PySem.W.plainGet K C name=true)(hf:PySem.W.findIn K (.ref C) name=some (some (.ref f)))(ht:PySem.W.isFn K (.ref f)=true)(hv:mA name=none)(h:Q (.ref f,[.ref x]) s) :
    wpAny (model prog w) A (getMethod (.ref x) name pl) Q E s:=by
  obtain⟨od,J,hl⟩:=I.look;exact PySem.W.method_fn X J (PySem.W.plainGet_of hg).1 (PySem.W.plainGet_of hg).2 hf (beq_iff_eq.mp ht) (by show(PySem.W.lookIn name od).map (·.isSome)=some false;rw[hl,hv];rfl) h

theorem set_map{ns:Li Str}{Q:Unit->sH7->Prop}(X:K.In s.heap)(I:ObjM s.heap x dx C mA)(hs:PySem.W.findIn K (.ref C) "__setattr__"=some (some (.builtin "object.__setattr__")))(hp:PySem.W.plainOver K C=true)(ht:PySem.W.takerIn K C name=some none)(hh:PySem.W.hasDictIn K C=true)(hw:PySem.Within mA ns)(hsz:ns.length<=sizeLine)(h:∀ h',ObjM h' x dx C (fun y=>if y=name then some v else mA y)->Heap.SameBut dx s.heap h'->Q () { s with heap:=h',toks:=s.toks+2 }) :
    wpAny (model prog w) A (setAttr (.ref x) name v) Q E s:=by
  obtain⟨od,J,hl⟩:=I.look;refine PySem.W.set_plain X J hs (PySem.W.osa_open (s:={ s with toks:=s.toks+1 }) (r:=none) X J hp ht fun b=>?_)
  obtain⟨cd,hc,hd'⟩:=PySem.W.any_some hh;have hx:s.heap.get? x=some ⟨.ref C,some dx,.plain,#[]⟩:=I.obj;refine aA (aF (aA (aA (wpAny_loadPart hx (aA (PySem.W.Looks.here (s:={ s with toks:=s.toks+1 }) (PySem.W.looks_clsIn X hc) ?_))))))
  rw[hd'];refine aF (a:=some dx) (aA (aF (aA ?_)));refine wpAny_nsSet1 (s:={ s with toks:=s.toks+1 }) I.ns fun h' hn2 hs2=>?_
  obtain⟨oD,esD,epD,hoD,hdD,hcD⟩:=hn2.count (PySem.Within.cons name v hw);refine aA (wpAny_lookBehind hoD (by rw[hdD];exact pastItsLine_dict (aM hcD (by rw[aO];omega))) ?_)
  exact aF (h _ ⟨(hs2.2 _ (Ne.symm I.ne)).trans I.obj,hn2,I.ne⟩ hs2)

theorem make_map{R:Result->sH7->Prop}{vs:Li vL}(X:K.In s.heap)(hm:PySem.W.makesIn K C=true)(hi:PySem.W.findIn K (.ref C) "__init__"=some (some (.ref f)))(hf:PySem.W.typeIn K (.ref f)=some (.type "function"))(h:codeAny (model prog w) (A.under (.builtin "type.__call__" ⟨.ref C :: vs,kw⟩)) (.call (.ref f) ⟨.ref (s.heap.objs.size+1) :: vs,kw⟩) (PySem.W.InitBack (s.heap.objs.size+1) R)
      { s with heap:=(s.heap.push PySem.W.emptyDict).push (PySem.W.instObj C s.heap.objs.size) }) :
    codeAny (model prog w) A (.call (.ref C) ⟨vs,kw⟩) R s:=by
  obtain⟨hh,g,d,t,os⟩:=s;exact PySem.W.make_core (PySem.W.makes_of X hm) (PySem.W.looks_findIn X hi) (fun self=>PySem.W.bind_fn X self hf) (.inl rfl) h
end

noncomputable def putF(f:Str)(v:V):Li (Str×V)->Li (Str×V)
  |[]=>[(f,v)]
  | (g,x) :: r=>if g=f then (g,v) :: r else (g,x) :: putF f v r
theorem lookup_putF(f g:Str)(v:V):∀ fs:Li (Str×V),(putF f v fs).lookup g=if g=f then some v else fs.lookup g
  |[]=>by
    show List.lookup g [(f,v)]=_;by_cases h:g=f
    · have hb:(g==f)=true:=beq_iff_eq.mpr h
      simp only[List.lookup,hb,if_pos h]
    · have hb:(g==f)=false:=bY.mpr h
      simp only[List.lookup,hb,if_neg h]
  | (k,x) :: r=>by
    have ih:=lookup_putF f g v r;rw[show putF f v ((k,x) :: r)=(if k=f then (k,v) :: r else (k,x) :: putF f v r) from rfl]
    by_cases hk:k=f
    · rw[if_pos hk]
      by_cases h:g=k
      · have hb:(g==k)=true:=beq_iff_eq.mpr h
        simp only[List.lookup,hb,if_pos (h.trans hk)]
      · have hb:(g==k)=false:=bY.mpr h
        simp only[List.lookup,hb,if_neg (fun e:g=f=>h (e.trans hk.symm))]
    · rw[if_neg hk]
      by_cases h:g=k
      · have hb:(g==k)=true:=beq_iff_eq.mpr h
        simp only[List.lookup,hb,if_neg (fun e:g=f=>hk (h.symm.trans e))]
      · have hb:(g==k)=false:=bY.mpr h
        simp only[List.lookup,hb];exact ih
theorem keys_putF(f:Str)(v:V):∀ fs:Li (Str×V),f∈(putF f v fs).map (·.1)/\∀ g,g∈fs.map (·.1)->g∈(putF f v fs).map (·.1)
  |[]=>⟨by simp[putF],fun g h=>by simp at h⟩
  | (k,x) :: r=>by
    obtain⟨i1,i2⟩:=keys_putF f v r;rw[show putF f v ((k,x) :: r)=(if k=f then (k,v) :: r else (k,x) :: putF f v r) from rfl]
    by_cases hk:k=f
    · rw[if_pos hk]
      subst hk;exact⟨by simp,fun g h=>by simpa using h⟩
    · rw[if_neg hk]
      refine⟨?_,fun g h=>?_⟩
      · rw[aL]
        exact lM7 _ i1
      · rw[aL]at h ⊢
        rcases aG.mp h with e|e
        · exact aG.mpr (.inl e)
        · exact lM7 _ (i2 g e)
theorem length_putF(f:Str)(v:V):∀ fs:Li (Str×V),(putF f v fs).length<=fs.length+1
  |[]=>by simp[putF]
  | (k,x) :: r=>by
    have ih:=length_putF f v r;rw[show putF f v ((k,x) :: r)=(if k=f then (k,v) :: r else (k,x) :: putF f v r) from rfl]
    by_cases hk:k=f
    · rw[if_pos hk,aO,aO];omega
    · rw[if_neg hk,aO,aO];omega

theorem RelO.some_of{v:V}{o:Ot vL}(r:RelO (some v) o):∃ u,o=some u/\RelV v u:=by
  cases o with
  |none=>exact(show False from r).elim
  |some u=>exact⟨u,rfl,r⟩
theorem RelO.none_of{o:Ot vL}(r:RelO none o):o=none:=by
  cases o with
  |none=>rfl
  |some u=>exact(show False from r).elim
theorem handed_of{v:V}{u:vL}(r:RelV v u):PySem.W.handedIn u=true:=by
  cases v with
  |non=>cases (show u=Value.none from r);rfl
  |bl b=>cases (show u=Value.bool b from r);rfl
  |int i=>obtain⟨t,e⟩:=(show ∃ t,u=Value.int i t from r);cases e;rfl
  |str x=>obtain⟨t,e⟩:=(show ∃ t,u=Value.str x t from r);cases e;rfl
  |byt b=>obtain⟨t,e⟩:=(show ∃ t,u=Value.bytes b t from r);cases e;rfl
  |flt b=>obtain⟨t,e⟩:=(show ∃ t,u=Value.float b t from r);cases e;rfl
  |ref a=>cases (show u=Value.ref a from r);rfl
  |ty n=>cases (show u=Value.type n from r);rfl

section
variable {P:Program}{w:World}{H H':Hp}{h h':Heap}{a C dx:Ad}{fs fs':Li (Str×V)}
theorem ins_get(hok:HOk P w H h)(e:H a=some (.ins C dx fs)):∃ mA,ObjM h a dx C mA/\(∀ f,RelO (fs.lookup f) (mA f))/\PySem.Within mA (fs.map (·.1))/\fs.length<=1000/\H dx=some (.own a):=by
  obtain⟨d,z,ne,ob,mA,n,r,q⟩:=(show ObjOk P w H h a (.ins C dx fs) from hok a _ e);exact⟨mA,⟨ob,n,ne⟩,r,q,z,d⟩
end

structure Cls(K:fG7)(C:Addr):Prop where
  pg:PySem.W.plainGet K C Str.empty=true
  hd:PySem.W.hasDictIn K C=true
  po:PySem.W.plainOver K C=true
  sa:PySem.W.findIn K (.ref C) "__setattr__"=some (some (.builtin "object.__setattr__"))
theorem Cls.get{C:Ad}(c:Cls K C)(f:Str):PySem.W.plainGet K C f=true:=c.pg
def NoAttr(K:fG7)(C:Ad)(f:Str):Prop:=PySem.W.findIn K (.ref C) f=some none
theorem NoAttr.taker{C:Ad}{f:Str}(n:NoAttr K C f):PySem.W.takerIn K C f=some none:=by
  unfold PySem.W.takerIn;rw[show PySem.W.findIn K (.ref C) f=some none from n];rfl
structure Con(K:fG7)(C:Addr)(f:Str)(v:V)(u:Value):Prop where
  at_:PySem.W.findIn K (.ref C) f=some (some u)
  rel:RelV v u
  get:PySem.W.specialIn K u "__get__"=some none
  cp:PySem.W.copiedNames.contains f=false
structure Meth(K:fG7)(C:Addr)(m:Str)(f:Addr):Prop where
  at_:PySem.W.findIn K (.ref C) m=some (some (.ref f))
  fn:PySem.W.isFn K (.ref f)=true
  kp:PySem.W.keepIn K (.ref f)=true

section
variable {X:Cx}{pQ:Li (Ad×Obj)}{σ:St}{H:Hp}{s:sH7}{a C dx:Ad}{fs:Li (Str×V)}{f:Str}{v:V}{A:Around}{E:vL->sH7->Prop}

theorem getattr_ok{b:Bool}(I:Inv X pQ σ H s)(e:H a=some (.ins C dx fs))(c:Cls X.K C)(n:NoAttr X.K C f)(l:fs.lookup f=some v)(h:∀ u s',Inv X pQ σ H s'->RelV v u->Q u s'):wpAny (model X.prog X.w) A (getAttr (.ref a) f b) Q E s:=by
  obtain⟨mA,O,r,_,_,_⟩:=ins_get I.hok e;obtain⟨u,hu,ru⟩:=RelO.some_of (v:=v) (o:=mA f) (by rw[<-l];exact r f)
  exact get_map I.kIn O (c.get f) c.hd n hu (handed_of ru) (h u _ (I.tok _) ru)


theorem getmeth_ok{m:Str}{g:Ad}{Q:vL×Li vL->sH7->Prop}(I:Inv X pQ σ H s)(e:H a=some (.ins C dx fs))(c:Cls X.K C)(k:Meth X.K C m g)(l:fs.lookup m=none)(h:Q (.ref g,[.ref a]) s):wpAny (model X.prog X.w) A (getMethod (.ref a) m pl) Q E s:=by
  obtain⟨mA,O,r,_,_,_⟩:=ins_get I.hok e;have hn:mA m=none:=RelO.none_of (by rw[<-l];exact r m)
  exact get_meth I.kIn O (c.get m) k.at_ k.fn hn h

theorem setattr_ok{u:vL}{Q:Unit->sH7->Prop}(I:Inv X pQ σ H s)(e:H a=some (.ins C dx fs))(c:Cls X.K C)(n:NoAttr X.K C f)(hl:fs.length < 1000)(ry:RelV y u)(h:∀ s',Inv X pQ σ (upd H a (.ins C dx (putF f y fs))) s'->Q () s'):wpAny (model X.prog X.w) A (setAttr (.ref a) f u) Q E s:=by
  obtain⟨mA,O,r,wi,_,ho⟩:=ins_get I.hok e;have hz:(fs.map (·.1)).length<=sizeLine:=by rw[aB,sizeLine_eq];omega
  refine set_map I.kIn O c.sa c.po n.taker c.hd wi hz fun h' O' sb=>h _ ?_
  have hd:∃ o,h'.get? dx=some o:=let ⟨o,_,_,e',_⟩:=O'.ns;⟨o,e'⟩
  refine I.write (x:=a) (e:=dx) (by rw[e];exact True.intro) (.inr ho) (fun b q hb z=>(sb.2 b hb).trans z) hd ?_
  refine⟨by rw[upd_ne O.ne];exact ho,?_,O.ne,O'.obj,_,O'.ns,fun g=>?_,fun g hg=>?_⟩
  · have:=length_putF f y fs;omega
  · show RelO ((putF f y fs).lookup g) (if g=f then some u else mA g)
    rw[lookup_putF];by_cases q:g=f
    · rw[if_pos q,if_pos q];exact ry
    · rw[if_neg q,if_neg q];exact r g
  · by_cases q:g=f
    · rw[q];exact(keys_putF f y fs).1
    · refine(keys_putF f y fs).2 g (wi g fun z=>hg ?_)
      show(if g=f then some u else mA g)=none
      rw[if_neg q];exact z

theorem Inv.made(I:Inv X pQ σ H s):Inv X pQ σ (upd (upd H s.heap.objs.size (.own (s.heap.objs.size+1))) (s.heap.objs.size+1) (.ins C s.heap.objs.size []))
    { s with heap:=(s.heap.push PySem.W.emptyDict).push (PySem.W.instObj C s.heap.objs.size) }:=by
  have e1:(s.heap.push PySem.W.emptyDict).get? s.heap.objs.size=some PySem.W.emptyDict:=bA s.heap rfl;have e2:((s.heap.push PySem.W.emptyDict).push (PySem.W.instObj C s.heap.objs.size)).get? (s.heap.objs.size+1)=some (PySem.W.instObj C s.heap.objs.size):=by
    have:=bA (s.heap.push PySem.W.emptyDict) (o:=PySem.W.instObj C s.heap.objs.size) rfl
    rwa [Heap.size_push]at this
  have e3:(s.heap.push PySem.W.emptyDict).Ns s.heap.objs.size (fun _=>none):=⟨PySem.W.emptyDict,#[],_,e1,rfl,(fun e he=>absurd he (by simp)),fun _=>rfl⟩
  have I1:=I.laid (a:=s.heap.objs.size) (o:=.own (s.heap.objs.size+1)) (h':=s.heap.push PySem.W.emptyDict) (t':=s.toks) (fun b u q=>aQ _ q) (aD _) ⟨_,e1⟩
  refine I1.laid (a:=s.heap.objs.size+1) (o:=.ins C s.heap.objs.size []) (t':=s.toks) (fun b u q=>aQ _ q) (cL (Heap.size_push _ _)) ?_
  have ne:s.heap.objs.size≠s.heap.objs.size+1:=aX (bM _);refine⟨by rw[upd_ne ne,upd_same],aU _,ne,e2,fun _=>none,(Heap.Ns1.of_empty e3).at fun o q=>aQ _ q,fun _=>True.intro,fun y hy=>absurd rfl hy⟩

theorem attr_of{prog:Program}{env:Env}{e:Expr}{pos:Pos}(hb:attributeBase e f env (eval e env)=eval e env)(h:wpAny (model prog w) A (eval e env) (fun o s₁=>wpAny (model prog w) A (getAttr o f true) Q E s₁) E s):wpAny (model prog w) A (eval (.Attribute e f pos) env) Q E s:=
  Attribute_any_ h (by rw[arm_eval_Attribute,hb])
end

noncomputable def tFld(K:fG7)(ta:TE)(f:Str):TE:=fun σ H Q=>ta σ H fun x H1=>∃ a C dx fs v,x=.ref a/\H1 a=some (.ins C dx fs)/\Cls K C/\NoAttr K C f/\fs.lookup f=some v/\Q v H1
noncomputable def sFld(K:fG7)(ta tv:TE)(f:Str):TS:=fun D σ H=>tv σ H fun y H1=>ta σ H1 fun x H2=>∃ a C dx fs,x=.ref a/\H2 a=some (.ins C dx fs)/\Cls K C/\NoAttr K C f/\fs.length < 1000 /\
  D.nx σ (upd H2 a (.ins C dx (putF f y fs)))

section
variable {X:Cx}{o e value:Expr}{f:Str}{pos pos' tpos:Pos}{ta tv:TE}
theorem pe_fld(he:PE X e ta)(hb:attributeBase e f X.env (eval e X.env)=eval e X.env):PE X (.Attribute e f pos) (tFld X.K ta f):=by
  intro pQ s σ H Q I h;refine attr_of hb (thn (he pQ s σ H _ I h) fun u s1 ⟨x,H1,I1,rx,a,C,dx,fs,v,ex,ea,c,n,l,q⟩=>?_)
  subst ex;obtain rfl:u=Value.ref a:=rx;exact getattr_ok I1 ea c n l fun u' s2 I2 ru=>⟨v,H1,I2,ru,q⟩
theorem ps_fld(ha:PE X o ta)(hv:PE X value tv)(hs:swapsWith value (some (.Attribute o f pos')) pos.line X.env=pure false):PS X (.Assign [.Attribute o f pos'] value pos) (sFld X.K ta tv f):=by
  intro pQ s σ H D I h;refine plainObj_wpAny_Assign_Attribute (thn (hv pQ s σ H _ I h) fun u s1 ⟨y,H1,I1,ry,q⟩=>thn (ha pQ s1 σ H1 _ I1 q) fun ov s2 ⟨x,H2,I2,rx,a,C,dx,fs,ex,ea,c,n,l,q2⟩=>?_) hs
  subst ex;obtain rfl:ov=Value.ref a:=rx;exact setattr_ok I2 ea c n l ry fun s3 I3=>⟨σ,_,I3,q2⟩

end

section
variable {X:Cx}{pQ:Li (Ad×Obj)}{σ:St}{H:Hp}{s:sH7}{A:Around}{E:vL->sH7->Prop}{Q:vL->sH7->Prop}{c:vL}{b:Bool}
inductive TyOf(K:fG7)(H:Hp):V->Value->Prop where
  |non:TyOf K H .non (.type "NoneType")
  |bl (x:Bool):TyOf K H (.bl x) (.type "bool")
  |int (i:Int):TyOf K H (.int i) (.type "int")
  |str (x:Str):TyOf K H (.str x) (.type "str")
  |flt (x:UInt64):TyOf K H (.flt x) (.type "float")
  |lst {a:Addr}{xs:List V} (e:H a=some (.lst xs)):TyOf K H (.ref a) (.type "list")
  |frz {a:Addr}{o:Obj}{xs:List V} (e:H a=some (.frz o (.lst xs))):TyOf K H (.ref a) (.type "list")
  |tup {a:Addr}{xs:List V} (e:H a=some (.tup xs)):TyOf K H (.ref a) (.type "tuple")
  |dK {a:Addr}{kvs:List (Key×V)} (e:H a=some (.dK kvs)):TyOf K H (.ref a) (.type "dict")
  |dT {a:Addr}{kvs:List (List Key×V)} (e:H a=some (.dT kvs)):TyOf K H (.ref a) (.type "dict")
  |ins {a C dx:Addr}{fs:List (Str×V)} (e:H a=some (.ins C dx fs)) (cl:Cls K C) (ha:PySem.W.findIn K (.ref C) "__class__"=some (some (.builtin "object.__class__")))
      (hn:PySem.W.specialIn K (.builtin "object.__class__") "__get__"=some (some (.builtin "getset_descriptor.__get__"))) (htk:PySem.W.takesIn K (.builtin "object.__class__")=some true)
      (hm:PySem.W.mroIn K C (.type "object")=some true):TyOf K H (.ref a) (.ref C)
theorem isinst_ok{x:V}{u t:vL}(I:Inv X pQ σ H s)(rx:RelV x u)(ty:TyOf X.K H x t)(e:PySem.W.kitOne X.K t c=some b)(h:∀ tk,Q (.bool b) { s with toks:=tk }) :
    wpAny (model X.prog X.w) A (call (.builtin "isinstance") [u,c]) Q E s:=by
  cases ty with
  |non=>cases (show u=Value.none from rx);exact PySem.W.kia_one PySem.W.kitx_none I.kIn True.intro e (fun z=>nomatch z) h
  |bl y=>cases (show u=Value.bool y from rx);exact PySem.W.kia_one PySem.W.kitx_bool I.kIn True.intro e (fun z=>nomatch z) h
  |int i=>obtain⟨t,q⟩:=(show ∃ t,u=Value.int i t from rx);cases q;exact PySem.W.kia_one PySem.W.kitx_int I.kIn True.intro e (fun z=>nomatch z) h
  |str y=>obtain⟨t,q⟩:=(show ∃ t,u=Value.str y t from rx);cases q;exact PySem.W.kia_one PySem.W.kitx_str I.kIn True.intro e (fun z=>nomatch z) h
  |flt y=>obtain⟨t,q⟩:=(show ∃ t,u=Value.float y t from rx);cases q;exact PySem.W.kia_one PySem.W.kitx_float I.kIn True.intro e (fun z=>nomatch z) h
  |@lst a xs ea=>
    cases (show u=Value.ref a from rx)
    obtain⟨_,_,n,_,h1⟩:=(show ObjOk X.prog X.w H s.heap a (.lst xs) from I.hok a _ ea);exact PySem.W.kia_one PySem.W.kitx_list I.kIn ⟨_,h1,rfl⟩ e (fun z=>nomatch z) h
  |@frz a ob xs ea=>
    cases (show u=Value.ref a from rx)
    obtain⟨_,_,_,n,_,h1⟩:=(show ObjOk X.prog X.w H s.heap a (.frz ob (.lst xs)) from I.hok a _ ea);exact PySem.W.kia_one PySem.W.kitx_list I.kIn ⟨_,h1,rfl⟩ e (fun z=>nomatch z) h
  |@tup a xs ea=>
    cases (show u=Value.ref a from rx)
    obtain⟨_,_,_,p⟩:=(show ObjOk X.prog X.w H s.heap a (.tup xs) from I.hok a _ ea);obtain⟨o,h1,h2,_⟩:=p;exact PySem.W.kia_one PySem.W.kitx_tuple I.kIn ⟨o,h1,h2⟩ e (fun z=>nomatch z) h
  |@dK a kvs ea=>
    cases (show u=Value.ref a from rx)
    obtain⟨_,_,vs,_,p⟩:=(show ObjOk X.prog X.w H s.heap a (.dK kvs) from I.hok a _ ea);obtain⟨o,es,ep,h1,h2,_⟩:=p;exact PySem.W.kia_one PySem.W.kitx_dict I.kIn ⟨o,h1,h2.1⟩ e (fun z=>nomatch z) h
  |@dT a kvs ea=>
    cases (show u=Value.ref a from rx)
    obtain⟨_,_,xs,_,o,es,ep,h1,h2,_⟩:=(show ObjOk X.prog X.w H s.heap a (.dT kvs) from I.hok a _ ea);exact PySem.W.kia_one PySem.W.kitx_dict I.kIn ⟨o,h1,h2.1⟩ e (fun z=>nomatch z) h
  |@ins a C dx fs ea cl ha hn htk hm=>
    cases (show u=Value.ref a from rx)
    obtain⟨mA,O,_⟩:=ins_get I.hok ea;obtain⟨od,J,_⟩:=O.look;exact PySem.W.kia_one (PySem.W.kitx_own (cl.get _) cl.hd ha hn htk hm) I.kIn J e (fun z=>nomatch z) h
end
structure Room(k:Nat)(A:Around):Prop where
  hd:A.handled=none
  dp:A.depth+3 * k+5 < recursionLimit
  un:A.units+16 * k+200 < cLine
variable{k:Nat}
theorem Room.mono{j:Nat}(r:Room k A)(h:j<=k):Room j A:=⟨r.hd,by have:=r.dp;omega,by have:=r.un;omega⟩
theorem Room.deeper(r:Room (k+1) A)(env:Env):Room k (A.deeper env):=
  ⟨r.hd,by have:=r.dp;show A.depth+1+3 * k+5 < _;omega,by have:=r.un;show A.units+3+16 * k+200 < _;omega⟩
theorem make_depth{C:Ad}:(A.under (.builtin "type.__call__" ⟨.ref C :: us,kw⟩)).depth=A.depth+1:=by
  first|rfl|simp[Around.under,Code.weight,Code.isCreation,Code.isGuard,Code.isCaller,Code.frames,Code.isFrame,guardIds]
theorem make_units{C:Ad}:(A.under (.builtin "type.__call__" ⟨.ref C :: us,kw⟩)).units=A.units+1:=by
  first|rfl|simp[Around.under,Code.cUnits,Code.frames,Code.isFrame]
theorem Room.make(r:Room (k+1) A)(C:Ad)(us:Li vL)(kw:Li (Str×vL)):Room k (A.under (.builtin "type.__call__" ⟨.ref C :: us,kw⟩)):=
  ⟨r.hd,by have:=r.dp;rw[make_depth];omega,by have:=r.un;rw[make_units];omega⟩
theorem Room.depth(r:Room k A):A.depth < recursionLimit:=by have:=r.dp;omega
theorem Room.units(r:Room k A):A.units+64 < cLine:=by have:=r.un;omega

noncomputable def tNil:TA:=fun _ H Q=>Q [] H
noncomputable def tCons(ta:TE)(tr:TA):TA:=fun σ H Q=>ta σ H fun x H1=>tr σ H1 fun xs H2=>Q (x :: xs) H2
section
variable {X:Cx}{e:Expr}{es:Li Expr}{te:TE}{t:TA}{pos:Pos}
theorem pa_nil:PA X [] tNil:=fun _ _ _ _ H Q I h=>Calls.spliced_nil ⟨[],H,I,.nil,h⟩
theorem pa_cons(ha:PE X e te)(hr:PA X es t)(hs:starEach (e :: es) X.env=(false,eval e X.env) :: starEach es X.env:=by rfl):PA X (e :: es) (tCons te t):=by
  intro pos pQ s σ H Q I h;rw[hs];show wpAny _ _ (spliced ((false,eval e X.env) :: backTo pos (starEach es X.env))) _ _ s;refine Calls.spliced_cons (thn (ha pQ s σ H _ I h) fun u s1 ⟨x,H1,I1,r1,q1⟩=>?_)
  exact thn (hr pos pQ s1 σ H1 _ I1 q1) fun us s2 ⟨xs,H2,I2,r2,q2⟩=>⟨x :: xs,H2,I2,.cons r1 r2,q2⟩

noncomputable def tTup(t:TA):TE:=fun σ H Q=>t σ H fun xs H1=>xs.length<=sizeLine/\∀ p,H1 p=none->Q (.ref p) (upd H1 p (.tup xs))
noncomputable def tLst(t:TA):TE:=fun σ H Q=>t σ H fun xs H1=>xs.length<=sizeLine/\∀ p,H1 p=none->Q (.ref p) (upd H1 p (.lst xs))
theorem pe_tup{x1}(h:PA X es t):PE X (.Tuple es x1 pos) (tTup t):=by
  intro pQ s σ H Q I hq;refine wpAny_Tuple_spliced (thn (h pos pQ s σ H _ I hq) fun us s1 ⟨xs,H1,I1,r,z,q⟩=>⟨by rw[<-r.length];exact z,?_⟩)
  have hf:H1 s1.heap.objs.size=none:=I1.hok.fresh (aD _);refine⟨.ref s1.heap.objs.size,upd H1 s1.heap.objs.size (.tup xs),I1.laid (t':=s1.toks) (fun b u e=>aQ _ e) (aD _) ?_,rfl,q _ hf⟩
  exact⟨z,us,r,⟨_,bA _ rfl,rfl,_,rfl⟩⟩
theorem pe_lst(h:PA X es t):PE X (.List es pos) (tLst t):=by
  intro pQ s σ H Q I hq;refine wpAny_List_spliced (thn (h pos pQ s σ H _ I hq) fun us s1 ⟨xs,H1,I1,r,z,q⟩=>⟨by rw[<-r.length];exact z,?_⟩)
  have hf:H1 s1.heap.objs.size=none:=I1.hok.fresh (aD _);refine⟨.ref s1.heap.objs.size,upd H1 s1.heap.objs.size (.lst xs),I1.laid (t':=s1.toks) (fun b u e=>aQ _ e) (aD _) ?_,rfl,q _ hf⟩
  exact⟨z,us,0,r,bA _ rfl⟩
end

abbrev Sp:=Li V->Hp->VK->XK->Prop
abbrev CXT:=Li Env->Hp->sH7->XK->vL->sH7->Prop

structure Env0(P:Program)(w:World)(K:fG7)(mg:Str->Option Value)(base:Heap)(A:Around)(outer:List Env)(s:Shared)(H:Hp):Prop where
  frames:A.frames=some outer
  mod:Mod K mg base
  bs:∀ b o,base.get? b=some o->s.heap.get? b=some o/\H b=none
  bsz:base.objs.size<=s.heap.objs.size
  funs:s.heap.FunFrames base outer
  frf:∀ b∈frs outer,H b=none
  hok:HOk P w H s.heap
  bare:AllBare s.gens
def CE(outer:Li Env)(P:Program)(w:World)(H:Hp)(s:sH7)(Q:VK)(u:vL)(s':sH7):Prop:=
  ∃ v H',s'.os=s.os/\AllBare s'.gens/\Un (frs outer) [] H H' s.heap s'.heap/\HOk P w H' s'.heap/\RelV v u/\Q v H'
def CR(CX:CXT)(outer:Li Env)(P:Program)(w:World)(H:Hp)(s:sH7)(Q:VK)(E:XK)(r:Result)(s':sH7):Prop:=
  match r with
  |.ok (.ret u)=>CE outer P w H s Q u s'
  |.ok _=>False
  |.error e=>CX outer H s E e s'
structure FnOk(P:Program)(w:World)(K:fG7)(mg:Str->Option Value)(base:Heap)(CX:CXT)(k:Nat)(f:Addr)(fd:FuncData)(ps:List Str)(sp:Sp):Prop where
  len:∀ vs H Q E,sp vs H Q E->vs.length=ps.length
  run:∀ (A:Around) (outer:List Env) (s:Shared) (H:Hp) (args:Args) (us:List Value) (vs:List V) (Q:VK) (E:XK),Room k A->Env0 P w K mg base A outer s H->BindsTo s fd args (ps.zip us)->Vals vs us->sp vs H Q E->
    codeAny (model P w) A (.call (.ref f) args) (CR CX outer P w H s Q E) s

variable{mg:Str->Ot vL}{base:Heap}{outer:Li Env}
theorem Env0.make{P:Program}(e:Env0 P w K mg base A outer s H)(C:Ad)(us:Li vL)(kw:Li (Str×vL)) :
    Env0 P w K mg base (A.under (.builtin "type.__call__" ⟨.ref C :: us,kw⟩)) outer s H:=⟨by first|exact e.frames | (simpa[Around.under,Code.envs,Code.isFrame,pushEnvs] using e.frames),e.mod,e.bs,e.bsz,e.funs,e.frf,e.hok,e.bare⟩

section
variable {X:Cx}{pQ:Li (Ad×Obj)}{σ:St}{H:Hp}{s s':sH7}
theorem Inv.env0(I:Inv X pQ σ H s):Env0 X.prog X.w X.K X.mg X.base X.A X.stack s H:=
  ⟨I.ok.frames,I.ok.mod,I.bs,aM I.ok.bsz I.sz,I.stack,I.stkFree,I.hok,I.bare⟩
theorem Inv.after{Q:VK}{u:vL}(I:Inv X pQ σ H s)(h:CE X.stack X.prog X.w H s Q u s'):EP X pQ σ Q u s':=by
  obtain⟨v,H',os,bare,un,hok,r,q⟩:=h;obtain⟨hh,g,d,t,os'⟩:=s';obtain rfl:os'=s.os:=os;exact⟨v,H',I.call (h':=hh) (g':=g) (d':=d) (t':=t) (ch:=[]) un hok bare (fun b z=>absurd z (by simp)),r,q⟩
end

noncomputable def tCall(sp:Sp)(dvs:Li V)(E:XK)(t:TA):TE:=fun σ H Q=>t σ H fun vs H1=>sp (vs++dvs) H1 Q E

def Binds(K:fG7)(fd:FuncData)(ps:Li Str)(ds:Li vL):Prop:=
  ∀ (s:sH7) (us:Li vL),K.In s.heap->(us++ds).length=ps.length->BindsTo s fd ⟨us,[]⟩ (ps.zip (us++ds))
variable{ps:Li Str}
theorem Binds.all{fd:FuncData}(h:∀ us:Li vL,us.length=ps.length->bindArgs fd ⟨us,[]⟩=pure (ps.zip us)):Binds K fd ps []:=fun s us _ hl=>by
  rw[aW]at hl ⊢;exact .of_eq (h us hl)

def Passes(CX:CXT)(X:Cx)(E:XK):Prop:=∀ (pQ:Li (Ad×Obj)) (σ:St) (H:Hp) (s:sH7) (e:vL) (s':sH7),Inv X pQ σ H s->CX X.stack H s E e s'->X.xe e s'

variable{vs:Li V}
section
variable {X:Cx}{CX:CXT}{k:Nat}{f C:Ad}{fd:FuncData}{ps:Li Str}{sp:Sp}{dvs:Li V}{ds:Li vL}{E:XK}{x m:Str}{p pos apos:Pos}{e o:Expr}{es:Li Expr}{ta:TE}{t:TA}

theorem run_fn{σ:St}{Q:VK}(F:FnOk X.prog X.w X.K X.mg X.base CX k f fd ps sp)(hr:Room k X.A)(hb:Binds X.K fd ps ds)(hd:Vals dvs ds)(hx:Passes CX X E)(I:Inv X pQ σ H s)(r:Vals vs us)(h:sp (vs++dvs) H Q E):wpAny (model X.prog X.w) X.A (call (.ref f) us) (EP X pQ σ Q) X.xe s:=by
  have r2:Vals (vs++dvs) (us++ds):=r.append hd;have hl:(us++ds).length=ps.length:=by rw[<-r2.length];exact F.len _ _ _ _ h
  refine wpAny_call (codeAny_mono (F.run X.A X.stack s H ⟨us,[]⟩ (us++ds) (vs++dvs) Q E hr I.env0 (hb s us I.kIn hl) r2 h) fun r s' hq=>?_)
  cases r with
  |error e=>exact hx pQ σ H s e s' I hq
  |ok fl=>
    cases fl with
    |ret u=>exact I.after hq
    |next=>exact False.elim hq
    |brk=>exact False.elim hq
    |cont=>exact False.elim hq

theorem pe_call(F:FnOk X.prog X.w X.K X.mg X.base CX k f fd ps sp)(hr:Room k X.A)(hg:Gl X x)(hm:X.mg x=some (.ref f))(hk:PySem.W.keepIn X.K (.ref f)=true)(hb:Binds X.K fd ps ds)(hd:Vals dvs ds)(hx:Passes CX X E)(ha:PA X (e :: es) t)(hdb:(x==("__debug__":Str))=false:=by decide)(he:starEach (e :: es) X.env=(false,eval e X.env) :: starEach es X.env:=by rfl)(hpl:(backTo pos (starEach es X.env)).any (·.1)=false:=by rfl) :
    PE X (.Call (.Name x p) (e :: es) [] pos) (tCall sp dvs E t):=by
  intro pQ s σ H Q I h;refine wpAny_Call_Name_kw (ld_glob I hg hm ?_ hdb);refine PySem.W.callWith_K (h₀:=X.base) I.ok.mod.kin hk (thn (ha pos pQ s σ H _ I h) fun us s1 ⟨vs,H1,I1,r,q⟩=>⟨I1.kIn,?_⟩) he hpl
  exact run_fn F hr hb hd hx I1 r q
theorem pe_call0(F:FnOk X.prog X.w X.K X.mg X.base CX k f fd ps sp)(hr:Room k X.A)(hg:Gl X x)(hm:X.mg x=some (.ref f))(hk:PySem.W.keepIn X.K (.ref f)=true)(hb:Binds X.K fd ps ds)(hd:Vals dvs ds)(hx:Passes CX X E)(hdb:(x==("__debug__":Str))=false:=by decide):PE X (.Call (.Name x p) [] [] pos) (tCall sp dvs E tNil):=by
  intro pQ s σ H Q I h;refine wpAny_Call_Name_kw (ld_glob I hg hm ?_ hdb);exact PySem.W.callWith_K0 I.kIn hk (run_fn (us:=[]) F hr hb hd hx I .nil h)


structure Mk(K:fG7)(C f:Addr):Prop where
  makes:PySem.W.makesIn K C=true
  init:PySem.W.findIn K (.ref C) "__init__"=some (some (.ref f))
  fn:PySem.W.isFn K (.ref f)=true
  kp:PySem.W.keepIn K (.ref C)=true

theorem run_make{σ:St}{Q:VK}(M:Mk X.K C f)(F:FnOk X.prog X.w X.K X.mg X.base CX k f fd ps sp)(hr:Room (k+1) X.A)(hb:Binds X.K fd ps ds)(hd:Vals dvs ds)(hx:Passes CX X E)(I:Inv X pQ σ H s)(r:Vals vs us)(h:∀ x dx,H x=none->H dx=none->dx≠x->(∀ o,X.K.lookup x≠some o)->sp (.ref x :: (vs++dvs)) (upd (upd H dx (.own x)) x (.ins C dx [])) (fun v H2=>v=.non/\Q (.ref x) H2) E) :
    wpAny (model X.prog X.w) X.A (call (.ref C) us) (EP X pQ σ Q) X.xe s:=by
  have hq:=h (s.heap.objs.size+1) s.heap.objs.size (I.hok.fresh (bU _)) (I.hok.fresh (aD _)) (aX (bM _)) (fun o z=>absurd (aK (I.kIn _ o z)) (Nat.not_lt.mpr (bU _)))
  have I2:=Inv.made (C:=C) I;have r2:Vals (V.ref (s.heap.objs.size+1) :: (vs++dvs)) (Value.ref (s.heap.objs.size+1) :: (us++ds)):=.cons rfl (r.append hd);have hl:(Value.ref (s.heap.objs.size+1) :: us++ds).length=ps.length:=by
    have e:=r2.length;rw[F.len _ _ _ _ hq]at e;exact e.symm
  refine wpAny_call (make_map (f:=f) I.kIn M.makes M.init (beq_iff_eq.mp M.fn) (codeAny_mono (F.run _ X.stack _ _ ⟨Value.ref (s.heap.objs.size+1) :: us,[]⟩ (Value.ref (s.heap.objs.size+1) :: (us++ds)) _ _ E (hr.make C us [])
    (I2.env0.make C us []) (hb _ (Value.ref (s.heap.objs.size+1) :: us) I2.kIn hl) r2 hq) fun r s' hq'=>?_))
  cases r with
  |error e=>exact hx pQ σ _ _ e s' I2 hq'
  |ok fl=>
    cases fl with
    |ret u=>
      obtain⟨v,H',I3,rv,ev,q3⟩:=I2.after hq';subst ev;exact⟨rv,⟨V.ref (s.heap.objs.size+1),H',I3,rfl,q3⟩⟩
    |next=>exact False.elim hq'
    |brk=>exact False.elim hq'
    |cont=>exact False.elim hq'
end

section
variable {X:Cx}{CX:CXT}{k:Nat}{f C:Ad}{fd:FuncData}{ps ks:Li Str}{sp:Sp}{E:XK}{x m:Str}{p pos apos kpos:Pos}{e o:Expr}{es:Li Expr}{kws:Li Keyword}{te ta:TE}{t tk:TA}{nm:Ot Str}

structure KBinds(K:fG7)(fd:FuncData)(ps ks:List Str)(g:List Value->List Value->List Value)(gV:List V->List V->List V):Prop where
  to:∀ (s:Shared) (us ws:List Value),K.In s.heap->(g us ws).length=ps.length->BindsTo s fd ⟨us,ks.zip ws⟩ (ps.zip (g us ws))
  rel:∀ {vs:List V}{us:List Value}{zs:List V}{ws:List Value},Vals vs us->Vals zs ws->Vals (gV vs zs) (g us ws)
variable {g:Li vL->Li vL->Li vL}{gV:Li V->Li V->Li V}
end

structure FnScope(N P:List Str)(sc:Scope):Prop where
  kind:sc.kind=.function
  co:sc.isCoroutine=false
  gen:sc.isGenerator=false
  nd:N.Nodup
  pre:N.take P.length=P
  par:∀ x∈P,sc.names.lookup x=some .local\/sc.names.lookup x=some .cell
  nofree:∀ y∈sc.names,y.2≠.free

theorem bindL_out{kindOf:Str->Ot NameKind}{x:Str}:∀ {binds:Li (Str×vL)}{m:Str->Ot vL},(∀ v,(x,v)∉binds)->bindL kindOf binds m x=m x
  |[],_,_=>rfl
  | (n,v) :: r,m,h=>by
    unfold bindL;rw[bindL_out fun w hw=>h w (lM7 _ hw)]
    split
    · have:x≠n:=by rintro rfl;exact h v lQ7
      simp[this]
    · rfl
theorem bindC_out{kindOf:Str->Ot NameKind}{x:Str}:∀ {binds:Li (Str×vL)}{m:Str->Ot vL},(∀ v,(x,v)∉binds)->bindC kindOf binds m x=m x
  |[],_,_=>rfl
  | (n,v) :: r,m,h=>by
    unfold bindC;rw[bindC_out fun w hw=>h w (lM7 _ hw)]
    split
    · rfl
    · have:x≠n:=by rintro rfl;exact h v lQ7
      simp[this]
theorem bindL_get{kindOf:Str->Ot NameKind}{x:Str}{v:vL}:∀ {P:Li Str}{vs:Li vL}{i:Nat}{m:Str->Ot vL},P.Nodup->P[i]?=some x->vs[i]?=some v->kindOf x=some .local->
    bindL kindOf (P.zip vs) m x=some v
  |[],_,_,_,_,h,_,_=>by simp at h
  |_ :: _,[],_,_,_,_,h,_=>by simp at h
  |p :: P,w :: vs,0,m,nd,h1,h2,hk=>by
    simp at h1 h2;subst h1;subst h2;show bindL kindOf ((p,w) :: P.zip vs) m p=_;unfold bindL;rw[bindL_out fun v hv=>(bR.mp nd).1 (List.of_mem_zip hv).1,if_pos hk]
    simp
  |p :: P,w :: vs,i+1,m,nd,h1,h2,hk=>by
    show bindL kindOf ((p,w) :: P.zip vs) m x=_;unfold bindL;exact bindL_get (i:=i) (bR.mp nd).2 (by simpa using h1) (by simpa using h2) hk
theorem bindC_get{kindOf:Str->Ot NameKind}{x:Str}{v:vL}:∀ {P:Li Str}{vs:Li vL}{i:Nat}{m:Str->Ot vL},P.Nodup->P[i]?=some x->vs[i]?=some v->kindOf x≠some .local->
    bindC kindOf (P.zip vs) m x=some v
  |[],_,_,_,_,h,_,_=>by simp at h
  |_ :: _,[],_,_,_,_,h,_=>by simp at h
  |p :: P,w :: vs,0,m,nd,h1,h2,hk=>by
    simp at h1 h2;subst h1;subst h2;show bindC kindOf ((p,w) :: P.zip vs) m p=_;unfold bindC;rw[bindC_out fun v hv=>(bR.mp nd).1 (List.of_mem_zip hv).1,if_neg hk]
    simp
  |p :: P,w :: vs,i+1,m,nd,h1,h2,hk=>by
    show bindC kindOf ((p,w) :: P.zip vs) m x=_;unfold bindC;exact bindC_get (i:=i) (bR.mp nd).2 (by simpa using h1) (by simpa using h2) hk

noncomputable def start(N:Li Str)(vs:Li V):St:=vs.map some++List.replicate (N.length - vs.length) none

noncomputable def cxOf(CX:CXT)(P:Program)(w:World)(K:fG7)(mg:Str->Ot vL)(base:Heap)(N:Li Str)(qual:Str)(scope:Scope)(f:Ad)(cd:vL)(A:Around)(outer:Li Env)(s:sH7)(H:Hp)(E:XK):Cx where
  prog:=P
  w:=w
  K:=K
  mg:=mg
  base:=base
  A:=A.deeper (envOfC qual scope s.heap.objs.size f cd)
  N:=N
  s₀:=s
  H₀:=H
  env:=envOfC qual scope s.heap.objs.size f cd
  outer:=outer
  stack:=envOfC qual scope s.heap.objs.size f cd :: outer
  ex:=[]
  calm:=true
  fn:=fun _=>true
  pn:=[]
  xe:=fun e s'=>wpAny (model P w) (A.deeper (envOfC qual scope s.heap.objs.size f cd)) (leaving (envOfC qual scope s.heap.objs.size f cd) e) (fun _ s''=>CX outer H s E e s'') (fun e' s''=>CX outer H s E e' s'') s'

theorem cell_has{sc:Scope}{x:Str}(h:sc.names.lookup x=some .cell):∃ c,(cellsFrom n sc.names []).lookup x=some c:=by
  have q:=PySem.W.cellsFrom_some sc.names n [] (.inl h);exact Option.isSome_iff_exists.mp q

variable{CX:CXT}
theorem inv_start{P:Program}{qual:Str}{scope:Scope}{f:Ad}{cd:vL}{s1:sH7}{E:XK}(S:FnScope N ps scope)(hd:A.handled=none)(e0:Env0 P w K mg base A outer s H)(hl:vs.length=ps.length)(r:Vals vs us)(x:InCallC s s.heap.objs.size (bindL (envOfC qual scope s.heap.objs.size f cd).kindOf (ps.zip us) fun _=>none) (cellsFrom (s.heap.objs.size+1) scope.names []) (bindC (envOfC qual scope s.heap.objs.size f cd).kindOf (ps.zip us) fun _=>none) s1) :
    Inv (cxOf CX P w K mg base N qual scope f cd A outer s H E) [] (start N vs) H s1:=by
  have hpl:ps.length<=N.length:=by have:=congrArg List.length S.pre;rw[bH]at this;omega
  obtain⟨h1,tk,rfl,hk⟩:=x.done;have noA:∀ b:Ad,b∉(cxOf CX P w K mg base N qual scope f cd A outer s H E).ex:=fun b z=>absurd (show b∈([]:Li Ad) from z) (by simp)
  refine⟨⟨e0.mod,S.kind,rfl,rfl,aD _,fun y z c h1 h2=>?_,fun y hy=>?_,fun y c _ h=>?_,fun _=>hd,Around.frames_deeper e0.frames,.inr ⟨rfl,rfl⟩,fun b z=>absurd z (noA b),e0.bs,e0.bsz,fun b _ _=>noA b,fun b z=>absurd z (noA b),e0.funs,e0.frf⟩,
    rfl,e0.bare,Un.kept hk,⟨_,x.toInCall.ns,fun i y v h1 h2 h3=>?_⟩,fun y c h=>⟨_,x.cell y c h⟩,e0.hok.fresh (aD _),fun y c h=>?_,fun p hp=>absurd (show p∈([]:Li (Ad×Obj)) from hp) (by simp),e0.hok.kept hk,?_⟩
  · exact name_of_addr x.apart (PySem.mem_of_lookup h1) (PySem.mem_of_lookup h2)
  · have hy:scope.names.lookup y=some .cell\/scope.names.lookup y=some .free:=hy
    rcases hy with hy|hy
    · exact cell_has hy
    · exact absurd rfl (S.nofree _ (PySem.mem_of_lookup hy))
  · exact cX (x.above y c (PySem.mem_of_lookup h))
  · have hi:i < vs.length:=by
      unfold start at h2;by_cases hi:i < vs.length
      · exact hi
      · rw[cB (by simpa using hi)]at h2
        rw[dY]at h2;split at h2<;>cases h2
    have ha:vs[i]?=some v:=by
      unfold start at h2;rw[bS (by simpa using hi),aR]at h2
      cases e:vs[i]? with
      |none=>rw[e]at h2;cases h2
      |some a=>rw[e]at h2;cases h2;rfl
    obtain⟨u,hu,rv⟩:=r.get ha;have hp:ps[i]?=some y:=by
      rw[<-S.pre,List.getElem?_take_of_lt (by omega)];exact h1
    have ndP:ps.Nodup:=by rw[<-S.pre];exact S.nd.sublist (List.take_sublist _ _)
    refine⟨u,rv,?_⟩;rcases S.par y (aV hp) with k|k
    · exact .inl ⟨k,bindL_get ndP hp hu k⟩
    · obtain⟨c,e⟩:=cell_has (n:=s.heap.objs.size+1) k
      refine .inr ⟨.inl k,c,e,?_⟩;have q:=x.cell y c e;rw[bindC_get ndP hp hu (by show scope.names.lookup y≠_;rw[k];decide)]at q
      exact q
  · exact e0.hok.fresh (cX (x.above y c (PySem.mem_of_lookup h)))
  · unfold start
    show _=N.length;rw[aI,aB,bT];omega

theorem fn_of{P:Program}{f:Ad}{name qual:Str}{params:Arguments}{body:Li Stmt}{scope:Scope}{dV kV doc pm cdv ct oc:vL}{an od:Ot Ad}{osl:Array (Ot vL)}{sp:Sp}(lk:K.lookup f=some ⟨oc,od,.func (PySem.W.fnOf name qual params body scope dV kV doc pm an cdv ct),osl⟩)(hcd:PySem.W.codeIn K cdv qual=true)(S:FnScope N ps scope)(len:∀ vs H Q E,sp vs H Q E->vs.length=ps.length)(hbody:∀ (A:Around) (outer:Li Env) (s:sH7) (H:Hp) (vs:Li V) (Q:VK) (E:XK),Room k (A.deeper (envOfC qual scope s.heap.objs.size f cdv))->sp vs H Q E->
      ∃ t,PSs (cxOf CX P w K mg base N qual scope f cdv A outer s H E) body t/\t { nx:=fun _ H'=>Q .non H',rt:=Q } (start N vs) H) :
    FnOk P w K mg base CX (k+1) f (PySem.W.fnOf name qual params body scope dV kV doc pm an cdv ct) ps sp:=by
  refine⟨len,fun A outer s H args us vs Q E hr e0 hb r hsp=>?_⟩
  have hl:=len _ _ _ _ hsp;have KX:K.In s.heap:=e0.mod.kin.keeps fun b o e=>(e0.bs b o e).1
  have lim:s.heap.NoLimit:=e0.mod.nolimit.keeps fun b o e=>(e0.bs b o e).1
  have hkind:∀ y∈ps.zip us,scope.names.lookup y.1=some .local\/(scope.names.lookup y.1=some .cell/\((cellsFrom (s.heap.objs.size+1) scope.names []).lookup y.1).isSome=true):=fun⟨n,v⟩ hy=>by
    rcases S.par n (List.of_mem_zip hy).1 with q|q
    · exact .inl q
    · exact .inr ⟨q,PySem.W.cellsFrom_some _ _ _ (.inl q)⟩
  refine codeAny_call_function hr.depth (KX _ _ lk) rfl S.co S.gen rfl (PySem.W.codeRec_of KX hcd) (hb _ _ _ _ ?_);refine wpAny_newFunctionEnv_cells S.kind hkind fun env he s1 x=>?_
  subst he;refine⟨lim.keeps x.toInCall.keep,codeAny_func ?_⟩;obtain⟨t,ht,hq⟩:=hbody A outer s H vs Q E (hr.deeper _) hsp;have I:Inv (cxOf CX P w K mg base N qual scope f cdv A outer s H E) [] (start N vs) H s1:=inv_start S hr.hd e0 hl r x;refine bK (ht [] s1 (start N vs) H _ I hq) (fun fl s' hs=>?_) fun e s' hs=>hs
  have fin:∀ {σ':St}{H':Hp}{v:V}{u:vL},Inv (cxOf CX P w K mg base N qual scope f cdv A outer s H E) [] σ' H' s'->RelV v u->Q v H'->CE outer P w H s Q u s':=
    fun {σ' H' v u} J rv q=>⟨v,H',J.os,J.bare,J.base,J.hok,rv,q⟩
  cases fl with
  |ret u=>
    obtain⟨v,σ',H',J,rv,q⟩:=hs;exact fin J rv q
  |next=>
    obtain⟨σ',H',J,q⟩:=hs;exact fin (v:=V.non) (u:=Value.none) J rfl q
  |brk=>
    obtain⟨_,_,_,q⟩:=hs;exact False.elim q
  |cont=>
    obtain⟨_,_,_,q⟩:=hs;exact False.elim q
section
variable {X:Cx}{x:Str}{p pos:Pos}{e:Expr}{es:Li Expr}{t:TA}{id T:String}{r:Li V->Hp->VK->Prop}

noncomputable def tCB(r:Li V->Hp->VK->Prop)(t:TA):TE:=fun σ H Q=>t σ H fun vs H1=>r vs H1 Q
theorem pe_callB(hc:CallR X (.builtin id) r)(hg:Gl X x)(hm:X.mg x=none)(hv:bootBuiltins x=some (.builtin id))(ha:PA X (e :: es) t)(hn:x ≠ "__name__":=by decide)(hdb:(x==("__debug__":Str))=false:=by decide)(he:starEach (e :: es) X.env=(false,eval e X.env) :: starEach es X.env:=by rfl)(hpl:(backTo pos (starEach es X.env)).any (·.1)=false:=by rfl):PE X (.Call (.Name x p) (e :: es) [] pos) (tCB r t):=by
  intro pQ s σ H Q I h;refine wpAny_Call_Name_kw (ld_blt I hg hm hv ?_ hn hdb);exact PyProof.Rows.callWith_builtin1 (thn (ha pos pQ s σ H _ I h) fun us s1 ⟨vs,H1,I1,r1,q1⟩=>hc pQ s1 σ H1 vs us Q I1 r1 q1) he hpl
theorem pe_callTy(hc:CallR X (.type T) r)(hg:Gl X x)(hm:X.mg x=none)(hv:bootBuiltins x=some (.type T))(ha:PA X (e :: es) t)(hn:x ≠ "__name__":=by decide)(hdb:(x==("__debug__":Str))=false:=by decide)(he:starEach (e :: es) X.env=(false,eval e X.env) :: starEach es X.env:=by rfl)(hpl:(backTo pos (starEach es X.env)).any (·.1)=false:=by rfl):PE X (.Call (.Name x p) (e :: es) [] pos) (tCB r t):=by
  intro pQ s σ H Q I h;refine wpAny_Call_Name_kw (ld_blt I hg hm hv ?_ hn hdb);exact PyProof.Rows.callWith_type1 (thn (ha pos pQ s σ H _ I h) fun us s1 ⟨vs,H1,I1,r1,q1⟩=>hc pQ s1 σ H1 vs us Q I1 r1 q1) he hpl
end
end L2

namespace HT
open PySem PyProof.Rows



section
open PySem.SeqAt
open PySem.AutoSeq1 (wpAny_loadPart')
open PySem.MeetsSeq PySem.MeetsSeq2 PySem.MeetsSeq3

end

variable{Q:vL->sH7->Prop}{lo hi:Ot Int}
section
variable {prog:Program}{w:World}{A:Around}{E:vL->sH7->Prop}{s:sH7}


theorem cat_tup{t b:Ad}{vs ws:Li vL}(ht:IsTup s.heap t vs.toArray)(hb:IsTup s.heap b ws.toArray)(hv:vs≠[])(h1:ws=[]->Q (.ref t) s)(h2:ws≠[]->Q (.ref s.heap.objs.size) { s with heap:=s.heap.push { cls:=.type "tuple",data:=.seq (vs++ws).toArray } })(hsz:vs.length+ws.length<=sizeLine):wpAny (model prog w) A (binaryOp .Add (.ref t) (.ref b)) Q E s:=by
  obtain⟨⟨cls,dd,data,sl⟩,ho,hc,n,hd⟩:=id ht;obtain⟨⟨cls2,dd2,data2,sl2⟩,ho2,hc2,n2,hd2⟩:=id hb;simp only at hc hd hc2 hd2;subst hc hd hc2 hd2;have e:vs.toArray++ws.toArray=(vs++ws).toArray:=by simp
  by_cases hw:ws=[]
  · exact concat_meets ⟨_,ho,rfl⟩ ⟨_,ho2,rfl⟩ noFill_tuple_add seq_tuple_add PySem.F.slot_tuple_add PySem.F.entry_tuple_add (PySem.F.args_tuple_add_2 _ _)
      (tuple_addW1 t b vs.toArray ws.toArray n n2 dd dd2 sl sl2 (by simpa using hv) (by simp[hw])) ⟨ho,ho2,h1 hw⟩
  · refine concat_meets ⟨_,ho,rfl⟩ ⟨_,ho2,rfl⟩ noFill_tuple_add seq_tuple_add PySem.F.slot_tuple_add PySem.F.entry_tuple_add (PySem.F.args_tuple_add_2 _ _)
      (tuple_addW2 t b vs.toArray ws.toArray n n2 dd dd2 sl sl2 (by simpa using hv) (by simpa using hw) (by rw[aJ,aJ];exact hsz)) ⟨ho,ho2,?_⟩
    rw[e];exact h2 hw

noncomputable def sIx(n d:Nat):Ot Int->Nat
  |none=>d
  |some v=>if v < 0 then (v+(n:Int)).toNat else min v.toNat n
theorem sIx_le(n d:Nat)(hd:d<=n)(o:Ot Int):sIx n d o<=n:=by
  cases o with
  |none=>exact hd
  |some v=>
    show(if v < 0 then (v+(n:Int)).toNat else min v.toNat n)<=n
    by_cases hv:v < 0
    · rw[if_pos hv];omega
    · rw[if_neg hv];exact Nat.min_le_right _ _
theorem clip_eq(v:Int)(n d:Nat):(if v < 0 then max (v+(n:Int)) 0 else min v (n:Int))=((sIx n d (some v):Nat):Int):=by
  show(if v < 0 then max (v+(n:Int)) 0 else min v (n:Int))=(((if v < 0 then (v+(n:Int)).toNat else min v.toNat n):Nat):Int)
  by_cases hv:v < 0
  · simp only[if_pos hv];omega
  · simp only[if_neg hv];omega
theorem adjust_gen(lo hi:Ot Int)(n:Nat):Builtin.Slice.sliceAdjust lo hi 1 (n:Int)=(((sIx n 0 lo:Nat):Int),((sIx n n hi:Nat):Int)):=by
  have h1:¬((1:Int) < 0):=by omega
  unfold Builtin.Slice.sliceAdjust;simp only[h1,if_false];refine Prod.ext ?_ ?_
  · cases lo with
    |none=>rfl
    |some v=>exact clip_eq v n 0
  · cases hi with
    |none=>rfl
    |some v=>exact clip_eq v n n
theorem places_gen(i j:Nat):Builtin.Slice.slicePlaces (i:Int) (j:Int) 1=j - i:=by
  unfold Builtin.Slice.slicePlaces;have h1:(1:Int) > 0:=by omega
  simp only[h1,if_true,Int.ediv_one];split<;>omega
theorem slicePart_{v:vL}{o:Ot Int}{Q:Ot Int->sH7->Prop}(p:IsPart v o)(h:Q o s):wpAny (model prog w) A (Builtin.Slice.slicePartIndex v) Q E s:=by
  cases p with
  |none=>exact slicePart_none h
  |int i t=>exact slicePart_int h
theorem sliceApplied_gen{sl:Ad}{vl vu:vL}{n:Nat}{Q:Int×Int×Nat->sH7->Prop}(hs:s.heap.IsSliceOf sl vl vu .none)(pl:IsPart vl lo)(pu:IsPart vu hi)(h:Q (((sIx n 0 lo:Nat):Int),1,sIx n n hi - sIx n 0 lo) s):wpAny (model prog w) A (Builtin.Slice.sliceApplied (.ref sl) (pure (n:Int))) Q E s:=by
  obtain⟨os,hos,hcs,hds⟩:=id hs;unfold Builtin.Slice.sliceApplied Builtin.Slice.sliceFields;refine aA (aA (wpAny_field hos hds (x:=vl) rfl (aA (wpAny_field hos hds (x:=vu) rfl (aA (wpAny_field hos hds (x:=.none) rfl (aF ?_)))))));refine aA (slicePart_none ?_);show wpAny _ _ (if ((1:Int)==0)=true then _ else _) _ _ s
  rw[if_neg (by decide)]
  refine aA (slicePart_ pl (aA (slicePart_ pu (aA (aF ?_)))));show wpAny _ _ (match Builtin.Slice.sliceAdjust lo hi 1 (n:Int) with | (lo,hi)=>pure (lo,(1:Int),Builtin.Slice.slicePlaces lo hi 1)) _ _ s
  rw[adjust_gen lo hi n];show wpAny _ _ (pure (((sIx n 0 lo:Nat):Int),(1:Int),Builtin.Slice.slicePlaces ((sIx n 0 lo:Nat):Int) ((sIx n n hi:Nat):Int) 1)) _ _ s;rw[places_gen];exact aF h
theorem pick_gen(xs:Array vL)(i k:Nat):((List.range k).filterMap fun(m:Nat)=>xs[((i:Int)+(m:Int) * 1).toNat]?).toArray=((xs.toList.drop i).take k).toArray:=by
  have e:(fun(m:Nat)=>xs[((i:Int)+(m:Int) * 1).toNat]?)=fun m=>xs[i+m]?:=by
    funext m
    have:((i:Int)+(m:Int) * 1).toNat=i+m:=by omega
    rw[this]
  rw[e];have:=pick_run xs i k;rw[List.filterMap_map]at this;have e2:((fun x=>xs[x]?) ∘ fun x=>i+x)=fun m=>xs[i+m]?:=rfl
  rw[e2]at this;rw[this]

theorem getItem_tuple_cut{t sl:Ad}{items:Array vL}{vl vu:vL}(ht:IsTup s.heap t items)(hs:s.heap.IsSliceOf sl vl vu .none)(pl:IsPart vl lo)(pu:IsPart vu hi)(hw:¬(sIx items.size 0 lo=0/\sIx items.size items.size hi=items.size))(h:Q (.ref s.heap.objs.size) { s with heap:=s.heap.push { cls:=.type "tuple",data:=.seq ((items.toList.drop (sIx items.size 0 lo)).take (sIx items.size items.size hi - sIx items.size 0 lo)).toArray } })(hsz:items.size<=sizeLine):wpAny (model prog w) A (getItem (.ref t) (.ref sl)) Q E s:=by
  have htake:sizeOk (.seq ((items.toList.drop (sIx items.size 0 lo)).take (sIx items.size items.size hi - sIx items.size 0 lo)).toArray):=by
    show((items.toList.drop (sIx items.size 0 lo)).take (sIx items.size items.size hi - sIx items.size 0 lo)).toArray.size<=sizeLine;rw[aJ,bH,cM,cY];omega
  have hj:sIx items.size items.size hi<=items.size:=sIx_le _ _ (aD _) hi;obtain⟨os,hos,hcs,hds⟩:=id hs;have hTs:s.TypeIs (.ref sl) "slice":=⟨os,hos,hcs⟩;unfold getItem
  try with_reducible refine wpAny_holding ?_
  first|refine aA (aF ?_)|skip
  refine aA (wpAny_sequenceKey ht.typeIs (by decide) ?_)
  refine aA (wpAny_callSpecial?_slot (name:=Str.ofString "__getitem__") ht.typeIs PyProof.Rows.slot_tuple_getitem
    (wpAny_call_entry PyProof.Rows.slot_tuple_getitem ht.typeIs entry_tuple_getitem ?_ (args_tuple_getitem _ _)))
  show wpAny _ _ (Builtin.Tuple.tupleItemsOf (.ref t) >>= _) _ _ s;refine aA (tupleItemsOf_ ht ?_);refine aA (wpAny_typeOf hTs ?_);rw[if_pos (by decide)]
  refine aA (sliceApplied_gen hs pl pu ?_);have hno:¬((((sIx items.size 0 lo:Nat):Int)==0&&(1:Int)==1&&(sIx items.size items.size hi - sIx items.size 0 lo)==items.size)=true):=by
    intro q;rw[bA7,bA7]at q;have q1:((sIx items.size 0 lo:Nat):Int)=0:=eq_of_beq q.1.1;have q2:sIx items.size items.size hi - sIx items.size 0 lo=items.size:=eq_of_beq q.2;exact hw ⟨by omega,by omega⟩
  show wpAny _ _ (if (((sIx items.size 0 lo:Nat):Int)==0&&(1:Int)==1&&(sIx items.size items.size hi - sIx items.size 0 lo)==items.size)=true then _ else _) _ _ s
  rw[if_neg hno,pick_gen]
  first
    |exact aA (m:=Builtin.Tuple.tupleExact _) (wpAny_newObj_type (aF ⟨_,rfl,aF h⟩) htake)
    |exact aA (m:=Builtin.Tuple.tupleExact _) (wpAny_newObj_type (aA (aF (aF ⟨_,rfl,aF h⟩))) htake)
    |exact aA (aA (m:=Builtin.Tuple.tupleExact _) (wpAny_newObj_type (aF (aF ⟨_,rfl,aF h⟩)) htake))
    |exact aA (aA (m:=Builtin.Tuple.tupleExact _) (wpAny_newObj_type (aF ⟨_,rfl,aF h⟩) htake))
end
end HT

namespace L2
open PySem PySem.Spec PyProof.Rows

abbrev TO:=St->Hp->(Ot Int->Hp->Prop)->Prop
def PO(X:Cx)(e:Ot Expr)(t:TO):Prop:=
  ∀ (pQ:Li (Ad×Obj)) (s:sH7) (σ:St) (H:Hp) (Q:Ot Int->Hp->Prop),Inv X pQ σ H s->t σ H Q->
    wpAny (model X.prog X.w) X.A (evalPart e X.env) (fun u s'=>∃ o H',Inv X pQ σ H' s'/\IsPart u o/\Q o H') X.xe s
noncomputable def tNoPart:TO:=fun _ H Q=>Q none H
noncomputable def tPart(t:TE):TO:=fun σ H Q=>t σ H fun x H1=>∃ i,x=.int i/\Q (some i) H1


variable{xs:Li V}{us:Li vL}
section
variable {X:Cx}{e:Expr}{te:TE}{lo hi:Ot Expr}{tl th:TO}{pos p2:Pos}

theorem po_none:PO X none tNoPart:=by
  intro pQ s σ H Q I h;rw[evalPart_none];exact aF ⟨none,H,I,.none,h⟩
theorem po_some(h:PE X e te):PO X (some e) (tPart te):=by
  intro pQ s σ H Q I hw;rw[evalPart_some];refine thn (h pQ s σ H _ I hw) fun u s1 ⟨x,H1,I1,r1,q1⟩=>?_
  obtain⟨i,rfl,q⟩:=q1;obtain⟨t,rfl⟩:=r1;exact⟨some i,H1,I1,.int i t,q⟩

def SlR(X:Cx)(r:V->Ot Int->Ot Int->Hp->VK->Prop):Prop:=
  ∀ (pQ:Li (Ad×Obj)) (s:sH7) (σ:St) (H:Hp) (x:V) (v vl vu:vL) (lo hi:Ot Int) (sl:Ad) (Q:VK),Inv X pQ σ H s->RelV x v->s.heap.IsSliceOf sl vl vu .none->IsPart vl lo->IsPart vu hi->r x lo hi H Q->
    ∃ T id,typeLookup (.type T) "__getitem__"=pure (some (.builtin id))/\s.TypeIs v T/\wpAny (model X.prog X.w) X.A (getItem v (.ref sl)) (EP X pQ σ Q) X.xe s
noncomputable def tSl(r:V->Ot Int->Ot Int->Hp->VK->Prop)(te:TE)(tl th:TO):TE:=fun σ H Q=>te σ H fun x H1=>tl σ H1 fun l H2=>th σ H2 fun u H3=>r x l u H3 Q
theorem pe_slice{r:V->Ot Int->Ot Int->Hp->VK->Prop}(hr:SlR X r)(he:PE X e te)(hl:PO X lo tl)(hu:PO X hi th):PE X (.Subscript e (.Slice lo hi none p2) pos) (tSl r te tl th):=by
  intro pQ s σ H Q I h;refine Subscript_ (thn (he pQ s σ H _ I h) fun v s1 ⟨x,H1,I1,r1,q1⟩=>?_)
  refine wpAny_Slice (thn (hl pQ s1 σ H1 _ I1 q1) fun vl s2 ⟨l,H2,I2,pl,q2⟩=>thn (hu pQ s2 σ H2 _ I2 q2) fun vu s3 ⟨u,H3,I3,pu,q3⟩=>?_)
  rw[evalPart_none];refine aF ?_;have I4:Inv X pQ σ H3 { s3 with heap:=s3.heap.push { cls:=.type "slice",data:=.fields #[vl,vu,.none] } }:=I3.kept (t':=s3.toks) fun b ob q=>aQ _ q
  obtain⟨T,id,hT,ht,hg⟩:=hr pQ { s3 with heap:=s3.heap.push { cls:=.type "slice",data:=.fields #[vl,vu,.none] } } σ H3 x v vl vu l u s3.heap.objs.size Q I4 r1 (Heap.IsSliceOf.new ..) pl pu q3
  show wpAny (model X.prog X.w) X.A (subscriptTail e (.Slice lo hi none p2) v (.ref s3.heap.objs.size)) (EP X pQ σ Q) X.xe { s3 with heap:=s3.heap.push { cls:=.type "slice",data:=.fields #[vl,vu,.none] } }
  exact tail_any (ops:=[.ref s3.heap.objs.size,v]) ht hT hg (by with_unfolding_all rfl)

noncomputable def cutV(xs:Li V)(lo hi:Ot Int):Li V:=(xs.drop (HT.sIx xs.length 0 lo)).take (HT.sIx xs.length xs.length hi - HT.sIx xs.length 0 lo)
theorem cutV_length(xs:Li V)(lo hi:Ot Int):(cutV xs lo hi).length<=xs.length:=by
  unfold cutV;rw[bH,cM];omega
def rSlT(K:fG7):V->Ot Int->Ot Int->Hp->VK->Prop:=fun x lo hi H Q=>∃ a xs,x=.ref a/\SqT K H a xs /\
  ¬(HT.sIx xs.length 0 lo=0/\HT.sIx xs.length xs.length hi=xs.length)/\∀ p,H p=none->Q (.ref p) (upd H p (.tup (cutV xs lo hi)))
theorem sl_tup:SlR X (rSlT X.K):=by
  intro pQ s σ H x v vl vu lo hi sl Q I rx hs pl pu h;obtain⟨a,xs,rfl,hx,hw,q⟩:=h;cases rx;obtain⟨its,r,ht,hz⟩:=I.tuple hx;have hlen:its.toArray.size=xs.length:=by rw[aJ];exact r.length.symm
  refine⟨"tuple",_,PyProof.Rows.slot_tuple_getitem.lookup,ht.typeIs,?_⟩;refine HT.getItem_tuple_cut ht hs pl pu (by rw[hlen];exact hw) ?_ (by rw[hlen];exact hz)
  rw[hlen];refine⟨.ref s.heap.objs.size,_,I.laid (t':=s.toks) (o:=.tup (cutV xs lo hi)) (fun b ob q=>aQ _ q) (aD _) ?_,rfl,q _ (I.hok.fresh (aD _))⟩
  exact⟨aM (cutV_length xs lo hi) hz,_,(r.drop (HT.sIx xs.length 0 lo)).take (HT.sIx xs.length xs.length hi - HT.sIx xs.length 0 lo),IsTup.new _ _⟩

noncomputable def rCatT(K:fG7):R2:=fun x y H Q=>∃ a b xs ys,x=.ref a/\y=.ref b/\SqT K H a xs/\SqT K H b ys/\xs≠[]/\xs.length+ys.length<=sizeLine /\
  (ys=[]->Q (.ref a) H)/\(ys≠[]->∀ p,H p=none->Q (.ref p) (upd H p (.tup (xs++ys))))
theorem Vals.nil_iff(r:Vals xs us):us=[]↔xs=[]:=by
  cases r with
  |nil=>simp
  |cons _ _=>simp
theorem op_catT:OpR X (binaryOp .Add) (rCatT X.K):=by
  intro pQ s σ H x y v u Q I rx ry h;obtain⟨a,b,xs,ys,rfl,rfl,ha,hb,hx,hz,q1,q2⟩:=h;cases rx;cases ry;obtain⟨its,r1,p1,_⟩:=I.tuple ha;obtain⟨its2,r2,p2,_⟩:=I.tuple hb;refine HT.cat_tup p1 p2 (fun z=>hx (r1.nil_iff.mp z)) (fun z=>⟨.ref a,H,I,rfl,q1 (r2.nil_iff.mp z)⟩) (fun z=>?_) (by rw[<-r1.length,<-r2.length];exact hz)
  refine⟨.ref s.heap.objs.size,_,I.laid (t':=s.toks) (o:=.tup (xs++ys)) (fun b ob q=>aQ _ q) (aD _) ?_,rfl,q2 (fun w=>z (r2.nil_iff.mpr w)) _ (I.hok.fresh (aD _))⟩
  exact⟨by rw[aI];exact hz,_,r1.append r2,IsTup.new _ _⟩
end
noncomputable def ixN(n:Nat)(i:Int):Ot Nat:=if 0<=i then (if i < n then some i.toNat else none) else if -(n:Int)<=i then some (i+n).toNat else none
noncomputable def atI{α:Type}(xs:Li α)(i:Int):Ot α:=(ixN xs.length i).bind fun j=>xs[j]?
variable{n:Nat}
theorem ixN_seq{i:Int}{j:Nat}(h:ixN n i=some j):seqIndex? i n=some j/\j < n/\-(n:Int)<=i/\i < n:=by
  unfold ixN at h;by_cases h0:0<=i
  · rw[if_pos h0]at h
    by_cases h1:i < n
    · rw[if_pos h1]at h
      have e:i.toNat=j:=Option.some.inj h;exact⟨by rw[seqIndex_of h0 h1,e],by omega,by omega,h1⟩
    · rw[if_neg h1]at h;cases h
  · rw[if_neg h0]at h
    by_cases h1:-(n:Int)<=i
    · rw[if_pos h1]at h
      have e:(i+n).toNat=j:=Option.some.inj h;exact⟨by rw[seqIndex_neg (by omega) h1,e],by omega,h1,by omega⟩
    · rw[if_neg h1]at h;cases h
variable{α:Type}
theorem atI_get{xs:Li α}{i:Int}{v:α}(h:atI xs i=some v):∃ j,seqIndex? i xs.length=some j/\xs[j]?=some v/\j < xs.length/\-(xs.length:Int)<=i/\i < xs.length:=by
  unfold atI at h;cases e:ixN xs.length i with
  |none=>rw[e]at h;cases h
  |some j=>
    rw[e]at h;obtain⟨h1,h2,h3,h4⟩:=ixN_seq e;exact⟨j,h1,h,h2,h3,h4⟩

def PlainIx(b:Expr):Prop:=∀ o i,subscripted b false o i=operate [o,i] (getItem o i)
def IxR(X:Cx)(r:R2):Prop:=
  ∀ (value slice:Expr) (pQ:Li (Ad×Obj)) (s:sH7) (σ:St) (H:Hp) (x y:V) (v u:vL) (Q:VK),Inv X pQ σ H s->RelV x v->RelV y u->r x y H Q->
    subscripted slice false v u=operate [v,u] (getItem v u)->wpAny (model X.prog X.w) X.A (subscriptTail value slice v u) (EP X pQ σ Q) X.xe s
def MtR(X:Cx)(id:String)(r:V->Li V->Hp->VK->Prop):Prop:=
  ∀ (pQ:Li (Ad×Obj)) (s:sH7) (σ:St) (H:Hp) (x:V) (xs:Li V) (v:vL) (us:Li vL) (Q:VK),Inv X pQ σ H s->RelV x v->Vals xs us->r x xs H Q->
    wpAny (model X.prog X.w) X.A (call (.builtin id) (v :: us)) (EP X pQ σ Q) X.xe s
variable{pQ:Li (Ad×Obj)}{s:sH7}{its':Li vL}{y x:V}
section
variable {X:Cx}{a b:Expr}{ta tb:TE}{pos:Pos}
theorem pe_ix{r:R2}(hr:IxR X r)(ha:PE X a ta)(hb:PE X b tb)(hs:PlainIx b):PE X (.Subscript a b pos) (tOp r ta tb):=by
  intro pQ s σ H Q I h;exact Subscript_ (binT ha hb I h fun v u s2 x y H2 I2 rx ry q=>hr a b pQ s2 σ H2 x y v u Q I2 rx ry q (hs _ _))

noncomputable def rIxL(K:fG7):R2:=fun x y H Q=>∃ p xs i v,x=.ref p/\y=.int i/\SqL K H p xs/\atI xs i=some v/\Q v H
noncomputable def rIxT(K:fG7):R2:=fun x y H Q=>∃ p xs i v,x=.ref p/\y=.int i/\SqT K H p xs/\atI xs i=some v/\Q v H
noncomputable def rIxS:R2:=fun x y H Q=>∃ z i c,x=.str z/\y=.int i/\z.length<=sizeLine/\atI z.cps.toList i=some c/\Q (.str ⟨#[c]⟩) H
theorem ix_list:IxR X (rIxL X.K):=by
  intro value slice pQ s σ H x y v u Q I rx ry h hs;obtain⟨p,xs,i,z,rfl,rfl,hq,he,q⟩:=h;cases rx;obtain⟨t,rfl⟩:=ry;obtain⟨its,r,pl,hz⟩:=I.list hq;obtain⟨j,h1,h2,h3,h4,h5⟩:=atI_get he;obtain⟨w,ew,rw'⟩:=r.get h2;have hl:=r.length;have hn:=line63;have fin:EP X pQ σ Q w s:=⟨z,H,I,rw',q⟩;by_cases h0:0<=i
  · have hj:i.toNat=j:=by
      rw[seqIndex_of h0 h5]at h1;exact Option.some.inj h1
    exact item_listR pl.isList h0 (by omega) (by rw[hj];simpa using ew) fin hs
  · have hj:(i+(its.toArray.size:Int)).toNat=j:=by
      rw[seqIndex_neg (by omega) h4]at h1
      rw[aJ,<-hl];exact Option.some.inj h1
    exact subscriptTail_builtinR (x:=w) pl.isList.typeIs slot_list_getitem.lookup
      (wpAny_getItem_list_neg (Q:=fun r s'=>r=w/\EP X pQ σ Q r s') pl.isList (by omega) (by rw[aJ]<;>omega) (by omega) (by rw[hj];simpa using ew) ⟨rfl,fin⟩) hs
theorem ix_tup:IxR X (rIxT X.K):=by
  intro value slice pQ s σ H x y v u Q I rx ry h hs;obtain⟨p,xs,i,z,rfl,rfl,hq,he,q⟩:=h;cases rx;obtain⟨t,rfl⟩:=ry;obtain⟨its,r,pl,hz⟩:=I.tuple hq;obtain⟨j,h1,h2,h3,h4,h5⟩:=atI_get he;obtain⟨w,ew,rw'⟩:=r.get h2;have hl:=r.length;have hn:=line63;have fin:EP X pQ σ Q w s:=⟨z,H,I,rw',q⟩;exact subscriptTail_builtinR (x:=w) pl.typeIs slot_tuple_getitem.lookup
    (getItem_tuple (j:=j) (Q:=fun r s'=>r=w/\EP X pQ σ Q r s') pl (by omega) (by omega) (by rw[aJ,<-hl];exact h1) (by simpa using ew) ⟨rfl,fin⟩) hs
theorem ix_str:IxR X rIxS:=by
  intro value slice pQ s σ H x y v u Q I rx ry h hs;obtain⟨z,i,c,rfl,rfl,hz,he,q⟩:=h;obtain⟨t,rfl⟩:=rx;obtain⟨t',rfl⟩:=ry;obtain⟨j,h1,h2,h3,h4,h5⟩:=atI_get he;have hl:z.cps.toList.length=z.length:=by simp[Str.length]
  rw[hl]at h1 h4 h5;have hn:=line63;exact tail_any (typeIs_str s z t) slot_str_getitem.lookup (getItem_str (c:=c) (by
    have e1:decide (i < -(2 ^ 63:Int))=false:=aE (by omega)
    have e2:decide (i>=2 ^ 63)=false:=aE (by omega)
    rw[e1,e2,dA]) (by rw[h1];simpa using h2) ⟨.str ⟨#[c]⟩,H,I.tok _,⟨_,rfl⟩,q⟩) hs

theorem mapSeq_set(its:Li vL)(n j:Nat)(u:vL):Obj.mapSeq (·.setIfInBounds j u) { cls:=.type "list",data:=.seq its.toArray n }={ cls:=.type "list",data:=.seq (its.set j u).toArray n }:=by
  simp[Obj.mapSeq]
theorem Inv.lst{pQ:Li (Ad×Obj)}{σ:St}{H:Hp}{s:sH7}{p:Ad}{xs:Li V}(I:Inv X pQ σ H s)(h:H p=some (.lst xs)) :
    ∃ (its:Li vL) (n:Nat),Vals xs its/\s.heap.get? p=some { cls:=.type "list",data:=.seq its.toArray n }/\xs.length<=sizeLine:=by
  obtain⟨z,its,n,r,e⟩:=I.hok p _ h;exact⟨its,n,r,e,z⟩
theorem Inv.lstUpd{σ:St}{H:Hp}{p:Ad}{ys:Li V}{its:Li vL}{n':Nat}{f:Obj->Obj}(I:Inv X pQ σ H s)(h:H p=some (.lst xs))(ho:s.heap.get? p=some { cls:=.type "list",data:=.seq its.toArray n })(hf:f { cls:=.type "list",data:=.seq its.toArray n }={ cls:=.type "list",data:=.seq its'.toArray n' })(r:Vals ys its')(hz:ys.length<=sizeLine)(t:Nat) :
    Inv X pQ σ (upd H p (.lst ys)) { s with heap:=s.heap.update p f,toks:=t }:=by
  have e:(s.heap.update p f).get? p=some { cls:=.type "list",data:=.seq its'.toArray n' }:=by
    rw[Heap.get?_update_self f ho (by rw[hf]<;>rfl),hf]
  refine I.write (x:=p) (e:=p) (by rw[h];trivial) (.inl rfl) (fun b u hb q=>(Heap.get?_update_other _ _ (Ne.symm hb)).trans q) ⟨_,e⟩ ?_
  exact⟨hz,its',n',r,e⟩
def rSetL:V->V->V->Hp->(Hp->Prop)->Prop:=fun o i v H Q=>∃ p xs k j,o=.ref p/\i=.int k/\H p=some (.lst xs)/\ixN xs.length k=some j/\Q (upd H p (.lst (xs.set j v)))
theorem set_list:PSet X rSetL:=by
  intro pQ s σ H o i v ov iv u Q I ro ri rv h;obtain⟨p,xs,k,j,rfl,rfl,hp,hj,q⟩:=h;cases ro;obtain⟨t,rfl⟩:=ri;obtain⟨its,n,r,ho,hz⟩:=I.lst hp;obtain⟨h1,h2,h3,h4⟩:=ixN_seq hj;have hl:=r.length;have hn:=line63;have I':Inv X pQ σ (upd H p (.lst (xs.set j v))) { s with heap:=s.heap.update p (Obj.mapSeq (·.setIfInBounds j u)) }:=
    I.lstUpd hp ho (mapSeq_set its n j u) (r.set rv j) (by rw[aY];exact hz) s.toks
  by_cases h0:0<=k
  · have hk:k.toNat=j:=by
      rw[seqIndex_of h0 h4]at h1;exact Option.some.inj h1
    exact PySem.W.ki_setAt ho h0 (by omega) (by rw[aJ,<-hl];exact h4) (by rw[hk];exact⟨_,I',q⟩)
  · have hk:(k+(its.toArray.size:Int)).toNat=j:=by
      rw[seqIndex_neg (by omega) h3]at h1
      rw[aJ,<-hl];exact Option.some.inj h1
    exact PySem.W.ki_setBack ho (by omega) (by rw[aJ,<-hl];exact h3) (by omega) (by rw[hk];exact⟨_,I',q⟩)

theorem slice_bounds(lo hi:Ot Int)(n:Nat):(sliceBounds lo hi none n).1=((HT.sIx n 0 lo:Nat):Int)/\(sliceBounds lo hi none n).2.1=((HT.sIx n n hi:Nat):Int)/\(sliceBounds lo hi none n).2.2=1:=by
  refine⟨?_,?_,rfl⟩
  · cases lo with
    |none=>simp[sliceBounds,HT.sIx]
    |some i=>
      simp only[sliceBounds,HT.sIx,Option.getD_none,show(1:Int) > 0 by decide,if_true]
      by_cases h:i < 0
      · simp only[h,if_true]<;>omega
      · simp only[h,if_false]<;>omega
  · cases hi with
    |none=>simp[sliceBounds,HT.sIx]
    |some i=>
      simp only[sliceBounds,HT.sIx,Option.getD_none,show(1:Int) > 0 by decide,if_true]
      by_cases h:i < 0
      · simp only[h,if_true]<;>omega
      · simp only[h,if_false]<;>omega
theorem slicePick_cut(its:Li vL)(lo hi:Ot Int):slicePick its.toArray lo hi none=((its.drop (HT.sIx its.length 0 lo)).take (HT.sIx its.length its.length hi - HT.sIx its.length 0 lo)).toArray:=by
  obtain⟨h1,h2,h3⟩:=slice_bounds lo hi its.toArray.size;unfold slicePick;rw[h1,h2,h3];simp only[sliceRange_one,pick_run,aJ]<;>rfl
def rSlL(K:fG7):V->Ot Int->Ot Int->Hp->VK->Prop:=fun x lo hi H Q=>∃ a xs,x=.ref a/\SqL K H a xs/\∀ p,H p=none->Q (.ref p) (upd H p (.lst (cutV xs lo hi)))
theorem sl_list:SlR X (rSlL X.K):=by
  intro pQ s σ H x v vl vu lo hi sl Q I rx hs pl pu h;obtain⟨a,xs,rfl,hx,q⟩:=h;cases rx;obtain⟨its,r,ht,hz⟩:=I.list hx;have hlen:=r.length;refine⟨"list",_,slot_list_getitem.lookup,ht.isList.typeIs,?_⟩;refine wpAny_getItem_list_slice ht.isList hs pl pu .none (by simp) ?_ (by rw[aJ]<;>omega)
  rw[slicePick_cut,<-hlen];refine⟨.ref s.heap.objs.size,_,I.laid (t':=s.toks) (o:=.lst (cutV xs lo hi)) (fun b ob q=>aQ _ q) (aD _) ?_,rfl,q _ (I.hok.fresh (aD _))⟩
  exact⟨aM (cutV_length xs lo hi) hz,_,0,(r.drop (HT.sIx xs.length 0 lo)).take (HT.sIx xs.length xs.length hi - HT.sIx xs.length 0 lo),bA _ rfl⟩

noncomputable def flatV:V->Bool
  |.non=>true
  |.bl _=>true
  |.int _=>true
  |.str _=>true
  |_=>false
noncomputable def eqV:V->V->Bool
  |.non,.non=>true
  |.bl a,.bl b=>a==b
  |.bl a,.int b=>(if a then 1 else 0)==b
  |.int a,.bl b=>a==(if b then 1 else 0)
  |.int a,.int b=>a==b
  |.str a,.str b=>a==b
  |_,_=>false
theorem eqAt_V{A:Around}{u v:vL}(ry:RelV y u)(rx:RelV x v)(fy:flatV y=true)(fx:flatV x=true):SeqAt.EqAt A s u v (eqV y x):=by
  cases y with
  |non=>
    cases ry;cases x with
    |non=>cases rx;exact SeqAt.EqAt.same _
    |bl b=>cases rx;exact SeqAt.EqAt.none_bool b
    |int b=>obtain⟨t,rfl⟩:=rx;exact SeqAt.EqAt.none_int b t
    |str b=>obtain⟨t,rfl⟩:=rx;exact SeqAt.EqAt.none_str b t
    |_=>exact absurd (show false=true from fx) bF7
  |bl a=>
    cases ry;cases x with
    |non=>cases rx;exact SeqAt.EqAt.bool_none a
    |bl b=>cases rx;exact SeqAt.EqAt.bool_bool a b
    |int b=>obtain⟨t,rfl⟩:=rx;exact SeqAt.EqAt.bool_int a b t
    |str b=>obtain⟨t,rfl⟩:=rx;exact SeqAt.EqAt.bool_str a b t
    |_=>exact absurd (show false=true from fx) bF7
  |int a=>
    obtain⟨t',rfl⟩:=ry;cases x with
    |non=>cases rx;exact SeqAt.EqAt.int_none a t'
    |bl b=>cases rx;exact SeqAt.EqAt.int_bool a t' b
    |int b=>obtain⟨t,rfl⟩:=rx;exact SeqAt.EqAt.int_int a t' b t
    |str b=>obtain⟨t,rfl⟩:=rx;exact SeqAt.EqAt.int_str a t' b t
    |_=>exact absurd (show false=true from fx) bF7
  |str a=>
    obtain⟨t',rfl⟩:=ry;cases x with
    |non=>cases rx;exact SeqAt.EqAt.str_none a t'
    |bl b=>cases rx;exact SeqAt.EqAt.str_bool a t' b
    |int b=>obtain⟨t,rfl⟩:=rx;exact SeqAt.EqAt.str_int a t' b t
    |str b=>obtain⟨t,rfl⟩:=rx;exact SeqAt.EqAt.str_str a t' b t
    |_=>exact absurd (show false=true from fx) bF7
  |_=>exact absurd (show false=true from fy) bF7
noncomputable def eqU(x:V)(u:vL):Bool:=match u with
  |.none=>eqV .non x
  |.bool b=>eqV (.bl b) x
  |.int i _=>eqV (.int i) x
  |.str z _=>eqV (.str z) x
  |_=>false
theorem eqU_of{u:vL}(r:RelV y u)(f:flatV y=true):eqU x u=eqV y x:=by
  cases y with
  |non=>cases r;rfl
  |bl b=>cases r;rfl
  |int i=>obtain⟨t,rfl⟩:=r;rfl
  |str z=>obtain⟨t,rfl⟩:=r;rfl
  |_=>exact absurd (show false=true from f) bF7
theorem any_eqU{x:V}:∀ {xs:Li V}{us:Li vL},Vals xs us->xs.all flatV=true->us.any (eqU x)=xs.any fun y=>eqV y x
  |_,_,.nil,_=>rfl
  |y :: xs,u :: us,.cons r t,f=>by
    rw[bC,bA7]at f;rw[cF,cF,eqU_of r f.1,any_eqU t f.2]
theorem mem_eqAt{A:Around}{s:sH7}{x:V}{v:vL}(rx:RelV x v)(fx:flatV x=true):∀ {xs:Li V}{us:Li vL},Vals xs us->xs.all flatV=true->∀ u∈us,SeqAt.EqAt A s u v (eqU x u)
  |_,_,.nil,_=>fun u hu=>by cases hu
  |y :: xs,u :: us,.cons r t,f=>fun u' hu=>by
    rw[bC,bA7]at f;rcases aG.mp hu with rfl|hu
    · rw[eqU_of r f.1];exact eqAt_V r rx f.1 fx
    · exact mem_eqAt rx fx t f.2 u' hu
noncomputable def inV(x:V)(xs:Li V):Bool:=xs.any fun y=>eqV y x
noncomputable def rIn(K:fG7)(neg:Bool):R2:=fun x y H Q=>∃ p xs,y=.ref p/\(SqL K H p xs\/SqT K H p xs)/\flatV x=true/\xs.all flatV=true/\Q (.bl (if neg then !inV x xs else inV x xs)) H
theorem op_in_seq:OpR X (compareOp .In) (rIn X.K false):=by
  intro pQ s σ H x y v u Q I rx ry h;obtain⟨p,xs,rfl,hq,fx,fs,q⟩:=h;cases ry;rcases hq with hq|hq
  · obtain⟨its,r,pl,hz⟩:=I.list hq
    refine SeqAt.in_listAt (eqU x) pl.isList (fun w hw=>mem_eqAt rx fx r fs w (by simpa using hw)) ⟨.bl _,H,I,rfl,?_⟩
    rw[show its.toArray.any (eqU x)=its.any (eqU x) by simp,any_eqU r fs]
    exact q
  · obtain⟨its,r,pl,hz⟩:=I.tuple hq
    refine SeqAt.in_tupleAt (eqU x) pl (fun w hw=>mem_eqAt rx fx r fs w (by simpa using hw)) ⟨.bl _,H,I,rfl,?_⟩
    rw[show its.toArray.any (eqU x)=its.any (eqU x) by simp,any_eqU r fs]
    exact q
theorem op_notIn_seq:OpR X (compareOp .NotIn) (rIn X.K true):=by
  intro pQ s σ H x y v u Q I rx ry h;obtain⟨p,xs,rfl,hq,fx,fs,q⟩:=h;cases ry;rcases hq with hq|hq
  · obtain⟨its,r,pl,hz⟩:=I.list hq
    refine SeqAt.notIn_listAt (eqU x) pl.isList (fun w hw=>mem_eqAt rx fx r fs w (by simpa using hw)) ⟨.bl _,H,I,rfl,?_⟩
    rw[show its.toArray.any (eqU x)=its.any (eqU x) by simp,any_eqU r fs]
    exact q
  · obtain⟨its,r,pl,hz⟩:=I.tuple hq
    refine SeqAt.notIn_tupleAt (eqU x) pl (fun w hw=>mem_eqAt rx fx r fs w (by simpa using hw)) ⟨.bl _,H,I,rfl,?_⟩
    rw[show its.toArray.any (eqU x)=its.any (eqU x) by simp,any_eqU r fs]
    exact q
theorem op_notIn_str:OpR X (compareOp .NotIn) (fun x y H Q=>∃ i j,x=.str i/\y=.str j/\Q (.bl (!(!(Builtin.Str.occurrences j i 0 j.length 1).isEmpty))) H):=by
  intro pQ s σ H x y v u Q I rx ry h;obtain⟨i,j,rfl,rfl,q⟩:=h;obtain⟨t,rfl⟩:=rx;obtain⟨t',rfl⟩:=ry;exact notIn_str ⟨.bl _,H,I,rfl,q⟩

theorem call_len_seq:CallR X (.builtin "len") (fun xs H Q=>∃ p ys,xs=[.ref p]/\(SqL X.K H p ys\/SqT X.K H p ys)/\Q (.int ys.length) H):=by
  intro pQ s σ H xs us Q I r h;obtain⟨p,ys,rfl,hq,q⟩:=h;obtain⟨u,rfl,rx⟩:=vals1 r;cases rx;have hn:=line63;rcases hq with hq|hq
  · obtain⟨its,r',pl,hz⟩:=I.list hq
    have hlen:=r'.length;exact Calls.call_len_list pl.isList (by simp only[aJ]<;>omega) ⟨.int ys.length,H,I.tok _,⟨s.toks+1,by rw[aJ,hlen]⟩,q⟩
  · obtain⟨its,r',pl,hz⟩:=I.tuple hq
    have hlen:=r'.length;exact len_tuple pl (by simp only[aJ]<;>omega) ⟨.int ys.length,H,I.tok _,⟨s.toks+1,by rw[aJ,hlen]⟩,q⟩
theorem call_list_of:CallR X (.type "list") (fun xs H Q=>∃ p ys,xs=[.ref p]/\(SqL X.K H p ys\/SqT X.K H p ys)/\∀ l,H l=none->Q (.ref l) (upd H l (.lst ys))):=by
  intro pQ s σ H xs us Q I r h;obtain⟨p,ys,rfl,hq,q⟩:=h;obtain⟨u,rfl,rx⟩:=vals1 r;cases rx;have fin:∀ (its:Li vL),Vals ys its->ys.length<=sizeLine->∀ (h':Heap) (c':Nat),(∀ b o',s.heap.get? b=some o'->h'.get? b=some o')->
      h'.get? s.heap.objs.size=some { cls:=.type "list",dict:=none,data:=.seq its.toArray c',slots:=#[] }->EP X pQ σ Q (.ref s.heap.objs.size) { s with heap:=h' }:=fun its r' hz h' c' kp e=>
    ⟨.ref s.heap.objs.size,_,I.laid (t':=s.toks) kp (aD _) (show ObjOk X.prog X.w _ h' _ (.lst ys) from⟨hz,its,c',r',e⟩),rfl,q _ (I.hok.fresh (aD _))⟩
  rcases hq with hq|hq
  · obtain⟨its,r',pl,hz⟩:=I.list hq
    have hlen:=r'.length;obtain⟨o,ho,hc,n,hd⟩:=pl.isList;exact call_list_seq p (.inl rfl) ho hc hd (fun h' c' kp e=>fin its r' hz h' c' kp e) (by simp only[aJ]<;>omega)
  · obtain⟨its,r',pl,hz⟩:=I.tuple hq
    have hlen:=r'.length;obtain⟨o,ho,hc,n,hd⟩:=pl;exact call_list_seq p (.inr rfl) ho hc hd (fun h' c' kp e=>fin its r' hz h' c' kp e) (by simp only[aJ]<;>omega)
theorem call_tuple_of:CallR X (.type "tuple") (fun xs H Q=>∃ p ys,xs=[.ref p]/\((SqL X.K H p ys/\∀ l,H l=none->Q (.ref l) (upd H l (.tup ys)))\/(SqT X.K H p ys/\Q (.ref p) H))):=by
  intro pQ s σ H xs us Q I r h;obtain⟨p,ys,rfl,h⟩:=h;obtain⟨u,rfl,rx⟩:=vals1 r;cases rx;rcases h with⟨hq,q⟩|⟨hq,q⟩
  · obtain⟨its,r',pl,hz⟩:=I.list hq
    have hlen:=r'.length;refine call_tuple_list pl.isList (fun h' kp=>?_) (by simp only[aJ]<;>omega)
    have I1:Inv X pQ σ H { s with heap:=h' }:=I.kept (t':=s.toks) kp
    have I2:Inv X pQ σ (upd H h'.objs.size (.tup ys)) { s with heap:=h'.push { cls:=.type "tuple",data:=.seq its.toArray } }:=
      I1.laid (t':=s.toks) (fun b o e=>aQ _ e) (aD _) (show ObjOk X.prog X.w _ _ _ (.tup ys) from⟨hz,its,r',IsTup.new _ _⟩)
    exact⟨.ref h'.objs.size,_,I2,rfl,q _ (I1.hok.fresh (aD _))⟩
  · obtain⟨its,r',pl,hz⟩:=I.tuple hq
    exact call_tuple_same pl ⟨.ref p,H,I,rfl,q⟩

def tyV(K:fG7)(T:String)(x:V)(H:Hp):Prop:=match x with
  |.str _=>T = "str"
  |.int _=>T = "int"
  |.ref p=>(T = "list"/\∃ xs,SqL K H p xs)\/(T = "tuple"/\∃ o,K.lookup p=some o/\o.cls=.type "tuple"/\o.dict=none) \/
      (T = "dict"/\((∃ kvs,H p=some (.dK kvs))\/∃ kvs,H p=some (.dN kvs)))\/(T = "set"/\∃ S n,H p=some (.set S n))
  |_=>False
theorem tyV_is{σ:St}{H:Hp}{T:String}{v:vL}(I:Inv X pQ σ H s)(r:RelV x v)(ty:tyV X.K T x H) :
    s.TypeIs v T/\∀ a,v=.ref a->∃ ob,s.heap.get? a=some ob/\ob.dict=none:=by
  cases x with
  |str z=>
    obtain⟨t,rfl⟩:=r;cases (show T = "str" from ty)
    exact⟨typeIs_str s z t,fun _ e=>nomatch e⟩
  |int i=>
    obtain⟨t,rfl⟩:=r;cases (show T = "int" from ty)
    exact⟨typeIs_int s i t,fun _ e=>nomatch e⟩
  |ref p=>
    cases r;rcases ty with⟨rfl,xs,hq⟩|⟨rfl,o,hk,hc,hd⟩|⟨rfl,hk⟩|⟨rfl,S,n,hk⟩
    · obtain⟨its,_,pl,_⟩:=I.list hq
      refine⟨pl.isList.typeIs,fun a e=>?_⟩
      cases e;obtain⟨o,n,e,c,hd,_⟩:=pl;exact⟨o,e,hd⟩
    · refine⟨⟨o,I.kIn p o hk,hc⟩,fun a e=>?_⟩
      cases e;exact⟨o,I.kIn _ o hk,hd⟩
    · have z:∃ o,s.heap.get? p=some o/\o.ExactDict:=by
        rcases hk with⟨kvs,hk⟩|⟨kvs,hk⟩
        · obtain⟨_,_,_,_,o,_,_,e,ex,_⟩:=I.hok p _ hk
          exact⟨o,e,ex⟩
        · obtain⟨_,o,_,e,ex,_⟩:=I.hok p _ hk
          exact⟨o,e,ex⟩
      obtain⟨o,e,ex⟩:=z;refine⟨⟨o,e,ex.1⟩,fun a e2=>?_⟩
      cases e2;exact⟨o,e,ex.2.1⟩
    · obtain⟨o,_,_,_,e,ex,_⟩:=I.hok p _ hk
      refine⟨⟨o,e,ex.1⟩,fun a e2=>?_⟩
      cases e2;exact⟨o,e,ex.2.1⟩
  |_=>exact False.elim ty
noncomputable def tBM(K:fG7)(T:String)(r:V->Li V->Hp->VK->Prop)(to:TE)(t:TA):TE:=fun σ H Q=>to σ H fun x H1=>tyV K T x H1/\t σ H1 fun xs H2=>r x xs H2 Q
variable {o e:Expr}{es:Li Expr}{to:TE}{t:TA}{name:Str}{apos cpos:Pos}{T id:String}{r:V->Li V->Hp->VK->Prop}
theorem pe_bm(pa:PlainAttrs T)(slot:Slot T name id)(hty:typeOf (.builtin id)=pure (.type "method_descriptor"))(hm:MtR X id r)(ho:PE X o to)(ha:PA X (e :: es) t)(hbase:attributeBase o name X.env (eval o X.env)=eval o X.env:=by rfl)(hfew:((backTo cpos (starEach (e :: es) X.env)).all (fun x=>!x.1)&&(backToKw cpos (keywordEach [] X.env)).all (fun x=>x.1.isSome)
     &&decide ((e :: es).length+([]:Li Keyword).length+(if ([]:Li Keyword).isEmpty then 0 else 1) < 30))=true:=by rfl)(hline:(apos.endLine==cpos.line)=true:=by rfl)(hs:starEach (e :: es) X.env=(false,eval e X.env) :: starEach es X.env:=by rfl)(hplain:(backTo cpos (starEach es X.env)).any (·.1)=false:=by rfl) :
    PE X (.Call (.Attribute o name apos) (e :: es) [] cpos) (tBM X.K T r to t):=by
  intro pQ s σ H Q I h;refine wpAny_Call_method_late hbase hfew hline rfl (thn (ho pQ s σ H _ I h) fun v s1 ⟨x,H1,I1,r1,ty,q1⟩=>?_)
  obtain⟨h1,h2⟩:=tyV_is I1 r1 ty;refine⟨T,id,pa,slot,hty,h1,h2,?_⟩;have hA:=ha cpos pQ s1 σ H1 _ I1 q1;rw[hs]at hA ⊢;refine Calls.callWith_builtin (by show(false||(backTo cpos (starEach es X.env)).any (·.1))=false;rw[hplain]<;>rfl) (Calls.evalArgs_plain ?_)
  exact thn hA fun us s2 ⟨vs,H2,I2,r2,q2⟩=>hm pQ s2 σ H2 x vs v us Q I2 r1 r2 q2
end
def MtM(X:Cx)(id:String)(r:V->Li V->Hp->VK->Prop):Prop:=
  ∀ (pQ:Li (Ad×Obj)) (s:sH7) (σ:St) (H:Hp) (x:V) (xs:Li V) (v:vL) (us:Li vL) (Q:VK),Inv X pQ σ H s->RelV x v->Vals xs us->r x xs H Q->
    wpAny (model X.prog X.w) X.A (call (.builtin id) (v :: us)) (EP X pQ σ Q) X.xe s

theorem Vals.one(h:Vals [x] us):∃ u,us=[u]/\RelV x u:=by
  cases h with
  |cons r h=>cases h;exact⟨_,rfl,r⟩
theorem Vals.two(h:Vals [x,y] us):∃ u v,us=[u,v]/\RelV x u/\RelV y v:=by
  cases h with
  |cons r h=>cases h with
    |cons q h=>cases h;exact⟨_,_,rfl,r,q⟩
theorem Vals.rep(h:Vals xs us):∀ k:Nat,Vals (List.replicate k xs).flatten (List.replicate k us).flatten
  |0=>.nil
  |k+1=>by
    rw[bV,bV,cN,cN];exact Vals.append h (Vals.rep h k)
theorem foldl_rep(its:Li vL):∀ (k:Nat) (acc:Li vL),
    List.foldl (fun x1 x2=>x1++x2) acc.toArray (List.replicate k its.toArray)=(acc++(List.replicate k its).flatten).toArray
  |0,acc=>by simp
  |k+1,acc=>by
    have e:acc.toArray++its.toArray=(acc++its).toArray:=by simp
    have e2:(acc++its)++(List.replicate k its).flatten=acc++(List.replicate (k+1) its).flatten:=by
      rw[bV,cN,bF]
    rw[<-e2,<-foldl_rep its k (acc++its),<-e,bV,List.foldl_cons]

section
variable {X:Cx}{pQ:Li (Ad×Obj)}{σ:St}{H:Hp}{s:sH7}{l b:Ad}{xs ys zs:Li V}

theorem Inv.lset{its:Li vL}{f:Array vL->Array vL}{t':Nat}(I:Inv X pQ σ H s)(hH:H l=some (.lst xs))(e:s.heap.get? l=some { cls:=.type "list",data:=.seq its.toArray n })(hf:f its.toArray=its'.toArray)(hv:Vals ys its')(hz:ys.length<=sizeLine) :
    Inv X pQ σ (upd H l (.lst ys)) { s with heap:=s.heap.update l (Obj.mapSeq f),toks:=t' }:=by
  have q:=PySem.IsL.update e f;rw[hf]at q;refine I.write (x:=l) (e:=l) (by rw[hH];exact trivial) (.inl rfl) (fun b' u hb hu=>(Heap.get?_update_other s.heap (Obj.mapSeq f) (Ne.symm hb)).trans hu) ⟨_,q⟩ ?_
  exact⟨hz,its',_,hv,q⟩
theorem Inv.lnew{its:Li vL}{t':Nat}(I:Inv X pQ σ H s)(hv:Vals ys its)(hz:ys.length<=sizeLine) :
    Inv X pQ σ (upd H s.heap.objs.size (.lst ys)) { s with heap:=s.heap.push { cls:=.type "list",data:=.seq its.toArray },toks:=t' }:=
  I.laid (fun _ _ q=>aQ _ q) (aD _) ⟨hz,its,0,hv,bA _ rfl⟩
theorem Inv.fresh(I:Inv X pQ σ H s):H s.heap.objs.size=none:=I.hok.fresh (aD _)
theorem Inv.lstM(I:Inv X pQ σ H s)(hH:H l=some (.lst xs)):xs.length<=sizeLine/\∃ (its:Li vL) (n:Nat),Vals xs its/\xs.length=its.length/\s.heap.get? l=some { cls:=.type "list",data:=.seq its.toArray n }:=by
  obtain⟨z,its,n,r,e⟩:=I.hok l _ hH;exact⟨z,its,n,r,r.length,e⟩

theorem notLongL(h:n<=sizeLine):Builtin.List.listTooLong n=false:=by
  unfold Builtin.List.listTooLong;exact aE (by omega)
end

section
variable {X:Cx}

def rAppend:V->Li V->Hp->VK->Prop:=fun x vs H Q=>∃ l xs y,x=.ref l/\vs=[y]/\H l=some (.lst xs)/\xs.length < sizeLine/\Q .non (upd H l (.lst (xs++[y])))
theorem mt_append:MtM X "list.append" rAppend:=by
  intro pQ s σ H x vs v us Q I rx rv h;obtain⟨l,xs,y,rfl,rfl,hH,hz,q⟩:=h;cases rx;obtain⟨u,rfl,ru⟩:=rv.one;obtain⟨z,its,n,r,hl,e⟩:=I.lstM hH;refine call_meets F.slot_list_append ⟨_,e,rfl⟩ F.entry_list_append (F.args_list_append_2 _ _) (PySem.list_append l its.toArray n u (by rw[aJ];omega)) ⟨e,?_⟩
  refine⟨.non,_,I.lset (its':=its++[u]) hH e (by simp) (r.append (.cons ru .nil)) ?_,rfl,q⟩
  rw[aI,dZ];omega

def rExtend:V->Li V->Hp->VK->Prop:=fun x vs H Q=>∃ l b xs zs,x=.ref l/\vs=[.ref b]/\H l=some (.lst xs)/\H b=some (.lst zs)/\xs.length+zs.length<=sizeLine/\Q .non (upd H l (.lst (xs++zs)))
theorem mt_extend:MtM X "list.extend" rExtend:=by
  intro pQ s σ H x vs v us Q I rx rv h;obtain⟨l,b,xs,zs,rfl,rfl,hH,hB,hz,q⟩:=h;cases rx;obtain⟨u,rfl,ru⟩:=rv.one;cases ru;obtain⟨z,its,n,r,hl,e⟩:=I.lstM hH;obtain⟨z2,its2,n2,r2,hl2,e2⟩:=I.lstM hB;have hsz:its.toArray.size+its2.toArray.size<=sizeLine:=by rw[aJ,aJ];omega
  have hlong:¬(!its.toArray.isEmpty&&Builtin.List.listTooLong (its.toArray.size+its2.toArray.size))=true:=by
    rw[notLongL hsz,cG];exact bF7
  refine call_meets F.slot_list_extend ⟨_,e,rfl⟩ F.entry_list_extend (F.args_list_extend_2 _ _)
    (AutoSeq1.list_extend_list_list_0 l its.toArray n b its2.toArray n2 hlong (by rw[aJ];omega) (by omega)) ⟨e,e2,?_⟩
  refine⟨.non,_,I.lset (its':=its++its2) hH e (by simp) (r.append r2) ?_,rfl,q⟩
  rw[aI];omega





noncomputable def rRep:R2:=fun x y H Q=>∃ l k xs,x=.ref l/\y=.int k/\H l=some (.lst xs)/\-(2 ^ 63)<=k/\k < 2 ^ 63/\xs.length * k.toNat<=sizeLine /\
  ∀ p,H p=none->Q (.ref p) (upd H p (.lst (List.replicate k.toNat xs).flatten))
theorem len_rep(xs:Li α)(k:Nat):(List.replicate k xs).flatten.length=k * xs.length:=by
  induction k with
  |zero=>simp
  |succ k ih=>rw[bV,cN,aI,ih,Nat.succ_mul,Nat.add_comm]
theorem op_rep:OpR X (binaryOp .Mult) rRep:=by
  intro pQ s σ H x y v u Q I rx ry h;obtain⟨l,k,xs,rfl,rfl,hH,h1,h2,hz,q⟩:=h;cases rx;obtain⟨t,rfl⟩:=ry;obtain⟨z,its,n,r,hl,e⟩:=I.lstM hH;have hlen:its.toArray.size * k.toNat<=sizeLine:=by rw[aJ,<-hl];exact hz
  have hcap:¬its.toArray.size * k.toNat > (2 ^ 63 - 1) / 8:=by
    have:(sizeLine:Nat)<=(2 ^ 63 - 1) / 8:=by decide
    omega
  have hfit:¬(!Builtin.List.listFitsIndex k)=true:=by
    rw[fitsIndex_both h1 h2];exact bF7
  have hlong:¬Builtin.List.listTooLong (its.toArray.size * k.toNat)=true:=by
    rw[notLongL hlen];exact bF7
  have hnew:List.foldl (fun x1 x2=>x1++x2) #[] (List.replicate (if its.toArray.isEmpty=true then 0 else k.toNat) its.toArray)=(List.replicate k.toNat its).flatten.toArray:=by
    have f0:∀ m:Nat,List.foldl (fun x1 x2=>x1++x2) #[] (List.replicate m its.toArray)=(List.replicate m its).flatten.toArray:=fun m=>by
      have:=foldl_rep its m [];rw[dB]at this;exact this
    rw[f0];cases its with
    |nil=>simp
    |cons a r'=>rw[if_neg (by simp)]
  refine wpAny_binaryOp_repeat_ref (T := "list") (U := "int") (by decide) ⟨_,e,rfl⟩ (fun s'=>typeIs_int s' k t) noFill_list_mul F.fills_int_mul F.slot_int_rmul repeat_list F.slot_int_index.lookup
    (call_meets F.slot_int_rmul (typeIs_int s k t) F.entry_int_rmul (F.args_int_rmul_2 _ _) (int___rmul___int_list k t l its.toArray n)
      ⟨e,rfl,⟨_,e,rfl⟩,call_meets F.slot_list_mul ⟨_,e,rfl⟩ F.entry_list_mul (F.args_list_mul_2 _ _) (AutoListH.list___mul___list_int_3 l its.toArray n k t hfit hcap hlong) ⟨e,?_⟩⟩)
  rw[hnew];exact⟨.ref _,_,I.lnew (t':=s.toks) (r.rep k.toNat) (by rw[len_rep,Nat.mul_comm];exact hz),rfl,q _ I.fresh⟩

end

section
variable {prog:Program}{w:World}{A:Around}{E:vL->sH7->Prop}{s:sH7}
end

section
variable {X:Cx}
end
end L2

namespace Att
open PySem PySem.W PySem.Calls PyProof.Rows

variable{h:Heap}
theorem ints_of_wellAll{P:Params}:∀ (ns:Li Int) (vs:Li vL),WellAll P h vs (ns.map WData.int)->IntsAre vs ns:=by
  intro ns
  induction ns with
  |nil=>
    intro vs w;rw[List.map_nil]at w;cases w;exact .nil
  |cons n ns ih=>
    intro vs w;rw[aL]at w;cases w with
    |cons a b=>
      cases a;exact .cons _ _ (ih _ b)

variable{l:OpenLaw}
theorem script_of{n:Nat}(hn:l.most=some n){P:Params}{args:Li WData}{vals:Li vL}(hpre:l.row.toRowW.claim.pre args=true)(hwl:WellAll P h vals args) :
    ∃ a vs ns,vals=[Value.ref a]/\args=[WData.list (ns.map WData.int)]/\h.get? a=some { cls:=.type "list",data:=.seq vs.toArray }/\IntsAre vs ns/\ns.length<=n:=by
  have hsh:WShape.hasAll [] args [.list .int]=true:=(pre_splitW hpre).1;have hc:l.pre.holds [] { args:=args }=true:=(pre_splitW hpre).2;obtain⟨d,r,rfl,h1,h2⟩:=hasAllW_cons hsh;obtain rfl:=hasAllW_nil h2;obtain⟨xs,rfl,h3⟩:=hasW_list h1;obtain⟨ns,rfl⟩:=items_int h3;have hlen:ns.length<=n:=by
    unfold OpenLaw.pre at hc;have h4:(WTm.not (.lt (.lit (.int (n:Int))) (.len (.arg 0)))).holds [] { args:=[.list (ns.map .int)] }=true:=by
      have h4:=(holds_andW hc).1;rw[hn]at h4;exact h4
    have h5:=condW_of h4 (w_not (w_lt w_lit (w_len_list (w_arg rfl))));rw[aB]at h5;refine dP fun q=>?_
    have q':(n:Int) < ((ns.length:Nat):Int):=by omega
    first
      | (rw[aH q']at h5;exact absurd h5 (by decide))
      | (simp at h5;omega)
  cases hwl with
  |cons w1 w2=>
    cases w2;cases w1 with
    |list ho hall=>exact⟨_,_,ns,rfl,rfl,ho,ints_of_wellAll ns _ hall,hlen⟩

theorem post_true(l:OpenLaw)(args:Li WData):l.row.toRowW.claim.post args (.bool true) args=true:=
  postW_of (r:=l.row.toRowW) (X:=(true==true))
    (show WShape.has [] (.bool true) .bool=true by first|rfl|decide|simp[WShape.has,WShape.arms,WShape.armsAll])
    (show(WTm.eq .res (.lit (.bool true))).value [] { args:=args,res:=some (.bool true),after:=args }=some (.bool (true==true)) from w_eq_bool (w_res rfl) w_lit) rfl


theorem attach_call{n:Nat}{q:Program}{loose:Li Str}{XP:(Str->Ot vL)->Heap->Prop}{YP:World->Heap->Prop}{d:DefRec}(hn:l.most=some n)(hdf:d.params.defaults=[])(call:∀ (w:World) (s₀ s₁:sH7) (mg mb:Str->Ot vL) (fa:Ad) (o:Obj) (pm cd doc:vL) (a:Ad) (vs:Li vL) (ns:Li Int),
      Ground q loose [] XP w s₀ mg mb s₁.heap->YP w s₁.heap->
      s₁.heap.get? fa=some o->o.data=.func (docDef d.name d.params d.body d.scope pm cd doc)->s₁.heap.CodeRec cd d.name->mg d.name=some (.ref fa)->
      s₁.heap.get? a=some { cls:=.type "list",data:=.seq vs.toArray }->IntsAre vs ns->ns.length<=n->s₁.gens=#[]->
      codeAny (model l.prog w) callerA (.call (.ref fa) ⟨[.ref a],[]⟩) (fun r s'=>r=.ok (.ret (.bool true))/\OldK s₁.heap s'.heap/\s'.os=s₁.os/\AllBare s'.gens) s₁) :
    WalkO q loose XP YP l.row.toRowW d [] (fun f vs=>PySem.call f vs):=by
  intro w s₀ s₁ mg mb G Y fa o pm cd doc dV kV ho hd hcd hD hmg hg args vals as hpre hlay hrd hwl hlo;obtain rfl:dV=.none:=Dflts.none hD hdf;obtain rfl:kV=.none:=Dflts.noKw hD;obtain⟨a,vs,ns,rfl,rfl,hobj,hints,hlen⟩:=script_of hn hpre hwl;refine enter_call (codeAny_mono (call w s₀ s₁ mg mb fa o pm cd doc a vs ns G Y ho (fd_plain hd) hcd hmg hobj hints hlen hg) fun r s' hq=>?_)
  obtain⟨rfl,h2,h3,h4⟩:=hq;exact⟨.inl ⟨.bool true,.bool true,[],rfl,fun _=>rfl,.bool true,post_true l _,fun _=>⟨List.Pairwise.nil,fun _ hm=>(nomatch hm)⟩⟩,h2,h3,h4⟩


section
variable {prog:Program}{w:World}{A:Around}{E:vL->sH7->Prop}{s:sH7}{K:Frag}






end
end Att

namespace L2
open PySem PySem.Spec PyProof.Rows

theorem vals_ints:∀ {vs:Li vL}{ns:Li Int},IntsAre vs ns->Vals (ns.map V.int) vs
  |_,_,.nil=>.nil
  |_,_,.cons n t h=>.cons ⟨t,rfl⟩ (vals_ints h)

def Only(H:Hp):Prop:=∀ b,H b=none\/∃ o xs,H b=some (.frz o (.lst xs))

variable{w:World}
theorem law_call{P:Program}{K:fG7}{mg mb:Str->Ot vL}{CX:CXT}{k:Nat}{fa a:Ad}{fd:FuncData}{x:Str}{sp:Sp}{s₁:sH7}{vs:Li vL}{ns:Li Int}(KX:K.In s₁.heap)(hns:s₁.heap.Ns mainGlobals mg)(hb:s₁.heap.Ns builtinsNs mb)(hbb:∀ x:Str,x ≠ "__name__"->mb x=bootBuiltins x)(hlim:s₁.heap.NoLimit)(hg:s₁.gens=#[])(ha:s₁.heap.get? a=some { cls:=.type "list",data:=.seq vs.toArray })(hi:IntsAre vs ns)(hl:ns.length<=sizeLine)(hr:Room k callerA)(F:∀ base:Heap,K.In base->base.Ns mainGlobals mg->FnOk P w K mg base CX k fa fd [x] sp)(hbind:∀ (s:sH7) (u:vL),BindsTo s fd ⟨[u],[]⟩ [(x,u)])(hsp:∀ H:Hp,Only H->SqL K H a (ns.map V.int)->sp [.ref a] H (fun v _=>v=.bl true) fun _ _ _=>False)(hCX:∀ H e s',CX [] H s₁ (fun _ _ _=>False) e s'->False) :
    codeAny (model P w) callerA (.call (.ref fa) ⟨[.ref a],[]⟩) (fun r s'=>r=.ok (.ret (.bool true))/\OldK s₁.heap s'.heap/\s'.os=s₁.os/\AllBare s'.gens) s₁:=by
  have rv:=vals_ints hi;have lenV:=hi.length
  -- from an abstract heap in which nothing but the script may be tracked
  have core:∀ H:Hp,Only H->SqL K H a (ns.map V.int)->HOk P w H s₁.heap->(∀ b,H b≠none->b=a)->(H a≠none->K.lookup a=none)->
      codeAny (model P w) callerA (.call (.ref fa) ⟨[.ref a],[]⟩) (fun r s'=>r=.ok (.ret (.bool true))/\OldK s₁.heap s'.heap/\s'.os=s₁.os/\AllBare s'.gens) s₁:=by
    intro H hO hS hok hA hK;have base_of:∀ {b:Ad}{o:Obj},s₁.heap.get? b=some o->H b=none->(hidT s₁.heap H).get? b=some o:=fun e n=>hidT_get e n
    have noA:∀ {b:Ad}{o:Obj}{es:Array DictEntry}{ep:Nat},s₁.heap.get? b=some o->o.data=.dict es ep->H b=none:=fun {b o es ep} e d=>by
      cases q:H b with
      |none=>rfl
      |some u=>
        have e':b=a:=hA b (by rw[q];simp)
        subst e';rw[ha]at e;cases e
        have d':Data.seq vs.toArray _=Data.dict es ep:=d;cases d'
    have nsK:∀ {b:Ad}{m:Str->Ot vL},s₁.heap.Ns b m->(hidT s₁.heap H).Ns b m:=fun {b m} ⟨o,es,ep,e,d,r⟩=>⟨o,es,ep,base_of e (noA e d),d,r⟩
    have hKb:K.In (hidT s₁.heap H):=fun b o e=>base_of (KX b o e) (by
      cases q:H b with
      |none=>rfl
      |some u=>
        have e':b=a:=hA b (by rw[q];simp)
        subst e';rw[hK (by rw[q];simp)]at e;cases e)
    have hM:Mod K mg (hidT s₁.heap H):=⟨hKb,nsK hns,⟨mb,nsK hb,hbb⟩,let ⟨mc,h1,h2⟩:=hlim;⟨mc,nsK h1,h2⟩⟩
    have e0:Env0 P w K mg (hidT s₁.heap H) callerA [] s₁ H:=⟨rfl,hM,fun b o e=>of_hidT e,cL (hidT_size _ _),trivial,fun b hb=>absurd (show b∈([]:Li Ad) from hb) (by simp),hok,.of_eq hg⟩
    refine codeAny_mono ((F _ hKb (nsK hns)).run callerA [] s₁ H ⟨[.ref a],[]⟩ [.ref a] [.ref a] _ _ hr e0 (hbind s₁ (.ref a)) (.cons rfl .nil) (hsp H hO hS)) fun r s' h=>?_
    cases r with
    |error e=>exact(hCX H e s' h).elim
    |ok fl=>
      cases fl with
      |next=>exact False.elim h
      |brk=>exact False.elim h
      |cont=>exact False.elim h
      |ret u=>
        obtain⟨v,H',os,bare,un,hok',r',q⟩:=h;have q':v=.bl true:=q;subst q';obtain rfl:u=Value.bool true:=r';refine⟨rfl,OldK.of_keep fun b o e=>?_,os,bare⟩
        cases q:H b with
        |none=>exact un.keep b o e q (by intro z;exact absurd (show b∈([]:Li Ad) from z) (by simp)) (by simp)
        |some u=>
          rcases hO b with z|⟨ob,xs,z⟩
          · rw[q]at z;cases z
          · have z2:=un.frzs b ob _ z
            obtain⟨e1,_⟩:=hok b _ z;obtain⟨e2,_⟩:=hok' b _ z2;rw[e]at e1;cases e1
            exact e2
  cases hk:K.lookup a with
  |some o=>
    -- the script is one of the module's own objects
    have e:=KX a o hk;rw[ha]at e;cases e;refine core (fun _=>none) (fun _=>.inl rfl) (.inr ⟨_,vs.toArray,_,hk,rfl,rfl,rfl,by rw[aJ,lenV];exact hl,by simpa using rv⟩) (fun b u z=>by have z':(none:Ot HO)=some u:=z;cases z') (fun b z=>absurd rfl z) fun z=>absurd rfl z
  |none=>
    refine core (fun b=>if b=a then some (.frz { cls:=.type "list",data:=.seq vs.toArray } (.lst (ns.map V.int))) else none) (fun b=>?_) (.inl (.inr ⟨{ cls:=.type "list",data:=.seq vs.toArray },if_pos rfl⟩)) (fun b u z=>?_) (fun b z=>?_) fun _=>hk
    · by_cases hb:b=a
      · exact .inr ⟨_,_,if_pos hb⟩
      · exact .inl (if_neg hb)
    · by_cases hb:b=a
      · have z':=(if_pos hb).symm.trans z
        cases z';subst hb;exact⟨ha,by rw[aB];exact hl,vs,_,rv,ha⟩
      · have z':=(if_neg hb).symm.trans z
        cases z'
    · by_cases hb:b=a
      · exact hb
      · exact absurd (if_neg hb) z
theorem walk_of{l:PySem.W.OpenLaw}{n k:Nat}{q:Program}{loose:Li Str}{XP:(Str->Ot vL)->Heap->Prop}{YP:World->Heap->Prop}{d:DefRec}{K:Params->fG7}{CX:World->CXT}{sp:World->Sp}{x:Str}(hn:l.most=some n)(hn2:n<=sizeLine)(hdf:d.params.defaults=[])(hr:Room k callerA)(hY:∀ (w:World) (h:Heap),YP w h->(K w.params).In h)(F:∀ (w:World) (mg:Str->Ot vL) (fa:Ad) (h:Heap),(K w.params).In h->h.Ns mainGlobals mg->mg d.name=some (.ref fa)->
      ∃ fd:FuncData,(∀ (s:sH7) (u:vL),BindsTo s fd ⟨[u],[]⟩ [(x,u)]) /\
        ∀ base:Heap,(K w.params).In base->base.Ns mainGlobals mg->FnOk l.prog w (K w.params) mg base (CX w) k fa fd [x] (sp w))(hsp:∀ (w:World) (H:Hp) (a:Ad) (ns:Li Int),ns.length<=n->Only H->SqL (K w.params) H a (ns.map V.int)->sp w [.ref a] H (fun v _=>v=.bl true) fun _ _ _=>False)(hCX:∀ (w:World) (H:Hp) (s:sH7) (e:vL) (s':sH7),CX w [] H s (fun _ _ _=>False) e s'->False) :
    PySem.W.WalkO q loose XP YP l.row.toRowW d [] (fun f vs=>PySem.call f vs):=by
  refine Att.attach_call hn hdf fun w s₀ s₁ mg mb fa o pm cd doc a vs ns G Y ho hd hcd hmg hobj hints hlen hg=>?_
  have KX:=hY w _ Y;obtain⟨fd,hb,hF⟩:=F w mg fa _ KX G.T.g hmg;exact law_call KX G.T.g G.T.b G.T.builtins G.T.nolimit hg hobj hints (aM hlen hn2) hr hF hb (fun H hO hS=>hsp w H a ns hlen hO hS) fun H e s'=>hCX w H s₁ e s'
noncomputable def defArgs(s:Stmt):Arguments:=match s with
  |.FunctionDef _ a _ _ _ _ _ _ _ _=>a
  |_=>{ posonlyargs:=[],args:=[],vararg:=none,kwonlyargs:=[],kw_defaults:=[],kwarg:=none,defaults:=[] }
noncomputable def defBody(s:Stmt):Li Stmt:=match s with
  |.FunctionDef _ _ b _ _ _ _ _ _ _=>b
  |_=>[]
noncomputable def defScope(s:Stmt):Scope:=match s with
  |.FunctionDef _ _ _ _ _ _ sc _ _ _=>sc
  |_=>{ kind:=.function,names:=[],isGenerator:=false,isCoroutine:=false }

noncomputable abbrev CX0:CXT:=fun _ _ _ _ _ _=>False
noncomputable abbrev E0:XK:=fun _ _ _=>False
theorem pass0{X:Cx}:Passes CX0 X E0:=fun _ _ _ _ _ _ _ h=>h.elim

structure Fun(K:fG7)(x qual:Str)(st:Stmt)(f:Addr)(fd:FuncData):Prop where
  ex:∃ (oc:Value) (od:Option Addr) (kV doc pm:Value) (an:Option Addr) (cdv ct:Value) (osl:Array (Option Value)),
    fd=PySem.W.fnOf x qual (defArgs st) (defBody st) (defScope st) .none kV doc pm an cdv ct/\K.lookup f=some ⟨oc,od,.func fd,osl⟩/\PySem.W.codeIn K cdv qual=true
  kp:PySem.W.keepIn K (.ref f)=true
section
variable {P:Program}{w:World}{K:fG7}{mg:Str->Ot vL}{base:Heap}
end

section
variable {X:Cx}
end



section
variable {κ:Type} [DecidableEq κ]
noncomputable def valV(kvs:Li (κ×V))(k:κ):Ot V:=(kvs.find? fun kv=>decide (kv.1=k)).map (·.2)
noncomputable def putK(kvs:Li (κ×V))(k:κ)(v:V):Li (κ×V):=
 if (kvs.any fun kv=>decide (kv.1=k))=true then kvs.map (fun kv=>if kv.1=k then (kv.1,v) else kv) else kvs++[(k,v)]
theorem valV_pos{p:κ×V}{r:Li (κ×V)}{k:κ}(e:p.1=k):valV (p :: r) k=some p.2:=by simp[valV,cP,e]
theorem valV_neg{p:κ×V}{r:Li (κ×V)}{k:κ}(e:¬p.1=k):valV (p :: r) k=valV r k:=by simp[valV,cP,e]
theorem RelO.isSome_eq{o:Ot V}{u:Ot vL}(r:RelO o u):o.isSome=u.isSome:=by
 cases o with
 |none=>cases u with
  |none=>rfl
  |some _=>exact(show False from r).elim
 |some _=>cases u with
  |none=>exact(show False from r).elim
  |some _=>rfl
theorem KV.val{kvs:Li (κ×V)}{vs:Li (κ×vL)}(r:KV kvs vs)(k:κ):RelO (valV kvs k) (valueAt vs k):=by
 unfold KV at r
 induction r with
 |nil=>exact True.intro
 |@cons p q ps qs h t ih=>
  obtain⟨h1,h2⟩:=h;by_cases e:p.1=k
  ·have e':q.1=k:=h1.symm.trans e
   have b:valueAt (q :: qs) k=some q.2:=by simp[valueAt,cP,e']
   rw[valV_pos e,b];exact h2
  ·have e':¬q.1=k:=fun z=>e (h1.trans z)
   have b:valueAt (q :: qs) k=valueAt qs k:=by simp[valueAt,cP,e']
   rw[valV_neg e,b];exact ih
end
theorem kV_is{P:Program}{k:Key}{u:vL}(r:RelV (kV k) u):(mixKind P w).is k u=true:=by
 cases k with
 |inl i=>obtain⟨t,e⟩:=(show ∃ t,u=Value.int i t from r);subst e;exact mixKind_int P w i t
 |inr x=>obtain⟨t,e⟩:=(show ∃ t,u=Value.str x t from r);subst e;exact mixKind_str P w x t
variable{kvs:Li (Key×V)}
section
variable {P:Program}{w:World}{H:Hp}{h:Heap}{a:Ad}
theorem rd_of{u:HO}(ok:HOk P w H h)(e:Rd H a u):ObjOk P w H h a u:=e.ok ok
theorem dk_rd(ok:HOk P w H h)(e:Rd H a (.dK kvs)):kvs.length<=sizeLine/\(a==sysModules)=false/\∃ vs,KV kvs vs/\h.DictOf (mixKind P w) a vs:=
 show ObjOk P w H h a (.dK kvs) from rd_of ok e
theorem dk_of(ok:HOk P w H h)(e:H a=some (.dK kvs)):kvs.length<=sizeLine/\(a==sysModules)=false/\∃ vs,KV kvs vs/\h.DictOf (mixKind P w) a vs:=dk_rd ok (.inl e)
end
section
variable {X:Cx}{pQ:Li (Ad×Obj)}{σ:St}{H:Hp}{s:sH7}{a:Ad}{y v:V}{u r:vL}{o:Ot V}{A:Around}{E:vL->sH7->Prop}
theorem Inv.big(I:Inv X pQ σ H s):sysModules < s.heap.objs.size:=by
 have h:mainGlobals < s.heap.objs.size:=(I.mod.glob.keeps I.bk).lt;exact Nat.lt_trans (by decide) h
theorem d_write{h':Heap}{t':Nat}{ob:HO}(I:Inv X pQ σ H s)(mu:Mut (H a))(hs:Heap.SameBut a s.heap h')(he:∃ q,h'.get? a=some q)(new:ObjOk X.prog X.w (upd H a ob) h' a ob) :
  Inv X pQ σ (upd H a ob) { s with heap:=h',toks:=t' }:=
 I.write (x:=a) (e:=a) mu (.inl rfl) (fun b q hb z=>(hs.2 b hb).trans z) he new
end
section
variable {X:Cx}
noncomputable def rIxD:R2:=fun x y H Q=>∃ p kvs k v,x=.ref p/\y=kV k/\H p=some (.dK kvs)/\valV kvs k=some v/\Q v H
theorem ix_dct:IxR X rIxD:=by
 intro value slice pQ s σ H x y v u Q I rx ry h hs;obtain⟨p,kvs,k,z,rfl,rfl,hq,he,q⟩:=h;cases rx;obtain⟨zz,hd,vs,rel,dd⟩:=dk_of I.hok hq;obtain⟨w',hw,rw'⟩:=RelO.some_of (v:=z) (o:=valueAt vs k) (by rw[<-he];exact rel.val k)
 exact tail_any dd.typeIs PySem.F.slot_dict_getitem.lookup (wpAny_getItem_of (kV_is ry) dd.mapOf hw ⟨z,H,I.tok _,rw',q⟩) hs
noncomputable def rInD:R2:=fun x y H Q=>∃ p kvs k,y=.ref p/\x=kV k/\H p=some (.dK kvs)/\Q (.bl (valV kvs k).isSome) H
theorem op_in_dct:OpR X (compareOp .In) rInD:=by
 intro pQ s σ H x y v u Q I rx ry h;obtain⟨p,kvs,k,rfl,rfl,hq,q⟩:=h;cases ry;obtain⟨zz,hd,vs,rel,dd⟩:=dk_of I.hok hq;refine wpAny_in_of (kV_is rx) hd dd.mapOf ?_;rw[<-(rel.val k).isSome_eq];exact⟨.bl (valV kvs k).isSome,H,I.tok _,rfl,q⟩
end
section
variable {κ:Type} [DecidableEq κ]
end
abbrev KTp(H:Hp):Li (Li Key×V)->Li (Li Key×Ad×vL)->Prop:=Paired fun p q=>p.1=q.1/\H q.2.1=some (.tup (p.1.map kV))/\RelV p.2 q.2.2
section
variable {P:Program}{w:World}{H:Hp}{h:Heap}{a:Ad}
end
section
variable {X:Cx}
end
end L2


namespace Dp
open PySem
variable{α:Type}
theorem Zb{x:α}{C:Prop}(h:(none:Ot α)=some x):C:=nomatch h
noncomputable abbrev S(x:String):Str:=Str.ofString x

inductive D where
 |non|bl (b:Bool)|int (i:Int)|str (x:Str)|tup (xs:List D)|lst (id:Nat)|dct (ks:List Str) (vs:List D)|obj (i:Nat)|kt (ks:List Str)|dic (id:Nat)

noncomputable abbrev Env:=Li (Ot D)
noncomputable abbrev Z4:=Bool×Li D
noncomputable abbrev Za:=Li Z4
noncomputable abbrev Res:=Ot (D×Za)
noncomputable abbrev Fn:=Li D->Za->Res

noncomputable def o2{α β γ:Type}(f:α->β->γ):Ot α->Ot β->Ot γ
 |some x,some y=>some (f x y)
 |_,_=>none
noncomputable def og{α:Type}(p:Prop)[Decidable p](o:Ot α):Ot α:=if p then o else none
mutual
noncomputable def Zr:D->D->Bool
 |.non,.non=>true
 |.bl a,.bl b=>a==b
 |.int a,.int b=>decide (a=b)
 |.str a,.str b=>decide (a=b)
 |.tup a,.tup b=>Zw a b
 |_,_=>false
noncomputable def Zw:Li D->Li D->Bool
 |[],[]=>true
 |x :: xs,y :: ys=>Zr x y&&Zw xs ys
 |_,_=>false
end
mutual
noncomputable def okD:Nat->D->Bool
 |_,.non=>true
 |_,.int _=>true
 |_,.str _=>true
 |n+1,.tup xs=>ZT n xs
 |_,_=>false
noncomputable def ZT:Nat->Li D->Bool
 |_,[]=>true
 |n,x :: xs=>okD n x&&ZT n xs
end
inductive Sc where
 |non|bl (b:Bool)|int (i:Int)|str (x:Str)
noncomputable def scD:D->Ot Sc
 |.non=>some .non
 |.bl b=>some (.bl b)
 |.int i=>some (.int i)
 |.str x=>some (.str x)
 |_=>none
noncomputable def Zfn:Sc->Sc->Ot Bool
 |.non,.non=>some true
 |.non,.bl _=>some false
 |.non,.int _=>some false
 |.non,.str _=>some false
 |.bl _,.non=>some false
 |.bl a,.bl b=>some (a==b)
 |.bl _,.int _=>none
 |.bl _,.str _=>some false
 |.int _,.non=>some false
 |.int _,.bl _=>none
 |.int a,.int b=>some (decide (a=b))
 |.int _,.str _=>some false
 |.str _,.non=>some false
 |.str _,.bl _=>some false
 |.str _,.int _=>some false
 |.str a,.str b=>some (decide (a=b))
noncomputable def eqT(xs:Li D):D->Ot Bool
 |.tup ys=>if okD 8 (.tup xs)&&okD 8 (.tup ys) then some (Zw xs ys) else none
 |_=>none
noncomputable def eqD(x y:D):Ot Bool:=match x with
 |.tup xs=>eqT xs y
 |x=>(o2 Zfn (scD x) (scD y)).join

inductive Ty where
 |int|bool|str|tuple
 deriving DecidableEq

set_option genInjectivity false in
inductive CE where
 |v (i:Nat)|c (d:D)
 |bin (op:Operator) (a b:CE)|neg (a:CE)
 |cmp (op:CmpOp) (a b:CE)
 |not (a:CE)|and (a b:CE)|or (a b:CE)|ife (c a b:CE)
 |tupE (a:CE)|lstE (a:CE)|aN|aC (a r:CE)
 |ix (a b:CE)|slice (a lo hi:CE)|nop|part (a:CE)
 |call (f:Nat) (args:CE) (ds:List D)
 |len (a:CE)|tOf (a:CE)|listOf (a:CE)|intOf (a:CE)|min (a b:CE)|max (a b:CE)|isi (T:Ty) (a:CE)
 |comp (rng:Bool) (fr:List Nat) (it elt YE:CE)|comp2 (fr:List Nat) (it elt YE:CE)|compT (fr:List Nat) (it elt YE:CE)|lstR (a b:CE)|new (i:Nat)|meth (tab:List (Nat×Nat)) (o a:CE)|isc (l:List Nat) (a:CE)|tix (o a:CE)
 |rs (k:Bool) (a:CE)
 |inv (a:CE)|tupR (a:CE)|look (ks:List Str) (ds:List D) (a:CE)|dget (a k d:CE)|all (a:CE)|any (a:CE)|inR (ng:Bool) (a b:CE)
 |dict (ks:List Str) (a:CE)|dnew|strOf (a:CE)|joinE (a b:CE)|starts (a b:CE)|rng2 (a b:CE)|srt (a:CE)
 |comp3 (fr:List Nat) (it elt YE:CE)|mk (i j:Nat) (args:CE) (ds:List D)|fld (f:Str) (a:CE)

set_option genInjectivity false in
inductive CS where
 |skip|seq (a b:CS)|ret (e:CE)|set (i:Nat) (e:CE)|app (i:Nat) (e:CE)|ext (i:Nat) (e:CE)|put (i:Nat) (k e:CE)
 |ite (c:CE) (a b:CS)|for1 (i:Nat) (rng:Bool) (it:CE) (b:CS)|for3 (i:Nat) (it:CE) (b:CS)|forP (i j:Nat) (it:CE) (b:CS)|forE (i j:Nat) (it:CE) (b:CS)|set2 (i j:Nat) (e:CE)|for4 (i j l:Nat) (it:CE) (b:CS)|for2 (i j:Nat) (it:CE) (b:CS)|whl (c:CE) (b:CS)|brk|cont|stop|set3 (i j l:Nat) (e:CE)|act (e:CE)|dput (i:Nat) (a b e:CE)|app2 (o e:CE)|fset (i:Nat) (f:Str) (e:CE)|forI (i j:Nat) (o:CE) (b:CS)|set4 (i j l m:Nat) (e:CE)

noncomputable def Z8(i:Int):Bool:=decide (-(2 ^ 64) < i)&&decide (i < 2 ^ 64)
noncomputable def Zu:Nat:=1000000

noncomputable def Za7(op:Operator)(i j:Int):Ot Int:=
 match op with
 |.Add=>some (i+j)
 |.Sub=>some (i - j)
 |.Mult=>if Z8 i||Z8 j then some (i * j) else none
 |.FloorDiv=>if 0 < j/\j < 1073741824 then some (i / j) else if j < 0/\-1073741824 < j then some (i.fdiv j) else none
 |.Mod=>if 0 < j then some (i % j) else if j < 0 then some (i.fmod j) else none
 |.LShift=>if 0<=j/\j<=1000/\Z8 i=true then some (i * 2 ^ j.toNat) else none
 |.BitAnd=>if 0<=i/\0<=j then some ((i.toNat &&& j.toNat:Nat):Int) else if 0<=i/\j < 0 then some (i - ((i.toNat &&& (-j - 1).toNat:Nat):Int)) else none
 |.BitOr=>if 0<=i/\0<=j then some ((i.toNat ||| j.toNat:Nat):Int) else none
 |_=>none
noncomputable def VF:Operator->Bool
 |.Add=>true
 |_=>false
noncomputable def J3:Operator->Bool
 |.Mult=>true
 |_=>false
noncomputable def QB(a b:Nat)(st:Za):Res:=match st[a]?,st[b]? with
 |some (_,xs),some (_,ys)=>if xs.length+ys.length<=Zu then some (.lst st.length,st++[(true,xs++ys)]) else none
 |_,_=>none
noncomputable def Zb1(a:Nat)(j:Int)(st:Za):Res:=match st[a]? with
 |some (true,[x])=>if j<=1000/\-1000<=j then some (.lst st.length,st++[(true,List.replicate j.toNat x)]) else none
 |_=>none
noncomputable def Zg1(xs:Li D)(j:Int)(st:Za):Res:=match xs with
 |[x]=>if j<=1000/\-1000<=j then some (.tup (List.replicate j.toNat x),st) else none
 |_=>none
noncomputable def Vk(op:Operator)(x y:D)(st:Za):Res:=
 match x,y with
 |.int i,.int j=>match Za7 op i j with
  |some k=>some (.int k,st)
  |none=>none
 |.tup xs,.tup ys=>if VF op=true/\xs.length+ys.length<=Zu then some (.tup (xs++ys),st) else none
 |.tup xs,.int j=>if J3 op=true then Zg1 xs j st else none
 |.lst a,.lst b=>if VF op=true then QB a b st else none
 |.lst a,.int j=>if J3 op=true then Zb1 a j st else none
 |.str x,.str y=>if VF op=true/\x.length+y.length<=Zu then some (.str (x++y),st) else none
 |_,_=>none

noncomputable def Zgn(x k:Str):Bool:=!(PySem.Builtin.Str.occurrences x k 0 x.length 1).isEmpty
noncomputable def chS(x:Str):Li Str:=x.cps.toList.map fun c=>⟨#[c]⟩
noncomputable def Qc(_:Za)(_ _:Li D):Ot Bool:=none
noncomputable def WT(xs ys:Li D):Ot Bool:=if (xs.isEmpty||ys.isEmpty)=true then some (xs.isEmpty&&ys.isEmpty) else if ZT 7 xs&&ZT 7 ys then some (Zw xs ys) else none
noncomputable def Zfo(st:Za)(xs:Li D):D->Ot Bool
 |.tup ys=>(match eqT xs (.tup ys) with
  |some k=>some k
  |none=>Qc st xs ys)
 |_=>none
noncomputable def Zfm(st:Za)(a:Nat):D->Ot Bool
 |.lst b=>(o2 (fun(c d:Z4)=>WT c.2 d.2) st[a]? st[b]?).join
 |_=>none
noncomputable def eqS(st:Za)(x y:D):Ot Bool:=match x with
 |.lst a=>Zfm st a y
 |.tup xs=>Zfo st xs y
 |x=>eqD x y

noncomputable def Yd:Int->Li D->Ot Bool
 |_,[]=>some false
 |k,.int i :: r=>(Yd k r).map fun b=>decide (i=k)||b
 |_,_=>none
noncomputable def Yt:Str->Li D->Ot Bool
 |_,[]=>some false
 |k,.str i :: r=>(Yt k r).map fun b=>decide (i=k)||b
 |_,_=>none

noncomputable def isK(k:Str):D->Bool
 |.tup [.str x,_]=>decide (x=k)
 |_=>false
noncomputable def ZfY:D->Ot D
 |.tup [_,v]=>some v
 |_=>none
noncomputable def YA(xs:Li D)(k:Str):Ot D:=(xs.find? (isK k)).bind ZfY
noncomputable def Z2(k:Str)(v:D):Li D->Li D
 |[]=>[.tup [.str k,v]]
 |e :: r=>if isK k e=true then .tup [.str k,v] :: r else e :: Z2 k v r
noncomputable def Y7:Li D->Bool
 |.int _ :: _=>true
 |_=>false
noncomputable def WZ:D->Bool
 |.tup _=>true
 |_=>false
noncomputable def okN:Nat->D->Bool
 |_,.int _=>true
 |_,.str _=>true
 |n+1,.tup ds=>ds.all (okN n)
 |_,_=>false
noncomputable def Wx(k:D):D->Bool
 |.tup [x,_]=>Zr x k
 |_=>false
noncomputable def Yo(xs:Li D)(k:D):Ot D:=(xs.find? (Wx k)).bind ZfY
noncomputable def dAt(ks:Li D)(a:Nat)(st:Za):Ot (Ot D):=match st[a]? with
 |some (_,xs)=>if Y7 xs=false/\okN 8 (.tup ks)=true then some (Yo xs (.tup ks)) else none
 |none=>none
noncomputable def Z5:Li Str->Li D->Str->Ot D
 |k :: ks,v :: vs,x=>if k=x then some v else Z5 ks vs x
 |_,_,_=>none
noncomputable def QX(f:Int->Int->Bool):D->D->Ot Bool
 |.int i,.int j=>some (f i j)
 |_,_=>none
noncomputable def ltD(x y:D):Ot Bool:=QX (fun i j=>decide (i < j)) x y
noncomputable def ltS(_:Za)(x y:D):Ot Bool:=ltD x y
noncomputable def inS(st:Za)(x y:D):Ot Bool:=match x,y with
 |.int k,.lst a=>match st[a]? with
  |some (_,xs)=>Yd k xs
  |none=>none
 |.str k,.lst a=>match st[a]? with
  |some (_,xs)=>Yt k xs
  |none=>none
 |.tup ks,.lst a=>match st[a]? with
  |some (_,xs)=>if okD 8 (.tup ks)&&ZT 8 xs then some (xs.any fun d=>Zr d (.tup ks)) else none
  |none=>none
 |.int k,.tup xs=>Yd k xs
 |.str k,.tup xs=>Yt k xs
 |.str k,.dct ks vs=>some (Z5 ks vs k).isSome
 |.tup ks,.dic a=>(dAt ks a st).map Option.isSome
 |.str k,.str x=>some (Zgn x k)
 |_,_=>none
noncomputable def niS(st:Za)(x y:D):Ot Bool:=match y with
 |.dct _ _=>none
 |y=>(inS st x y).map not
noncomputable def isN:D->Ot Bool
 |.non=>some true
 |.int _=>some false
 |.str _=>some false
 |.bl _=>some false
 |.tup _=>some false
 |.lst _=>some false
 |.dct _ _=>none
 |.obj _=>none
 |.kt _=>none
 |.dic _=>none
noncomputable def isB(b:Bool):D->Ot Bool
 |.bl a=>some (a==b)
 |_=>none
noncomputable def isD(x:D):D->Ot Bool
 |.non=>isN x
 |.bl b=>isB b x
 |_=>none
noncomputable def X6(op:CmpOp)(x y:D)(st:Za):Ot Bool:=
 match op with
 |.Lt=>ltS st x y
 |.LtE=>QX (fun i j=>decide (i<=j)) x y
 |.Gt=>QX (fun i j=>decide (j < i)) x y
 |.GtE=>QX (fun i j=>decide (j<=i)) x y
 |.Eq=>eqS st x y
 |.NotEq=>(eqS st x y).map not
 |.In=>inS st x y
 |.NotIn=>niS st x y
 |.Is=>isD x y
 |.IsNot=>(isD x y).map not

noncomputable def ixN(n:Nat)(i:Int):Ot Nat:=if 0<=i then (if i < n then some i.toNat else none) else if -(n:Int)<=i then some (i+n).toNat else none
noncomputable def atD(xs:Li D)(i:Int):Ot D:=(ixN xs.length i).bind fun j=>xs[j]?
noncomputable def ixD(x y:D)(st:Za):Ot D:=
 match x,y with
 |.tup xs,.int i=>atD xs i
 |.lst a,.int i=>match st[a]? with
  |some (_,xs)=>atD xs i
  |none=>none
 |.dct ks vs,.str k=>Z5 ks vs k
 |.kt ks,.int i=>atD (ks.map .str) i
 |.dic a,.tup ks=>(dAt ks a st).join
 |.str x,.int i=>if x.length<=Zu then atD ((chS x).map .str) i else none
 |_,_=>none

noncomputable def sIx(n d:Nat):Ot Int->Nat
 |none=>d
 |some i=>if i < 0 then (i+n).toNat else Nat.min i.toNat n
noncomputable def YQ(xs:Li D)(lo hi:Ot Int):Li D:=(xs.drop (sIx xs.length 0 lo)).take (sIx xs.length xs.length hi - sIx xs.length 0 lo)
noncomputable def ZW(x:D)(lo hi:Ot Int)(st:Za):Res:=
 match x with
 |.tup xs=>if sIx xs.length 0 lo=0/\sIx xs.length xs.length hi=xs.length then some (.tup xs,st) else some (.tup (YQ xs lo hi),st)
 |.lst a=>match st[a]? with
  |some (_,xs)=>some (.lst st.length,st++[(true,YQ xs lo hi)])
  |none=>none
 |_=>none

noncomputable def ZdV(x:D)(st:Za):Ot Int:=
 match x with
 |.tup xs=>some xs.length
 |.lst a=>match st[a]? with
  |some (_,xs)=>some xs.length
  |none=>none
 |.kt ks=>some ks.length
 |.str x=>if x.length<=Zu then some x.length else none
 |_=>none

noncomputable def ZdP(T:Ty):D->Ot Bool
 |.int _=>some (decide (T=.int))
 |.bl _=>some (decide (T=.int)||decide (T=.bool))
 |.str _=>some (decide (T=.str))
 |.tup _=>some (decide (T=.tuple))
 |.non=>some false
 |_=>none

noncomputable def Wi(rng:Bool)(x:D):Ot (Li D):=
 match rng,x with
 |true,.int n=>if n < 2 ^ 62/\-(2 ^ 62)<=n then some ((List.range n.toNat).map fun(k:Nat)=>D.int (k:Int)) else none
 |false,.tup xs=>some xs
 |_,_=>none

noncomputable def ZeA(a b c:Int):Nat:=if 0 < c then (if a < b then ((b - a - 1) / c+1).toNat else 0) else (if b < a then ((a - b - 1) / (-c)+1).toNat else 0)
noncomputable def Zez(a b c:Int):Li Int:=(List.range (ZeA a b c)).map fun(k:Nat)=>a+k * c
noncomputable def ZM(ok:Za->Prop)(f:D->Za->Res)(c:D->Za->Res):Li D->Za->Ot (Li D×Za)
 |[],st=>open Classical in if ok st then some ([],st) else none
 |x :: xs,st=>open Classical in if ok st then (match c x st with
  |some (.bl true,st1)=>match f x st1 with
   |some (y,st2)=>match ZM ok f c xs st2 with
    |some (ys,st3)=>some (y :: ys,st3)
    |none=>none
   |none=>none
  |some (.bl false,st1)=>ZM ok f c xs st1
  |_=>none) else none
noncomputable def Yh(rng:Bool)(x:D)(st:Za):Ot (Li D×(Za->Prop)):=match Wi rng x with
 |some xs=>some (xs,fun _=>True)
 |none=>match rng,x with
  |false,.lst a=>match st[a]? with
   |some c=>some (c.2,fun s=>s[a]?=some c)
   |none=>none
  |false,.dct [] [.int a,.int b]=>some ((Zez a b 1).map .int,fun _=>True)
  |_,_=>none

noncomputable def Xq:Nat->Li D->Li D
 |_,[]=>[]
 |k,x :: xs=>.tup [.int (k:Int),x] :: Xq (k+1) xs
noncomputable def Qm(x:D)(st:Za):Ot (Li D×(Za->Prop)):=match x with
 |.tup xs=>some (Xq 0 xs,fun _=>True)
 |.lst a=>match st[a]? with
  |some c=>some (Xq 0 c.2,fun s=>s[a]?=some c)
  |none=>none
 |_=>none

noncomputable def ZbF:D->Bool
 |.tup [_,_]=>true
 |_=>false
noncomputable def WK(x:D)(st:Za):Ot (Li D×(Za->Prop)):=match x with
 |.tup xs=>if xs.all ZbF=true then some (xs,fun _=>True) else none
 |.lst a=>match st[a]? with
  |some c=>if c.2.all ZbF=true then some (c.2,fun s=>s[a]?=some c) else none
  |none=>none
 |_=>none

noncomputable abbrev Ev:=Env->Za->Res
noncomputable def Zo(fa:Ev)(g:D->Za->Res):Ev:=fun ρ st=>match fa ρ st with
 |some (x,st1)=>g x st1
 |none=>none
noncomputable def Zv(fa fb:Ev)(g:D->D->Za->Res):Ev:=fun ρ st=>match fa ρ st with
 |some (x,st1)=>match fb ρ st1 with
  |some (y,st2)=>g x y st2
  |none=>none
 |none=>none
noncomputable def Xy(fa fb fc:Ev)(g:D->D->D->Za->Res):Ev:=fun ρ st=>match fa ρ st with
 |some (x,st1)=>match fb ρ st1 with
  |some (y,st2)=>match fc ρ st2 with
   |some (z,st3)=>g x y z st3
   |none=>none
  |none=>none
 |none=>none
noncomputable def YE(fc ft ff:Ev):Ev:=fun ρ st=>match fc ρ st with
 |some (.bl true,st1)=>ft ρ st1
 |some (.bl false,st1)=>ff ρ st1
 |_=>none
noncomputable def YT(i:Nat):Ev:=fun ρ st=>match ρ[i]? with
 |some (some d)=>some (d,st)
 |_=>none
noncomputable def evC(d:D):Ev:=fun _ st=>some (d,st)
noncomputable def Zd0:D->Za->Res
 |.int i,st=>some (.int (-i),st)
 |_,_=>none
noncomputable def QW:D->Za->Res
 |.bl k,st=>some (.bl (!k),st)
 |_,_=>none
noncomputable def Ya(op:CmpOp)(x y:D)(st:Za):Res:=match X6 op x y st with
 |some k=>some (.bl k,st)
 |none=>none
noncomputable def QU:D->Za->Res
 |.tup xs,st=>some (.lst st.length,st++[(true,xs)])
 |_,_=>none
noncomputable def Y9:D->D->Za->Res
 |x,.tup xs,st=>if xs.length < 1000 then some (.tup (x :: xs),st) else none
 |_,_,_=>none
noncomputable def ixR(x y:D)(st:Za):Res:=match ixD x y st with
 |some d=>some (d,st)
 |none=>none
noncomputable def YI:D->D->D->Za->Res
 |x,.non,.non,st=>ZW x none none st
 |x,.int i,.non,st=>ZW x (some i) none st
 |x,.non,.int j,st=>ZW x none (some j) st
 |x,.int i,.int j,st=>ZW x (some i) (some j) st
 |_,_,_,_=>none
noncomputable def VU:D->Za->Res
 |.int i,st=>some (.int i,st)
 |_,_=>none
noncomputable def XO(g:Fn)(ds:Li D):D->Za->Res
 |.tup xs,st=>g (xs++ds) st
 |_,_=>none
noncomputable def Zdw(st:Za):D->Ot Nat
 |.obj i=>some i
 |.dic a=>(match st[a]? with
  |some (_,.int c :: _)=>some c.toNat
  |_=>none)
 |_=>none
noncomputable def Wn(F:Nat->Fn)(tab:Li (Nat×Nat))(fo fa:Ev):Ev:=fun ρ st=>match fo ρ st with
 |some (o,st1)=>(match (Zdw st1 o).bind fun c=>tab.lookup c with
  |some j=>(match fa ρ st1 with
   |some (.tup xs,st2)=>F j (o :: xs) st2
   |_=>none)
  |none=>none)
 |none=>none
noncomputable def mkR(F:Nat->Fn)(i j:Nat)(ds:Li D):D->Za->Res
 |.tup xs,st=>(match F j (.dic st.length :: (xs++ds)) (st++[(true,[.int i])]) with
  |some (.non,st')=>some (.dic st.length,st')
  |_=>none)
 |_,_=>none
noncomputable def ZdH(f:Str)(d:D)(st:Za):Res:=match d with
 |.dic a=>(match st[a]? with
  |some (_,.int _ :: es)=>(match YA es f with
   |some v=>some (v,st)
   |none=>none)
  |_=>none)
 |_=>none
noncomputable def JC(k:Str):Li Str->Ot Nat
 |[]=>none
 |a :: r=>if a=k then some 0 else (JC k r).map (·+1)
noncomputable def ZeV:D->D->Za->Res
 |.kt ks,.tup [.str k],st=>match JC k ks with
  |some i=>some (.int (i:Int),st)
  |none=>none
 |_,_,_=>none
noncomputable def Zab(x:D)(st:Za):Res:=match ZdV x st with
 |some n=>some (.int n,st)
 |none=>none
noncomputable def Vg:D->Za->Res
 |.tup xs,st=>some (.tup xs,st)
 |.lst l,st=>match st[l]? with
  |some (_,xs)=>some (.tup xs,st)
  |none=>none
 |_,_=>none
noncomputable def U4:D->Za->Res
 |.tup xs,st=>some (.lst st.length,st++[(true,xs)])
 |.lst l,st=>match st[l]? with
  |some (_,xs)=>some (.lst st.length,st++[(true,xs)])
  |none=>none
 |_,_=>none
noncomputable def ZdX:D->D->Za->Res
 |.int i,.int j,st=>some (.int (if j < i then j else i),st)
 |_,_,_=>none
noncomputable def ZdW:D->D->Za->Res
 |.int i,.int j,st=>some (.int (if j > i then j else i),st)
 |_,_,_=>none
noncomputable def J4(T:Ty)(x:D)(st:Za):Res:=match ZdP T x with
 |some k=>some (.bl k,st)
 |none=>none
noncomputable def Zad(ks:Li Str)(ds:Li D):D->Za->Res
 |.str k,st=>match Z5 ks ds k with
  |some d=>some (d,st)
  |none=>none
 |_,_=>none
noncomputable def getD:D->D->D->Za->Res
 |.dct ks vs,.str k,d,st=>some ((Z5 ks vs k).getD d,st)
 |_,_,_,_=>none
noncomputable def Zgg(ng:Bool):D->D->Za->Res
 |.int x,.int n,st=>if -(2 ^ 62)<=n/\n < 2 ^ 62 then some (.bl (ng != decide (0<=x/\x < n)),st) else none
 |_,_,_=>none
noncomputable def Zfi(ks:Li Str):D->Za->Res
 |.tup vs,st=>if ks.length=vs.length/\(ks.Nodup/\ks≠[])/\ks.length<=15 then some (.dct ks vs,st) else none
 |_,_=>none
noncomputable def one(d:D):Li (Ot D):=[some d]
noncomputable def two:D->Li (Ot D)
 |.tup [a,b]=>[some a,some b]
 |_=>[]
noncomputable def Qi:D->Li (Ot D)
 |.tup [a,b,c]=>[some a,some b,some c]
 |_=>[]
noncomputable def ZbG:D->Bool
 |.tup [_,_,_]=>true
 |_=>false
noncomputable def ZaQ(x:D)(_:Za):Ot (Li D×(Za->Prop)):=match x with
 |.tup xs=>if xs.all ZbG=true then some (xs,fun _=>True) else none
 |_=>none
noncomputable def ZK(b:D->Li (Ot D))(ρ:Env)(fr:Li Nat)(d:D):Env:=b d++fr.map fun i=>(ρ[i]?).join
noncomputable def ZX(b:D->Li (Ot D))(w:D->Za->Ot (Li D×(Za->Prop)))(fr:Li Nat)(fi fe fc:Ev):Ev:=fun ρ st=>match fi ρ st with
 |some (x,st1)=>match w x st1 with
  |some (xs,ok)=>if xs.length<=1000 then
    match ZM ok (fun d s=>fe (ZK b ρ fr d) s) (fun d s=>fc (ZK b ρ fr d) s) xs st1 with
    |some (ys,st2)=>some (.lst st2.length,st2++[(true,ys)])
    |none=>none
   else none
  |none=>none
 |none=>none

noncomputable def ZcK:Ev:=fun _ st=>some (.dic st.length,st++[(true,[])])
noncomputable def ev(F:Nat->Fn):CE->Ev
 |.v i=>YT i
 |.c d=>evC d
 |.bin op a b=>Zv (ev F a) (ev F b) (Vk op)
 |.neg a=>Zo (ev F a) Zd0
 |.cmp op a b=>Zv (ev F a) (ev F b) (Ya op)
 |.not a=>Zo (ev F a) QW
 |.and a b=>YE (ev F a) (ev F b) (evC (.bl false))
 |.or a b=>YE (ev F a) (evC (.bl true)) (ev F b)
 |.ife c a b=>YE (ev F c) (ev F a) (ev F b)
 |.tupE a=>ev F a
 |.lstE a=>Zo (ev F a) QU
 |.aN=>evC (.tup [])
 |.aC a r=>Zv (ev F a) (ev F r) Y9
 |.ix a b=>Zv (ev F a) (ev F b) ixR
 |.slice a lo hi=>Xy (ev F a) (ev F lo) (ev F hi) YI
 |.nop=>evC .non
 |.part a=>Zo (ev F a) VU
 |.call f a ds=>Zo (ev F a) (XO (F f) ds)
 |.len a=>Zo (ev F a) Zab
 |.tOf a=>Zo (ev F a) Vg
 |.listOf a=>Zo (ev F a) U4
 |.intOf _=>fun _ _=>none
 |.min a b=>Zv (ev F a) (ev F b) ZdX
 |.max a b=>Zv (ev F a) (ev F b) ZdW
 |.isi T a=>Zo (ev F a) (J4 T)
 |.rs _ _=>fun _ _=>none
 |.inv _=>fun _ _=>none
 |.tupR _=>fun _ _=>none
 |.look ks ds a=>Zo (ev F a) (Zad ks ds)
 |.dget a k d=>Xy (ev F a) (ev F k) (ev F d) getD
 |.inR ng a b=>Zv (ev F a) (ev F b) (Zgg ng)
 |.all _=>fun _ _=>none
 |.any _=>fun _ _=>none
 |.comp rng fr it elt cnd=>ZX one (Yh rng) fr (ev F it) (ev F elt) (ev F cnd)
 |.comp2 fr it elt cnd=>ZX two Qm fr (ev F it) (ev F elt) (ev F cnd)
 |.compT fr it elt cnd=>ZX two WK fr (ev F it) (ev F elt) (ev F cnd)
 |.lstR _ _=>fun _ _=>none
 |.new i=>evC (.obj i)
 |.meth tab o a=>Wn F tab (ev F o) (ev F a)
 |.isc _ _=>fun _ _=>none
 |.tix o a=>Zv (ev F o) (ev F a) ZeV
 |.dict ks a=>Zo (ev F a) (Zfi ks)
 |.dnew=>ZcK
 |.strOf _=>fun _ _=>none
 |.joinE _ _=>fun _ _=>none
 |.starts _ _=>fun _ _=>none
 |.rng2 _ _=>fun _ _=>none
 |.srt _=>fun _ _=>none
 |.comp3 fr it elt cnd=>ZX Qi ZaQ fr (ev F it) (ev F elt) (ev F cnd)
 |.mk i j a ds=>Zo (ev F a) (mkR F i j ds)
 |.fld f a=>Zo (ev F a) (ZdH f)

inductive Fl where
 |nx (ρ:Env)|rt (d:D)|bk (ρ:Env)|ct (ρ:Env)

noncomputable def Zh(ρ:Env)(i:Nat)(d:D):Env:=ρ.set i (some d)

noncomputable def Zs(body:D->Env->Za->Ot (Fl×Za)):Li D->Env->Za->Ot (Fl×Za)
 |[],ρ,st=>some (.nx ρ,st)
 |d :: ds,ρ,st=>match body d ρ st with
  |some (.nx ρ',st')=>Zs body ds ρ' st'
  |some (.ct ρ',st')=>Zs body ds ρ' st'
  |some (.bk ρ',st')=>some (.nx ρ',st')
  |some (.rt v,st')=>some (.rt v,st')
  |none=>none
noncomputable def ZI(body:D->Env->Za->Ot (Fl×Za))(a:Nat):Nat->Nat->Env->Za->Ot (Fl×Za)
 |0,i,ρ,st=>match st[a]? with
  |some (_,xs)=>if xs.length<=i then some (.nx ρ,st) else none
  |none=>none
 |n+1,i,ρ,st=>match st[a]? with
  |some (_,xs)=>match xs[i]? with
   |none=>some (.nx ρ,st)
   |some d=>match body d ρ st with
    |some (.nx ρ',st')=>ZI body a n (i+1) ρ' st'
    |some (.ct ρ',st')=>ZI body a n (i+1) ρ' st'
    |some (.bk ρ',st')=>some (.nx ρ',st')
    |some (.rt v,st')=>some (.rt v,st')
    |none=>none
  |none=>none

noncomputable abbrev Ex:=Env->Za->Ot (Fl×Za)
noncomputable def YH(f g:Ex):Ex:=fun ρ st=>match f ρ st with
 |some (.nx ρ',st')=>g ρ' st'
 |r=>r
noncomputable def Ux(f:Ev):Ex:=fun ρ st=>match f ρ st with
 |some (d,st')=>some (.rt d,st')
 |none=>none
noncomputable def W9(i:Nat)(f:Ev):Ex:=fun ρ st=>match f ρ st with
 |some (d,st')=>some (.nx (Zh ρ i d),st')
 |none=>none
noncomputable def ZaC(i j:Nat)(f:Ev):Ex:=fun ρ st=>match f ρ st with
 |some (.tup [x,y],st')=>some (.nx (Zh (Zh ρ i x) j y),st')
 |_=>none
noncomputable def ZaD(i j l:Nat)(f:Ev):Ex:=fun ρ st=>match f ρ st with
 |some (.tup [x,y,z],st')=>some (.nx (Zh (Zh (Zh ρ i x) j y) l z),st')
 |_=>none
noncomputable def VY(i j l m:Nat)(f:Ev):Ex:=fun ρ st=>match f ρ st with
 |some (.lst a,st')=>match st'[a]? with
  |some (_,[x,y,z,w])=>some (.nx (Zh (Zh (Zh (Zh ρ i x) j y) l z) m w),st')
  |_=>none
 |_=>none
noncomputable def Ja(f:Ev):Ex:=fun ρ st=>match f ρ st with
 |some (_,st')=>some (.nx ρ,st')
 |none=>none
noncomputable def Qt(a:Nat)(d:D)(st:Za):Ot Za:=match st[a]? with
 |some (true,xs)=>if xs.length < Zu then some (st.set a (true,xs++[d])) else none
 |_=>none
noncomputable def X1(a:Nat)(j:Int)(d:D)(st:Za):Ot Za:=match st[a]? with
 |some (true,xs)=>match ixN xs.length j with
  |some p=>some (st.set a (true,xs.set p d))
  |none=>none
 |_=>none
noncomputable def Ua(i:Nat)(f:Ev):Ex:=fun ρ st=>match ρ[i]? with
 |some (some (.lst a))=>match f ρ st with
  |some (d,st')=>match Qt a d st' with
   |some st2=>some (.nx ρ,st2)
   |none=>none
  |none=>none
 |_=>none
noncomputable def Jd(o f:Ev):Ex:=fun ρ st=>match o ρ st with
 |some (.lst a,st1)=>match f ρ st1 with
  |some (d,st2)=>match Qt a d st2 with
   |some st3=>some (.nx ρ,st3)
   |none=>none
  |none=>none
 |_=>none
noncomputable def ZdD(a b:Nat)(st:Za):Ot Za:=match st[a]?,st[b]? with
 |some (true,xs),some (true,ys)=>if xs.length+ys.length<=Zu then some (st.set a (true,xs++ys)) else none
 |_,_=>none
noncomputable def Jz(i:Nat)(f:Ev):Ex:=fun ρ st=>match ρ[i]? with
 |some (some (.lst a))=>match f ρ st with
  |some (.lst b,st')=>match ZdD a b st' with
   |some st2=>some (.nx ρ,st2)
   |none=>none
  |_=>none
 |_=>none
noncomputable def dput(a:Nat)(k d:D)(st:Za):Ot Za:=match st[a]? with
 |some (true,xs)=>if ((Y7 xs=false/\okN 8 k=true)/\WZ d=true)/\xs.length < Zu/\xs.any (Wx k)=false then some (st.set a (true,xs++[.tup [k,d]])) else none
 |_=>none
noncomputable def Uu(i:Nat)(k f:Ev):Ex:=fun ρ st=>match f ρ st with
 |some (d,st1)=>match ρ[i]? with
  |some (some (.lst a))=>match k ρ st1 with
   |some (.int j,st2)=>match X1 a j d st2 with
    |some st3=>some (.nx ρ,st3)
    |none=>none
   |_=>none
  |some (some (.dic a))=>match k ρ st1 with
   |some (.tup ks,st2)=>match dput a (.tup ks) d st2 with
    |some st3=>some (.nx ρ,st3)
    |none=>none
   |_=>none
  |_=>none
 |none=>none
noncomputable def X7(o k f:Ev):Ex:=fun ρ st=>match f ρ st with
 |some (d,st1)=>(match o ρ st1 with
  |some (.dic a,st2)=>(match k ρ st2 with
   |some (.tup ks,st3)=>(match dput a (.tup ks) d st3 with
    |some st4=>some (.nx ρ,st4)
    |none=>none)
   |_=>none)
  |_=>none)
 |none=>none
noncomputable def Vw(i:Nat)(x:Str)(f:Ev):Ex:=fun ρ st=>match f ρ st with
 |some (d,st1)=>(match ρ[i]? with
  |some (some (.dic a))=>(match st1[a]? with
   |some (true,.int c :: es)=>if es.length < 900 then some (.nx ρ,st1.set a (true,.int c :: Z2 x d es)) else none
   |_=>none)
  |_=>none)
 |none=>none
noncomputable def Yk(c:Ev)(f g:Ex):Ex:=fun ρ st=>match c ρ st with
 |some (.bl true,st1)=>f ρ st1
 |some (.bl false,st1)=>g ρ st1
 |_=>none
noncomputable def Wb(i:Nat)(rng:Bool)(it:Ev)(b:Ex):Ex:=fun ρ st=>match it ρ st with
 |some (x,st1)=>match Wi rng x with
  |some xs=>Zs (fun d ρ s=>b (Zh ρ i d) s) xs ρ st1
  |none=>match rng,x with
   |false,.lst a=>match st1[a]? with
    |some (_,xs)=>ZI (fun d ρ s=>b (Zh ρ i d) s) a xs.length 0 ρ st1
    |none=>none
   |_,_=>none
 |none=>none
noncomputable def ZE(ok:Za->Prop)(body:D->D->Env->Za->Ot (Fl×Za)):Li (D×D)->Env->Za->Ot (Fl×Za)
 |[],ρ,st=>open Classical in if ok st then some (.nx ρ,st) else none
 |p :: ps,ρ,st=>open Classical in if ok st then (match body p.1 p.2 ρ st with
  |some (.nx ρ',st')=>ZE ok body ps ρ' st'
  |some (.ct ρ',st')=>ZE ok body ps ρ' st'
  |some (.bk ρ',st')=>some (.nx ρ',st')
  |some (.rt v,st')=>some (.rt v,st')
  |none=>none) else none
noncomputable def JB(i j:Nat)(it:Ev)(b:Ex):Ex:=fun ρ st=>match it ρ st with
 |some (.tup [.lst la,.lst lb],st1)=>match st1[la]?,st1[lb]? with
  |some ca,some cb=>ZE (fun s=>s[la]?=some ca/\s[lb]?=some cb) (fun x y ρ s=>b (Zh (Zh ρ i x) j y) s) (ca.2.zip cb.2) ρ st1
  |_,_=>none
 |_=>none
noncomputable def Wa:Nat->Li D->Li (D×D)
 |_,[]=>[]
 |k,x :: xs=>(.int (k:Int),x) :: Wa (k+1) xs
noncomputable def ZfZ(x:D)(st:Za):Ot (Li D×(Za->Prop)):=match x with
 |.tup xs=>some (xs,fun _=>True)
 |.lst a=>match st[a]? with
  |some c=>some (c.2,fun s=>s[a]?=some c)
  |none=>none
 |_=>none
noncomputable def JA(i j:Nat)(it:Ev)(b:Ex):Ex:=fun ρ st=>match it ρ st with
 |some (x,st1)=>match ZfZ x st1 with
  |some (xs,ok)=>ZE ok (fun x y ρ s=>b (Zh (Zh ρ i x) j y) s) (Wa 0 xs) ρ st1
  |none=>none
 |none=>none
noncomputable def itQ:D->Ot (D×D)
 |.tup [k,v]=>some (k,v)
 |_=>none
noncomputable def Vv(i j:Nat)(o:Ev)(b:Ex):Ex:=fun ρ st=>match o ρ st with
 |some (.dic a,st1)=>(match st1[a]? with
  |some c=>if Y7 c.2=false then ZE (fun s=>s[a]?=some c) (fun x y ρ s=>b (Zh (Zh ρ i x) j y) s) (c.2.filterMap itQ) ρ st1 else none
  |none=>none)
 |_=>none
noncomputable def ZeW(i j l:Nat)(b:Ex)(d:D)(ρ:Env)(s:Za):Ot (Fl×Za):=match d with
 |.tup [x,y,z]=>b (Zh (Zh (Zh ρ i x) j y) l z) s
 |_=>none
noncomputable def Vu(i j l:Nat)(it:Ev)(b:Ex):Ex:=fun ρ st=>match it ρ st with
 |some (.tup xs,st1)=>Zs (ZeW i j l b) xs ρ st1
 |_=>none

noncomputable def Ys(f g:Ex):Ex:=fun ρ st=>match f ρ st with
 |some (.nx ρ',st')=>g ρ' st'
 |some (.ct ρ',st')=>g ρ' st'
 |some (.bk ρ',st')=>some (.nx ρ',st')
 |some (.rt v,st')=>some (.rt v,st')
 |none=>none
noncomputable def ZQ(c:Ev)(b:Ex):Nat->Ex
 |0=>fun _ _=>none
 |n+1=>Yk c (Ys b (ZQ c b n)) fun ρ st=>some (.nx ρ,st)

noncomputable def ex(F:Nat->Fn):CS->Ex
 |.skip=>fun ρ st=>some (.nx ρ,st)
 |.seq a b=>YH (ex F a) (ex F b)
 |.ret e=>Ux (ev F e)
 |.set i e=>W9 i (ev F e)
 |.app i e=>Ua i (ev F e)
 |.ext i e=>Jz i (ev F e)
 |.put i k e=>Uu i (ev F k) (ev F e)
 |.ite c a b=>Yk (ev F c) (ex F a) (ex F b)
 |.for1 i rng it b=>Wb i rng (ev F it) (ex F b)
 |.forP i j it b=>JB i j (ev F it) (ex F b)
 |.forE i j it b=>JA i j (ev F it) (ex F b)
 |.for3 _ _ _=>fun _ _=>none
 |.set2 i j e=>ZaC i j (ev F e)
 |.for4 i j l it b=>Vu i j l (ev F it) (ex F b)
 |.for2 _ _ _ _=>fun _ _=>none
 |.whl c b=>ZQ (ev F c) (ex F b) 1000
 |.brk=>fun ρ st=>some (.bk ρ,st)
 |.cont=>fun ρ st=>some (.ct ρ,st)
 |.stop=>fun _ _=>none
 |.set3 i j l e=>ZaD i j l (ev F e)
 |.set4 i j l m e=>VY i j l m (ev F e)
 |.act e=>Ja (ev F e)
 |.dput _ a b e=>X7 (ev F a) (ev F b) (ev F e)
 |.fset i f e=>Vw i f (ev F e)
 |.forI i j o b=>Vv i j (ev F o) (ex F b)
 |.app2 o e=>Jd (ev F o) (ev F e)

structure FD where
 ps:Nat
 ns:Nat
 body:CS
noncomputable def fnD(F:Nat->Fn)(f:FD):Fn:=fun ds st=>
 if ds.length=f.ps then
  match ex F f.body (ds.map some++List.replicate (f.ns - ds.length) none) st with
  |some (.rt d,st')=>some (d,st')
  |some (.nx _,st')=>some (.non,st')
  |_=>none
 else none
noncomputable def run(T:Nat->Ot FD):Nat->Nat->Fn
 |0,_=>fun _ _=>none
 |n+1,i=>match T i with
  |some f=>fnD (run T n) f
  |none=>fun _ _=>none

inductive GV where
 |fn (i:Nat) (ps:Nat) (ds:List D)|c (d:D)|blt|dct (ks:List Str) (ds:List D)|cls (i:Nat) (ms:List (Str×Nat×Nat)) (subs:List Nat) (ds:List D)
noncomputable abbrev Gs:=Li (Str×GV)

noncomputable def CE.ofConst:Const->Ot CE
 |.none=>some (.c .non)
 |.bool b=>some (.c (.bl b))
 |.int i=>some (.c (.int i))
 |.str x=>some (.c (.str x))
 |_=>none
noncomputable def YW(sc:Scope)(x:Str):Bool:=!(x==("__debug__":Str))&&!(x==("__classdict__":Str))&&match sc.names.lookup x with
 |some .local=>true
 |some .cell=>true
 |some .free=>true
 |_=>false
noncomputable def Zy(sc:Scope)(x:Str):Bool:=!(x==("__debug__":Str))&&match sc.names.lookup x with
 |some .globalImplicit=>true
 |_=>false
noncomputable def ZfW(x:Str):Ot Ty:=
 if x = "int" then some .int else if x = "bool" then some .bool else if x = "str" then some .str else if x = "tuple" then some .tuple else none
noncomputable def ZH(sc:Scope):Li Str:=(sc.names.filter fun p=>decide (p.2=.free)).map (·.1)

noncomputable def Zdn(f:Str)(x:CE):Ot CE:=
 if f = "len" then some (.len x) else if f = "tuple" then some (.tOf x) else if f = "list" then some (.listOf x) else none
noncomputable def Zdo(f:Str)(x y:CE):Ot CE:=if f = "min" then some (.min x y) else if f = "max" then some (.max x y) else none
noncomputable def U2(G:Gs)(x:Str):Bool:=match G.lookup x with
 |some .blt=>true
 |_=>false
noncomputable def ZeX(G:Gs)(sc:Scope)(t:Str):Ot Ty:=if Zy sc t&&U2 G t then ZfW t else none
noncomputable def Ql(G:Gs)(sc:Scope):Expr->Ot Ty
 |.Name t _=>ZeX G sc t
 |_=>none
noncomputable def Ug(_:Gs)(_:Scope)(_:Expr):Ot (Li Nat):=none
noncomputable def ZcP(m:Str)(k:Nat)(G:Gs)(x:Str):Ot (Nat×Nat):=match G.lookup x with
 |some (.cls i ms _ _)=>(match ms.lookup m with
  |some (j,ps)=>if ps=k+1 then some (i,j) else none
  |none=>none)
 |_=>none
noncomputable def YF(m:Str)(k:Nat)(G:Gs):Li (Nat×Nat):=(G.map Prod.fst).filterMap (ZcP m k G)
noncomputable def ZcH:Expr->Ot (Str×Li Expr)
 |.Call (.Name f _) as [] _=>some (f,as)
 |_=>none
noncomputable def fnA(G:Gs)(sc:Scope)(nm:Str)(e:Expr):Ot (Li Expr):=(ZcH e).bind fun p=>og (p.1=nm/\Zy sc p.1=true/\U2 G p.1=true) (some p.2)
noncomputable def Zd4:Li Expr->Ot Expr
 |[a]=>some a
 |_=>none
noncomputable def ZO(G:Gs)(sc:Scope)(e:Expr):Ot Expr:=(fnA G sc "range" e).bind Zd4
noncomputable def UE(_:Gs)(_:Scope)(_:Str)(_:Expr):Ot Expr:=none
noncomputable def Ur(_:Gs)(_:Scope)(_:Str)(_:Expr):Ot (Expr×Expr):=none
noncomputable def o3{α β γ δ:Type}(f:α->β->γ->δ):Ot α->Ot β->Ot γ->Ot δ
 |some x,b,c=>o2 (f x) b c
 |none,_,_=>none
variable{γ:Type}
theorem Wo{P:γ->Prop}{f:α->γ}{a:Ot α}{c:γ}(h:a.map f=some c)(k:∀ x,a=some x->P (f x)):P c:=by
 cases a with
 |none=>exact Zb h
 |some x=>cases h;exact k x rfl
variable{β:Type}
theorem ZU{P:γ->Prop}{f:α->β->γ}{a:Ot α}{b:Ot β}{c:γ}(h:o2 f a b=some c)(k:∀ x y,a=some x->b=some y->P (f x y)):P c:=by
 cases a with
 |none=>exact Zb h
 |some x=>cases b with
  |none=>exact Zb h
  |some y=>cases h;exact k x y rfl rfl
theorem Y8{δ:Type}{P:δ->Prop}{f:α->β->γ->δ}{a:Ot α}{b:Ot β}{d:Ot γ}{c:δ}(h:o3 f a b d=some c)(k:∀ x y z,a=some x->b=some y->d=some z->P (f x y z)):P c:=by
 cases a with
 |none=>exact Zb h
 |some x=>exact ZU (P:=P) h fun y z e e'=>k x y z rfl e e'
theorem Yv{P:Prop}{p:Prop}[Decidable p]{o:Ot α}{c:α}(h:og p o=some c)(k:p->o=some c->P):P:=by
 unfold og at h;by_cases hp:p
 ·rw[if_pos hp]at h;exact k hp h
 ·rw[if_neg hp]at h;cases h
theorem j_e{P:Prop}{o:Ot (Ot α)}{c:α}(h:o.join=some c)(k:o=some (some c)->P):P:=by
 cases o with
 |none=>exact Zb h
 |some x=>cases h;exact k rfl
noncomputable def Ji(G:Gs)(sc:Scope)(f:Str)(a:Expr)(r:Expr->Ot CE):Ot CE:=match UE G sc f a with
 |some e=>(r e).map .tupR
 |none=>match Ur G sc f a with
  |some (u,v)=>o2 .lstR (r u) (r v)
  |none=>((r a).map (Zdn f)).join
noncomputable def Jj(G:Gs)(sc:Scope)(f:Str)(a b:Expr)(r:Expr->Ot CE):Ot CE:=if f = "isinstance" then (match Ug G sc b with
  |some l=>(r a).map (.isc l)
  |none=>o2 (fun x T=>.isi T x) (r a) (Ql G sc b)) else (o2 (Zdo f) (r a) (r b)).join
noncomputable def Jk(G:Gs)(sc:Scope)(f:Str)(as:Li Expr)(cs:Ot CE)(r:Expr->Ot CE):Ot CE:=
 if Zy sc f then (match G.lookup f with
   |some (.fn i ps ds)=>og (as.length<=ps/\ps<=as.length+ds.length) (cs.map fun c=>.call i c (ds.drop (as.length+ds.length - ps)))
   |some .blt=>match as with
    |[a]=>Ji G sc f a r
    |[a,b]=>Jj G sc f a b r
    |_=>none
   |some (.cls i ms _ ds)=>(match ms.lookup ("__init__":Str) with
    |some p=>og (as.length+1<=p.2/\p.2<=as.length+1+ds.length) (cs.map fun c=>.mk i p.1 c (ds.drop (as.length+1+ds.length - p.2)))
    |none=>match as with
     |[]=>some (.new i)
     |_=>none)
   |_=>none) else none
noncomputable def ZcF(G:Gs)(ob:Expr)(m:Str)(ap:Pos)(as:Li Expr)(cp:Pos)(cs:Ot CE)(r:Expr->Ot CE):Ot CE:=match ob with
 |.Dict _ _ _=>(match as with
  |[a,b]=>og (m = "get"/\(ap.endLine==cp.line)=true) (o3 .dget (r ob) (r a) (r b))
  |_=>none)
 |.Name _ _=>og ((ap.endLine==cp.line)=true/\as.length < 20) (if m = "index" then og (as.length=1) (o2 .tix (r ob) cs) else o2 (.meth (YF m as.length G)) (r ob) cs)
 |.Subscript _ _ _=>og ((ap.endLine==cp.line)=true/\as.length < 20) (o2 (.meth (YF m as.length G)) (r ob) cs)
 |_=>none
noncomputable def Zff(G:Gs)(sc:Scope)(f:Expr)(as:Li Expr)(cp:Pos)(cs:Ot CE)(r:Expr->Ot CE):Ot CE:=match f with
 |.Name f _=>Jk G sc f as cs r
 |.Attribute ob m ap=>ZcF G ob m ap as cp cs r
 |_=>none
noncomputable def fldNames:Li Str:=["program", "trials", "limit", "kept", "done"]
noncomputable def Zft(o:Expr)(f:Str)(c:Ot CE):Ot CE:=match o with
 |.Name _ _=>og (fldNames.contains f=true) (c.map (.fld f))
 |_=>none
noncomputable def ZdO:Expr->Bool
 |.Slice ..=>true
 |_=>false
noncomputable def Zgc(f:Expr->Ot CE)(keys:Li (Ot Expr))(vals:Li Expr):Ot CE:=match keys with
 |[]=>og (vals.length=0) (some .dnew)
 |_=>none
noncomputable def XM(_:Gs)(_:Scope)(_:Expr):Ot (Li Expr):=none
noncomputable def Xz(G:Gs)(sc:Scope)(e:Expr):Ot (Li Expr):=(fnA G sc "zip" e).bind fun as=>og (as.length=2) (some as)
noncomputable def Y3(G:Gs)(sc:Scope)(e:Expr):Ot Expr:=(fnA G sc "enumerate" e).bind Zd4
noncomputable def XY(G:Gs)(sc:Scope)(e:Expr):Ot Expr:=Y3 G sc e
noncomputable def nmE:Expr->Ot Str
 |.Name x _=>some x
 |_=>none
noncomputable def nmL:Li Expr->Ot (Li Str)
 |[a,b]=>o2 (fun x y=>[x,y]) (nmE a) (nmE b)
 |[a,b,c]=>o3 (fun x y z=>[x,y,z]) (nmE a) (nmE b) (nmE c)
 |_=>none
noncomputable def tgN:Expr->Ot (Li Str)
 |.Name x _=>some [x]
 |.Tuple es _ _=>nmL es
 |_=>none
noncomputable def mkC(n:Nat)(r:Ot (Ot Bool))(fr:Li Nat)(ci ce cc:CE):CE:=if n=3 then .comp3 fr ci ce cc else match r with
 |some (some b)=>.comp b fr ci ce cc
 |some none=>.comp2 fr ci ce cc
 |none=>.compT fr ci ce cc
noncomputable def YY(N:Li Str):Li Str->Ot (Li Nat)
 |[]=>some []
 |x :: r=>match N.idxOf? x,YY N r with
  |some i,some is=>some (i :: is)
  |_,_=>none

noncomputable def Zah(G:Gs)(sc:Scope)(N:Li Str)(x:Str):Ot CE:=
 if YW sc x then (N.idxOf? x).map .v else if Zy sc x then (match G.lookup x with
  |some (.c d)=>some (.c d)
  |_=>none) else none
noncomputable def U5(G:Gs)(sc:Scope):Expr->Ot (Li Str×Li D)
 |.Name x _=>if Zy sc x then (match G.lookup x with
  |some (.dct ks ds)=>some (ks,ds)
  |_=>none) else none
 |_=>none
noncomputable def X0:Expr->Ot (Ot Expr×Ot Expr)
 |.Slice lo hi none _=>some (lo,hi)
 |_=>none
noncomputable def ZcX(_:Expr):Ot Expr:=none
noncomputable def Zgh:CE->Bool
 |.neg (.c (.int 1))=>true
 |_=>false
noncomputable def Wg(sc:Scope)(x:Str):Bool:=match sc.names.lookup x with
 |some .cell=>true
 |some .free=>true
 |_=>false
noncomputable def YO(sc sc2:Scope)(xs:Li Str):Bool:=
 decide (sc2.kind=.function)&&(sc2.names.all fun p=>decide (p.2≠.cell))&&(xs.all fun x=>decide (sc2.names.lookup x=some .local))&&(sc2.names.all fun p=>!decide (p.2=.local)||decide (sc2.names.lookup p.1=some .local)) &&
 decide (xs++ZH sc2).Nodup&&(ZH sc2).all (fun y=>Wg sc y&&decide (sc2.names.lookup y=some .free))
noncomputable def ZdL(_:CmpOp):Ot Bool:=none
noncomputable def unC(op:UnaryOp)(a:Ot CE):Ot CE:=match op with
 |.Not=>a.map .not
 |.USub=>a.map .neg
 |_=>none
noncomputable def Zfh(G:Gs)(sc:Scope)(f:Expr->Ot CE)(a:Ot CE):Li CmpOp->Li Expr->Ot CE
 |[op],[b]=>(match ZO G sc b with
  |some e=>o3 .inR (ZdL op) a (f e)
  |none=>o2 (.cmp op) a (f b))
 |_,_=>none
noncomputable def ZcG(f:Expr->Ot CE)(op:BoolOp)(pos:Pos):Li Expr->Ot CE
 |[]=>none
 |[a]=>f a
 |a :: b :: r=>match op with
  |.And=>o2 .and (f a) (f (.BoolOp .And (b :: r) pos))
  |.Or=>o2 .or (f a) (f (.BoolOp .Or (b :: r) pos))
noncomputable def ZeT(G:Gs)(sc:Scope)(f:Expr->Ot CE)(fo:Ot Expr->Ot CE)(a b:Expr):Ot CE:=match X0 b with
 |some (lo,hi)=>o3 .slice (f a) (fo lo) (fo hi)
 |none=>match ZcX b with
  |some s=>(o2 (fun x y=>og (Zgh y=true) (some (.rs false x))) (f a) (f s)).join
  |none=>match U5 G sc a with
   |some (ks,ds)=>(f b).map (.look ks ds)
   |none=>o2 .ix (f a) (f b)
noncomputable def itC(G:Gs)(sc:Scope)(it:Expr)(f:Expr->Ot CE):Li Str->Ot (Ot (Ot Bool)×CE)
 |[_]=>(match ZO G sc it with
  |some a=>(f a).map fun c=>(some (some true),c)
  |none=>(f it).map fun c=>(some (some false),c))
 |[_,_,_]=>(match Y3 G sc it with
  |some _=>none
  |none=>(f it).map fun c=>(none,c))
 |_=>(match Y3 G sc it with
  |some a=>(f a).map fun c=>(some none,c)
  |none=>(f it).map fun c=>(none,c))
noncomputable def ifC(f:Expr->Ot CE):Li Expr->Ot CE
 |[]=>some (CE.c (.bl true))
 |[c]=>f c
 |_=>none
noncomputable def ZcI(G:Gs)(sc sc2:Scope)(N:Li Str)(f:Expr->Ot CE)(g:Li Str->Expr->Ot CE)(elt:Expr):Li Comprehension->Ot CE
 |[⟨tg,it,ifs,0⟩]=>(match tgN tg with
  |none=>none
  |some xs=>og (YO sc sc2 xs=true) (o3 (fun fr p (q:CE×CE)=>mkC xs.length p.1 fr p.2 q.1 q.2) (YY N (ZH sc2)) (itC G sc it f xs) (o2 Prod.mk (g (xs++ZH sc2) elt) (ifC (g (xs++ZH sc2)) ifs))))
 |_=>none
mutual
noncomputable def cE(G:Gs):Nat->Scope->Li Str->Expr->Ot CE
 |0,_,_,_=>none
 |n+1,sc,N,e=>match e with
  |.Constant c _ _=>CE.ofConst c
  |.Name x _=>Zah G sc N x
  |.BinOp a op b _=>o2 (.bin op) (cE G n sc N a) (cE G n sc N b)
  |.UnaryOp op a _=>unC op (cE G n sc N a)
  |.Compare a ops bs _=>Zfh G sc (cE G n sc N) (cE G n sc N a) ops bs
  |.BoolOp op vs pos=>ZcG (cE G n sc N) op pos vs
  |.IfExp c a b _=>o3 .ife (cE G n sc N c) (cE G n sc N a) (cE G n sc N b)
  |.Tuple es _ _=>(cEs G n sc N es).map .tupE
  |.List es _=>(cEs G n sc N es).map .lstE
  |.Dict keys vals _=>Zgc (cE G n sc N) keys vals
  |.Attribute o f _=>Zft o f (cE G n sc N o)
  |.Subscript a b _=>ZeT G sc (cE G n sc N) (cO G n sc N) a b
  |.Call f as [] cp=>Zff G sc f as cp (cEs G n sc N as) (cE G n sc N)
  |.ListComp elt gens sc2 _=>ZcI G sc sc2 N (cE G n sc N) (cE G n sc2) elt gens
  |_=>none
noncomputable def cEs(G:Gs):Nat->Scope->Li Str->Li Expr->Ot CE
 |0,_,_,_=>none
 |_+1,_,_,[]=>some .aN
 |n+1,sc,N,e :: es=>o2 .aC (cE G n sc N e) (cEs G n sc N es)
noncomputable def cO(G:Gs):Nat->Scope->Li Str->Ot Expr->Ot CE
 |0,_,_,_=>none
 |_+1,_,_,none=>some .nop
 |n+1,sc,N,some e=>(cE G n sc N e).map .part
end

noncomputable def Z3:Expr->Bool
 |.ListComp ..=>true
 |.SetComp ..=>true
 |.DictComp ..=>true
 |_=>false
noncomputable def Wh:Expr->Bool
 |.Tuple ..=>true
 |_=>false
noncomputable def Zfe(N:Li Str)(tg e:Expr)(c:Ot CE):Ot CS:=match tg with
 |.Name x _=>o2 .set (N.idxOf? x) c
 |.Tuple [.Name x _,.Name y _] _ _=>og ((Z3 e||Wh e)=false) (o3 (fun i j c=>og (i≠j) (some (.set2 i j c))) (N.idxOf? x) (N.idxOf? y) c).join
 |.Tuple [.Name x _,.Name y _,.Name z _] _ _=>og ((Z3 e||Wh e)=false) (o3 (fun i j (p:Nat×CE)=>.set3 i j p.1 p.2) (N.idxOf? x) (N.idxOf? y) (o2 Prod.mk (N.idxOf? z) c))
 |.Tuple [.Name x _,.Name y _,.Name z _,.Name w _] _ _=>og ((Z3 e||Wh e)=false) (o3 (fun i j (p:Nat×Nat×CE)=>.set4 i j p.1 p.2.1 p.2.2) (N.idxOf? x) (N.idxOf? y) (o3 (fun l m c=>(l,m,c)) (N.idxOf? z) (N.idxOf? w) c))
 |_=>none
noncomputable def ZfM(sc:Scope)(N:Li Str)(x:Str)(k e:Expr)(f:Expr->Ot CE):Ot CS:=og (Z3 e=false/\ZdO k=false/\YW sc x=true) (o3 .put (N.idxOf? x) (f k) (f e))
noncomputable def Xu:Expr->Ot Expr
 |.Call (.Attribute (.Attribute o f p) m ap) [] [] cp=>og (m = "items"/\(ap.endLine==cp.line)=true) (some (.Attribute o f p))
 |_=>none
noncomputable def ZdI(G:Gs)(sc:Scope)(N:Li Str)(f:Expr->Ot CE)(fs:Li Expr->Ot CE)(tg it:Expr)(b:Ot CS):Ot CS:=match tg with
 |.Name x _=>(match XM G sc it with
  |some as=>o3 .for3 (N.idxOf? x) (fs as) b
  |none=>match ZO G sc it with
   |some a=>o3 (fun i c b=>.for1 i true c b) (N.idxOf? x) (f a) b
   |none=>o3 (fun i c b=>.for1 i false c b) (N.idxOf? x) (f it) b)
 |.Tuple [.Name x _,.Name y _] _ _=>(o2 (fun i j=>og (i≠j) (some (i,j))) (N.idxOf? x) (N.idxOf? y)).join.bind fun p=>(match Xz G sc it with
  |some as=>o2 (.forP p.1 p.2) (fs as) b
  |none=>match XY G sc it with
   |some e=>o2 (.forE p.1 p.2) (f e) b
   |none=>match Xu it with
    |some e=>o2 (.forI p.1 p.2) (f e) b
    |none=>o2 (.for2 p.1 p.2) (f it) b)
 |.Tuple [.Name x _,.Name y _,.Name z _] _ _=>o3 (fun(p:Nat×Nat) (q:Nat×CE) b=>.for4 p.1 p.2 q.1 q.2 b) (o2 Prod.mk (N.idxOf? x) (N.idxOf? y)) (o2 Prod.mk (N.idxOf? z) (f it)) b
 |_=>none
noncomputable def Zdm(sc:Scope)(N:Li Str)(x m:Str)(ap cp:Pos)(c:Ot CE):Ot CS:=og (YW sc x=true/\(ap.endLine==cp.line)=true) (if m = "append" then o2 .app (N.idxOf? x) c else if m = "extend" then o2 .ext (N.idxOf? x) c else none)
noncomputable def Zfb(sc:Scope)(N:Li Str)(f:Expr->Ot CE):Expr->Ot CS
 |.Call (.Name g fp) as kw cp=>(f (.Call (.Name g fp) as kw cp)).map .act
 |.Call (.Attribute (.Name x p) m ap) as kw cp=>if m = "append"\/m = "extend" then (match as,kw with
  |[e],[]=>Zdm sc N x m ap cp (f e)
  |_,_=>none) else (f (.Call (.Attribute (.Name x p) m ap) as kw cp)).map .act
 |.Call (.Attribute (.Subscript o k p) m ap) [e] [] cp=>og (m = "append"/\(ap.endLine==cp.line)=true) (o2 .app2 (f (.Subscript o k p)) (f e))
 |_=>none
mutual
noncomputable def cS(G:Gs):Nat->Scope->Li Str->Stmt->Ot CS
 |0,_,_,_=>none
 |n+1,sc,N,s=>match s with
  |.Assign [.Subscript (.Name x _) k _] e _=>ZfM sc N x k e (cE G n sc N)
  |.Assign [.Subscript (.Attribute o f p) k _] e _=>og (Z3 e=false/\ZdO k=false) (o3 (.dput 0) (cE G n sc N (.Attribute o f p)) (cE G n sc N k) (cE G n sc N e))
  |.Assign [.Attribute (.Name x _) k _] e _=>og (Z3 e=false/\YW sc x=true/\fldNames.contains k=true) (o2 (fun i c=>.fset i k c) (N.idxOf? x) (cE G n sc N e))
  |.Assign [tg] e _=>Zfe N tg e (cE G n sc N e)
  |.Expr e _=>Zfb sc N (cE G n sc N) e
  |.Return (some e) _=>(cE G n sc N e).map .ret
  |.If c a b _=>o3 .ite (cE G n sc N c) (cSs G n sc N a) (cSs G n sc N b)
  |.For tg it b [] _=>ZdI G sc N (cE G n sc N) (cEs G n sc N) tg it (cSs G n sc N b)
  |.While c b [] _=>o2 .whl (cE G n sc N c) (cSs G n sc N b)
  |.Pass _=>some .skip
  |.Break _=>some .brk
  |.Continue _=>some .cont
  |.Raise _ _ _=>some .stop
  |_=>none
noncomputable def cSs(G:Gs):Nat->Scope->Li Str->Li Stmt->Ot CS
 |0,_,_,_=>none
 |_+1,_,_,[]=>some .skip
 |n+1,sc,N,s :: r=>o2 .seq (cS G n sc N s) (cSs G n sc N r)
end
end Dp


namespace Dp
open PySem PySem.Spec PyProof.Rows L2 PySem.SeqAt
noncomputable instance decD:DecidableEq D:=fun a b=>Classical.propDecidable (a=b)
def IsV(h:Heap):Nat->D->vL->Prop
 |_,.int i,u=>∃ t,u=.int i t
 |_,.str x,u=>∃ t,u=.str x t
 |n+1,.tup ds,u=>∃ a its,u=.ref a/\h.IsTuple a its/\Paired (IsV h n) ds its.toList
 |_,_,_=>False
noncomputable def YK(w:World):Nat->D->Int
 |_,.int i=>keyH w (.inl i)
 |_,.str x=>keyH w (.inr x)
 |n+1,.tup ds=>reduceHash (Builtin.Tuple.tupleHashOf (ds.map (YK w n)))
 |_,_=>0
noncomputable def X8:Nat->D->Nat
 |n+1,.tup ds=>(ds.map (X8 n)).sum+1
 |_,_=>1
variable {prog:Program}{w:World}{A:Around}{E:vL->sH7->Prop}{s:sH7}{h h':Heap}
inductive IsW(h:Heap):Nat->D->Value->Prop where
 |int (n:Nat) (i:Int) (t:Tok):IsW h n (.int i) (.int i t)
 |str (n:Nat) (i:Str) (t:Tok):IsW h n (.str i) (.str i t)
 |tup {m:Nat}{ds:List D}{a:Addr}{its:Array Value} (p:h.IsTuple a its) (r:Paired (IsV h m) ds its.toList):IsW h (m+1) (.tup ds) (.ref a)
variable{n:Nat}
theorem IsV.view{d:D}{u:vL}(x:IsV h n d u):IsW h n d u:=by
 cases d with
 |int i=>
  obtain⟨t,rfl⟩:∃ t,u=.int i t:=by cases n<;>exact x
  exact .int n i t
 |str i=>
  obtain⟨t,rfl⟩:∃ t,u=.str i t:=by cases n<;>exact x
  exact .str n i t
 |tup ds=>cases n with
  |zero=>exact False.elim x
  |succ m=>obtain⟨a,its,rfl,p,r⟩:=x;exact .tup p r
 |_=>exact False.elim (by cases n<;>exact x)
variable{i:Int}
theorem ZbH{t:Tok}:IsV h n (.int i) (.int i t):=by cases n<;>exact⟨t,rfl⟩
theorem ZbI{i:Str}{t:Tok}:IsV h n (.str i) (.str i t):=by cases n<;>exact⟨t,rfl⟩
theorem IsV.inj:∀ {n:Nat}{x y:D}{u:vL},IsV h n x u->IsV h n y u->x=y:=by
 intro n
 induction n using Nat.strongRecOn with
 |_ n ih=>
  intro x y u hx hy;cases hx.view with
  |int=>cases hy.view;rfl
  |str=>cases hy.view;rfl
  |@tup m ds a its p r=>
   cases hy.view with
   |tup p' r'=>
    obtain⟨o,ho,hc,k,hd⟩:=p;obtain⟨o',ho',hc',k',hd'⟩:=p';rw[ho]at ho';cases ho'
    rw[hd]at hd';injection hd' with h1 _;subst h1
    have go:∀ {ds es:Li D}{vs:Li vL},Paired (IsV h m) ds vs->Paired (IsV h m) es vs->ds=es:=fun {ds es vs} p=>by
     induction p generalizing es with
     |nil=>intro q;cases q;rfl
     |cons r p ih'=>intro q;cases q with
      |cons r' q=>rw[ih m (bM m) r r',ih' q]
    rw[go r r']
theorem IsV.map(k:∀ a its,h.IsTuple a its->h'.IsTuple a its):∀ {n:Nat}{x:D}{u:vL},IsV h n x u->IsV h' n x u:=by
 intro n
 induction n using Nat.strongRecOn with
 |_ n ih=>
  intro x u hx;cases hx.view with
  |int=>exact ZbH
  |str=>exact ZbI
  |@tup m ds a its p r=>exact⟨a,its,rfl,k _ _ p,Paired.mapP r fun x y q=>ih m (bM m) q⟩
theorem Zdj{ds es:Li D}:((List.range (min ds.length es.length)).all (fun i=>decide ((ds[i]?).getD .non=(es[i]?).getD .non))&&ds.length==es.length)=decide (ds=es):=by
 rw[bL,bA7,cC,decide_eq_true_iff,beq_iff_eq];constructor
 ·rintro⟨h1,h2⟩
  refine List.ext_getElem h2 fun i a b=>?_
  have:=h1 i (cJ.mpr (by omega))
  rw[decide_eq_true_iff,lG7 a,lG7 b]at this;exact this
 ·rintro rfl
  exact⟨fun i _=>aH rfl,rfl⟩
theorem Xi{m:Nat}:∀ {ds:Li D}{vs:Li vL},Paired (IsV h m) ds vs->ds.length=vs.length/\∀ i (a:i < ds.length) (b:i < vs.length),IsV h m ds[i] vs[i]
 |_,_,.nil=>⟨rfl,fun i a=>nomatch a⟩
 |_,_,.cons r p=>by
  obtain⟨l,g⟩:=Xi p;refine⟨congrArg (·+1) l,fun i a b=>?_⟩
  cases i with
  |zero=>exact r
  |succ i=>exact g i _ _
theorem dec_int{j:Int}:decide (D.int i=D.int j)=(i==j):=by rw[bL,decide_eq_true_iff,beq_iff_eq];exact⟨D.int.inj,congrArg _⟩
theorem dec_str{i j:Str}:decide (D.str i=D.str j)=(i==j):=by rw[bL,decide_eq_true_iff,beq_iff_eq];exact⟨D.str.inj,congrArg _⟩
theorem Zbg{i j:Li D}:decide (D.tup i=D.tup j)=decide (i=j):=by rw[bL,decide_eq_true_iff,decide_eq_true_iff];exact⟨D.tup.inj,congrArg _⟩
theorem eqV:∀ {n:Nat}{x y:D}{A:Around}{u v:vL},A.units+n < cLine->IsV s.heap n x u->IsV s.heap n y v->EqAt A s u v (decide (x=y)):=by
 intro n
 induction n using Nat.strongRecOn with
 |_ n ih=>
  intro x y A u v hu hx hy;cases hx.view with
  |int _ i t=>
   cases hy.view with
   |int _ j t'=>exact dec_int ▸ EqAt.int_int i t j t'
   |str _ j t'=>rw[aE (fun e=>nomatch e)];exact EqAt.int_str i t j t'
   |tup p r=>rw[aE (fun e=>nomatch e)];exact EqAt.int_tuple i t p (by omega)
  |str _ i t=>
   cases hy.view with
   |int _ j t'=>rw[aE (fun e=>nomatch e)];exact EqAt.str_int i t j t'
   |str _ j t'=>exact dec_str ▸ EqAt.str_str i t j t'
   |tup p r=>rw[aE (fun e=>nomatch e)];exact EqAt.str_tuple i t p (by omega)
  |@tup m ds a its p r=>
   cases hy.view with
   |int _ j t'=>rw[aE (fun e=>nomatch e)];exact EqAt.tuple_int j t' p (by omega)
   |str _ j t'=>rw[aE (fun e=>nomatch e)];exact EqAt.tuple_str j t' p (by omega)
   |@tup _ es b its' p' r'=>
    by_cases hab:a=b
    ·subst hab
     rw[aH (hx.inj hy)];exact EqAt.same _
    ·obtain⟨l1,g1⟩:=Xi r
     obtain⟨l2,g2⟩:=Xi r';refine EqAt.of_refs hab ?_;have q:=RcAt.tuples (A:=A) (s:=s) (e:=fun i=>decide ((ds[i]?).getD .non=(es[i]?).getD .non)) p p' (by omega) fun j h1 h2=>?_
     ·rw[show its.size=ds.length from l1.symm,show its'.size=es.length from l2.symm,Zdj]at q
      rw[Zbg];exact q
     ·have a1:j < ds.length:=l1 ▸ h1
      have a2:j < es.length:=l2 ▸ h2;rw[lG7 a1,lG7 a2];exact ih m (bM m) (A:=A.in1) (by show A.units+1+m < cLine;omega) (g1 j a1 h1) (g2 j a2 h2)
variable {prog:Program}{w:World}{A:Around}{E:vL->sH7->Prop}{s:sH7}{h h':Heap}
theorem QM:YK w n (.int i)=keyH w (.inl i):=by cases n<;>rfl
theorem QN{i:Str}:YK w n (.str i)=keyH w (.inr i):=by cases n<;>rfl
theorem QF:X8 n (.int i)=1:=by cases n<;>rfl
theorem QG{i:Str}:X8 n (.str i)=1:=by cases n<;>rfl
theorem ZbX:∀ {n:Nat}{d:D}{A:Around}{u:vL}{s:sH7}{Q:Int->sH7->Prop},A.units+n < cLine->IsV s.heap n d u->Q (YK w n d) { s with toks:=s.toks+X8 n d }->wpAny (model prog w) A (pyHash u) Q E s:=by
 intro n
 induction n using Nat.strongRecOn with
 |_ n ih=>
  intro d A u s Q hu hx h;cases hx.view with
  |int _ i t=>
   rw[QM,QF]at h;exact(mixKind prog w).pyHash (mixKind_int prog w i t) h
  |str _ i t=>
   rw[QN,QG]at h;exact(mixKind prog w).pyHash (mixKind_str prog w i t) h
  |@tup m ds a its p r=>
   obtain⟨o,ho,hc,k,hd⟩:=p;have hT:s.TypeIs (.ref a) "tuple":=⟨o,ho,hc⟩;unfold pyHash
   first|unfold pyHashByItsType|skip
   first|refine aA (wpAny_cRoomFor_or (.inr (by omega)) ?_)|skip
   refine aA (wpAny_specialOf hT F.slot_tuple_hash.lookup ?_);show wpAny _ _ (if (some (Value.builtin "tuple.__hash__")==some Value.none)=true then _ else _) Q E s
   rw[if_neg (by rw[beq_builtin_none];exact bF7)]
   refine aA (wpAny_specialOf hT F.slot_tuple_hash.lookup ?_);show wpAny _ _ (callSpecialIfBoundUnlessNone? (.ref a) "__hash__" _ >>= _) Q E s;refine aA (wpAny_callSpecialIfBoundUnlessNone?_slot hT F.slot_tuple_hash (wpAny_call_entry F.slot_tuple_hash hT F.entry_tuple_hash ?_ (F.args_tuple_hash_1 _)));show wpAny _ _ (Builtin.Tuple.tupleItemsOf (.ref a) >>= _) _ _ s;refine aA (wpAny_tupleItemsOf ho hd ?_)
   refine aA ?_;rw[<-Array.forIn_toList];refine wpAny_forIn_list _
    (fun rest (b:Array Int) s'=>∃ done left,ds=done++left/\Paired (IsV s.heap m) left rest/\b.toList=done.map (YK w m)/\s'={ s with toks:=s.toks+(done.map (X8 m)).sum })
    _ ?_ ?_ _ _ ⟨[],ds,rfl,r,rfl,rfl⟩
   ·rintro x rest b s' ⟨done,left,rfl,hl,hb,rfl⟩
    cases hl with
    |@cons k1 _ ks' _ h1 hl'=>
     refine aA (ih m (bM m) (by show A.units+1+m < cLine;omega) h1 ?_)
     first
      |exact aF ⟨done++[k1],ks',by simp,hl',by simp[hb],by simp[cQ]⟩
      |exact aA (aF (aF ⟨done++[k1],ks',by simp,hl',by simp[hb],by simp[cQ]⟩))
   ·rintro b s' ⟨done,left,rfl,hl,hb,rfl⟩
    cases hl;rw[aW]at h;show wpAny _ _ (retInt (Builtin.Tuple.tupleHashOf b.toList)) _ _ _;rw[hb];refine wpAny_ret_mkInt ?_;show wpAny _ _ (if (decide (-(2:Int) ^ 63<=Builtin.Tuple.tupleHashOf (done.map (YK w m)))&&decide (Builtin.Tuple.tupleHashOf (done.map (YK w m)) < 2 ^ 63))=true then _ else _) Q E _
    have h:Q (reduceHash (Builtin.Tuple.tupleHashOf (done.map (YK w m)))) { s with toks:=s.toks+((done.map (X8 m)).sum+1) }:=h
    unfold reduceHash at h;by_cases hr:(decide (-(2:Int) ^ 63<=Builtin.Tuple.tupleHashOf (done.map (YK w m)))&&decide (Builtin.Tuple.tupleHashOf (done.map (YK w m)) < 2 ^ 63))=true
    ·rw[if_pos hr]
     rw[if_pos hr]at h;exact aF (by simpa[cQ] using h)
    ·rw[if_neg hr]
     rw[if_neg hr]at h;exact aA (wpAny_rule (aF (by simpa[cQ] using h)))
theorem Zex{M:Model}:∀ {n:Nat}{d:D}{u:vL}{s:sH7}{Q:Bool->sH7->Prop},IsV s.heap n d u->Q true s->wpAny M A (eqIsQuiet n u) Q E s:=by
 intro n
 induction n using Nat.strongRecOn with
 |_ n ih=>
  intro d u s Q hx h;cases hx.view with
  |int _ i t=>
   rw[eqIsQuiet_byValue _ rfl];exact aF h
  |str _ i t=>
   rw[eqIsQuiet_byValue _ rfl];exact aF h
  |@tup m ds a its p r=>
   obtain⟨o,ho,hc,k,hd⟩:=p;have hT:s.TypeIs (.ref a) "tuple":=⟨o,ho,hc⟩;unfold eqIsQuiet;refine aA (wpAny_specialOf hT F.slot_tuple_eq.lookup ?_);show wpAny _ _ (isInstance (.ref a) (.type "tuple") >>= _) _ _ s;refine aA (wpAny_isInstance hT isSubtype_tuple_tuple ?_);simp only[Bool.not_true,cH,if_false];refine aA (wpAny_seqItems ho hd ?_);refine aA ?_
   show wpAny _ _ (forIn its _ _) _ _ s;rw[<-Array.forIn_toList];refine wpAny_forIn_list _ (fun rest r s'=>r.1=none/\s'=s/\∃ left,Paired (IsV s.heap m) left rest) _ ?_ ?_ _ _ ⟨rfl,rfl,ds,r⟩
   ·rintro v rest r s' ⟨hr,rfl,left,hl⟩
    cases hl with
    |@cons k1 _ ks' _ h1 hl'=>
     refine aA (ih m (bM m) h1 ?_);simp only[Bool.not_true,cH,if_false];exact aF ⟨rfl,rfl,ks',hl'⟩
   ·rintro⟨r1,r2⟩ s' ⟨hr,rfl,_⟩
    simp only at hr;subst hr;exact aF h
noncomputable def ZcR(prog:Program)(w:World):HeapKind prog w D where
 is:=fun h d a=>IsV h 8 d (.ref a)
 hash:=YK w 8
 draws:=X8 8
 room:=fun A=>A.units+8 < cLine
 inj:=fun hx hy=>hx.inj hy
 keeps:=fun x ho hd hs=>x.map fun a its ⟨o,h1,h2,k,h3⟩=>⟨o,(hs.2 a fun e=>by subst e;rw[ho]at h1;cases h1;rw[hd]at h3;exact nomatch h3).trans h1,h2,k,h3⟩
 pyHash:=fun hu hk h=>ZbX hu hk h
 eqBool:=fun hu hx hy h=>eqV hu hx hy _ _ _ _ h
 quiet:=fun hk h=>Zex hk h
noncomputable def ZaI(K:fG7):TE:=fun _ H Q=>∀ p,H p=none->(∀ o,K.lookup p≠some o)->Q (.ref p) (upd H p (.dN fun _=>[]))
theorem Zar{X:Cx}{pos:Pos}:PE X (.Dict [] [] pos) (ZaI X.K):=fun pQ s σ H Q I h=>
 wpAny_Dict_empty ⟨.ref s.heap.objs.size,_,I.laid (a:=s.heap.objs.size) (o:=.dN fun _=>[]) (t':=s.toks) (fun _ _ q=>aQ _ q) (aD _) ⟨bY.mpr (Ne.symm (aX I.big)),_,#[],bA _ rfl,⟨rfl,rfl,rfl⟩,rfl,rfl⟩,rfl,h _ (I.hok.fresh (aD _)) fun o z=>absurd (aK (I.kIn _ o z)) (bZ _)⟩
variable{d:Ad}
section
variable {prog:Program}{w:World}{K:Type} [DecidableEq K] {knd:HeapKind prog w K}{A:Around}{E:vL->sH7->Prop}{s:sH7}
def DictE(knd:HeapKind prog w K)(h:Heap)(d:Ad)(xs:Li (K×Ad×vL)):Prop:=∃ o es,h.get? d=some o/\o.ExactDict/\o.data=.dict es es.size/\es.toList=xs.map (entryOfKey knd)/\(∀ x∈xs,knd.is h x.1 x.2.1)/\(xs.map (·.1)).Nodup
theorem DictE.typeIs{xs:Li (K×Ad×vL)}(hm:DictE knd s.heap d xs):s.TypeIs (.ref d) "dict":=let ⟨o,_,ho,hc,_⟩:=hm;⟨o,ho,hc.1⟩
theorem ZeP{a:Ad}{xs:Li (K×Ad×vL)}{k:K}{v:vL}{Q:Unit->sH7->Prop}(hu:knd.room A)(hkey:knd.is s.heap k a)(hm:DictE knd s.heap d xs)(hz:xs.length<=sizeLine)(ha:atKey xs k=none)(h2:∀ h',DictE knd h' d (xs++[(k,a,v)])->Heap.SameBut d s.heap h'->Q () { s with heap:=h',toks:=s.toks+knd.draws k }) :
  wpAny (model prog w) A (dictSet d (.ref a) v) Q E s:=by
 obtain⟨o,es,ho,hc,hd,he,his,hn⟩:=hm;have e0:=size_of_entries he;unfold dictSet
 try with_reducible refine wpAny_holding ?_
 refine aA (knd.pyHash hu hkey ?_);unfold dictSetHashed
 try with_reducible refine wpAny_holding ?_
 refine aA (wpAny_dictFind_heap (s:={ s with toks:=s.toks+knd.draws k }) hu hkey ho hd he his hn (fun hno=>?_) (fun j p hj=>?_))
 ·have hnot:k∉xs.map (·.1):=not_mem_keys_of_get hno
  have hsz:es.size+1=(es.push ⟨knd.hash k,.ref a,v⟩).size:=(Array.size_push _).symm;refine aA (wpAny_rule (wpAny_updateDictKeys (hz:=by omega) (s:={ s with toks:=s.toks+knd.draws k }) ho hd (h2 _ ⟨_,_,Heap.get?_update_self _ ho (Obj.isFreed_of_dict (Obj.data_mapDictKeys hd _)),hc.mapDictKeys _,(Obj.data_mapDictKeys hd _).trans (by rw[hsz]),by simp[he,entryOfKey],fun x hx=>?_,?_⟩ (Heap.SameBut.update ..))))
  ·rcases bI.mp hx with z|z
   ·exact knd.keeps (his x z) ho hd (Heap.SameBut.update ..)
   ·rw[aP.mp z]
    exact knd.keeps hkey ho hd (Heap.SameBut.update ..)
  ·rw[bG,dC]
   refine⟨hn,by simp,fun x hx y hy e=>?_⟩
   rw[aL,List.map_nil]at hy;rw[aP.mp hy]at e;exact hnot ((show x=k from e) ▸ hx)
 ·have:=atKey_of_get hn hj
  rw[ha]at this;cases this
theorem ZaE{a:Ad}{xs:Li (K×Ad×vL)}{k:K}{v:vL}{Q:Unit->sH7->Prop}(hu:knd.room A.in1)(hkey:knd.is s.heap k a)(hm:DictE knd s.heap d xs)(hz:xs.length<=sizeLine)(ha:atKey xs k=none)(h2:∀ h',DictE knd h' d (xs++[(k,a,v)])->Heap.SameBut d s.heap h'->Q () { s with heap:=h',toks:=s.toks+knd.draws k }) :
  wpAny (model prog w) A (setItem (.ref d) (.ref a) v) Q E s:=by
 unfold setItem
 try with_reducible refine wpAny_holding ?_
 refine aA (wpAny_sequenceKey hm.typeIs (by decide) (aA (wpAny_callSpecial?_slot (name:=Str.ofString "__setitem__") hm.typeIs slot_dict_setitem (wpAny_call_entry slot_dict_setitem hm.typeIs entry_dict_setitem ?_ (args_dict_setitem _ _ _)))))
 show wpAny _ _ (Builtin.Dict.notOrdered "__setitem__" ⟨[.ref d,.ref a,v],[]⟩ >>= fun _=>dictSet d (.ref a) v >>= _) _ _ s
 exact aA (wpAny_notOrdered_dict hm.typeIs (aA (ZeP hu hkey hm hz ha fun h' hm' hs'=>aF ⟨.none,rfl,aF (h2 h' hm' hs')⟩)))
end
variable{es:Array DictEntry}{ep:Nat}{Q:Ot vL->sH7->Prop}
section
variable {prog:Program}{w:World}{A:Around}{E:vL->sH7->Prop}{s:sH7}
def Raw(h:Heap)(d:Ad)(es:Array DictEntry)(ep:Nat):Prop:=∃ o,h.get? d=some o/\o.ExactDict/\o.data=.dict es ep
theorem Raw.typeIs(x:Raw s.heap d es ep):s.TypeIs (.ref d) "dict":=let ⟨o,ho,hc,_⟩:=x;⟨o,ho,hc.1⟩
theorem Ut:Builtin.Dict_items.ownsTuple "dict_itemiterator"=true:=by decide
theorem QV(d:Ad)(hd:(d==sysModules)=false) :
  MeetsIn prog w (Builtin.«dict.items» ⟨[.ref d],[]⟩) (fun _ R s=>(∃ es ep,Raw s.heap d es ep) /\
   R (.ok (.ret (.ref s.heap.objs.size))) { s with heap:=s.heap.push { cls:=.type "dict_items",data:=.fields #[.ref d] } }):=
 .of_wp fun A R s ⟨⟨es,ep,hm⟩,h⟩=>by
  refine aA ?_;unfold Builtin.Dict.noArgs;refine aA (wpAny_notOrdered_dict hm.typeIs (aF ?_));show wpAny _ _ (Builtin.Dict.showsAll d >>= _) _ _ s;unfold Builtin.Dict.showsAll;rw[if_neg (by rw[hd];exact bF7)]
  exact aA (aF (aA (wpAny_newObj_type (aF ⟨_,rfl,h⟩))))
theorem J6{v:Ad}{Q:vL->sH7->Prop}(hv:s.heap.IsItemsView v d)(hm:Raw s.heap d es ep)(hQ:Q (.ref s.heap.objs.size) { s with heap:=s.heap.push { cls:=.type "dict_itemiterator",data:=.fields #[.none,.bool false,.ref d,.int 0 0,.int es.size 0,.int ep 0,.none,.none] } }) :
  wpAny (model prog w) A (pyIter (.ref v)) Q E s:=by
 obtain⟨ov,hov,hcv,hdv⟩:=id hv;obtain⟨o,ho,hc,hdat⟩:=id hm;refine wpAny_pyIter_slot hv.typeIs F.slot_dict_items_iter (wpAny_call_entry F.slot_dict_items_iter hv.typeIs F.entry_dict_items_iter ?_ (F.args_dict_items_iter_1 _));unfold Builtin.«dict_items.__iter__»
 refine aA (aF (aA ?_));unfold Builtin.Dict_items.dictOf;refine aA (wpAny_field hov hdv (x:=.ref d) rfl (aF (aA ?_)));unfold Builtin.Dict_items.newIterator;refine aA (wpAny_dictEntries ho hdat (aA (wpAny_dictEpoch ho hdat ?_)));simp only[Ut,if_true];refine wpAny_newObj_type (aF ⟨_,rfl, "dict_itemiterator",_,⟨_,bA _ rfl,rfl⟩,F.slot_dict_itemiterator_next.lookup,?_⟩) (by simp only[sizeOk,Builtin.Dict_items.ownedTupleFields,aJ,aI,aO,dD,sizeLine_eq];omega)
 simpa[rawInt,Builtin.Dict_items.ownedTupleFields] using hQ
theorem ZbR{it:Ad}{i:Nat}{ok ov:vL}(hit:IsItemIter s.heap it d i es.size ep ok ov)(hm:Raw s.heap d es ep)(hlt:i < es.size)(hQ:∀ h',IsItemIterOut h' it d (i+1) es.size ep es[i].key es[i].val s.heap.objs.size->h'.get? s.heap.objs.size=some { cls:=.type "tuple",data:=.seq #[es[i].key,es[i].val] }->(∀ b o,b≠it->s.heap.get? b=some o->h'.get? b=some o)->Q (some (.ref s.heap.objs.size)) { s with heap:=h' }) :
  wpAny (model prog w) A (pyNext (.ref it)) Q E s:=by
 obtain⟨hp,g,dr,tk,os⟩:=s;obtain⟨od,hod,hcd,hdd⟩:=id hm;have hT:Shared.TypeIs ⟨hp,g,dr,tk,os⟩ (.ref it) "dict_itemiterator":=⟨_,hit,rfl⟩;unfold pyNext;refine aA (wpAny_attempt (wpAny_callSpecial?_slot (name:=Str.ofString "__next__") hT F.slot_dict_itemiterator_next (wpAny_call_entry F.slot_dict_itemiterator_next hT F.entry_dict_itemiterator_next ?_ (F.args_dict_itemiterator_next_1 _))))
 refine aA (aF (aA (aA ?_)));refine aA (wpAny_typeNameOfWhole_itemiter hT (aF (aA (wpAny_fieldsOf hit rfl ?_))));simp only[Ut,if_true];show wpAny _ _ (if (Value.ref d==Value.none)=true then _ else _) _ _ _
 rw[if_neg (show ¬((Value.ref d==Value.none)=true) from bF7)];refine aA (aF (aA (wpAny_dictEntries hod hdd ?_)));rw[if_neg (by simp)]
 refine aA (aF (aA (wpAny_dictEpoch hod hdd ?_)));rw[if_neg (by simp)]
 refine aF ?_;simp only[show ¬((i:Int) < 0) from by omega,if_false,aZ,eA hlt]
 refine aA (aA (wpAny_typeNameOfWhole_itemiter hT (aF (aA (wpAny_isOneOf_itemiter hT ?_)))));show wpAny _ _ (setField (.ref it) 3 (rawInt ((i:Int)+1)) >>= _) _ _ ⟨hp,g,dr,tk,os⟩;refine aA (wpAny_setField_rec hit (by simp) fun h₁ he₁ hs₁=>?_)
 replace hs₁:Heap.SameBut it hp h₁:=hs₁;replace he₁:IsItemIter h₁ it d (i+1) es.size ep ok ov:=by
  have e:((i+1:Nat):Int)=(i:Int)+1:=by omega
  unfold IsItemIter;rw[e];simpa[rawInt] using he₁
 have hT₁:Shared.TypeIs ⟨h₁,g,dr,tk,os⟩ (.ref it) "dict_itemiterator":=⟨_,he₁,rfl⟩;refine aA (wpAny_holding (aA (wpAny_isOneOf_itemiter hT₁ (aA (wpAny_isOneOf_itemiter hT₁ ?_)))));show wpAny _ _ (Builtin.Dict_items.pairFromOwner (.ref it) 6 es[i].key es[i].val) _ _ ⟨h₁,g,dr,tk,os⟩;unfold Builtin.Dict_items.pairFromOwner;refine aA (wpAny_newTuple ?_);have he₂:IsItemIter (h₁.push { cls:=.type "tuple",data:=.seq #[es[i].key,es[i].val] }) it d (i+1) es.size ep ok ov:=aQ _ he₁
 generalize hh₂:h₁.push { cls:=.type "tuple",data:=.seq #[es[i].key,es[i].val] }=h₂ at he₂;have hz₁:h₁.objs.size=hp.objs.size:=hs₁.1;have hil:hp.objs.size≠it:=cZ (aK hit);have ht₂:h₂.get? hp.objs.size=some { cls:=.type "tuple",data:=.seq #[es[i].key,es[i].val] }:=by rw[<-hh₂,<-hz₁];exact bA _ rfl
 have hk₂:∀ b o,b≠it->hp.get? b=some o->h₂.get? b=some o:=fun b o hb e=>by rw[<-hh₂];exact aQ _ (hs₁.extBut b o hb e)
 show wpAny _ _ (Builtin.Dict_items.ownedTupleIsFree (.ref it) >>= _) _ _ ⟨h₂,g,dr,tk,os⟩;rw[hz₁];clear hh₂ he₁ hs₁ hT₁ hz₁ h₁;refine aA ?_;unfold Builtin.Dict_items.ownedTupleIsFree;refine aA (wpAny_field he₂ rfl (x:=.none) rfl (aF ?_));simp only[if_true];refine aA (wpAny_field he₂ rfl (x:=ok) rfl (aA (wpAny_field he₂ rfl (x:=ov) rfl (aA (wpAny_setField_rec he₂ (by simp) fun h₃ he₃ hs₃=>?_)))))
 replace hs₃:Heap.SameBut it h₂ h₃:=hs₃;replace he₃:IsItemIter h₃ it d (i+1) es.size ep es[i].key ov:=he₃;refine aA (wpAny_setField_rec he₃ (by simp) fun h₄ he₄ hs₄=>?_)
 replace hs₄:Heap.SameBut it h₃ h₄:=hs₄;replace he₄:IsItemIter h₄ it d (i+1) es.size ep es[i].key es[i].val:=he₄;refine aA (wpAny_setField_rec he₄ (by simp) fun h₅ he₅ hs₅=>?_)
 replace hs₅:Heap.SameBut it h₄ h₅:=hs₅;replace he₅:IsItemIterOut h₅ it d (i+1) es.size ep es[i].key es[i].val hp.objs.size:=he₅;refine aA (wpAny_setField_rec he₅ (by simp) fun h₆ he₆ hs₆=>?_)
 replace hs₆:Heap.SameBut it h₅ h₆:=hs₆;replace he₆:IsItemIterOut h₆ it d (i+1) es.size ep es[i].key es[i].val hp.objs.size:=he₆;have go:∀ b o,b≠it->h₂.get? b=some o->h₆.get? b=some o:=fun b o hb e=>hs₆.extBut b o hb (hs₅.extBut b o hb (hs₄.extBut b o hb (hs₃.extBut b o hb e)))
 exact aA (wpAny_letGo (aF (aF ⟨_,rfl,aF (hQ h₆ he₆ (go _ _ hil ht₂) fun b o hb e=>go b o hb (hk₂ b o hb e))⟩)))
theorem ZdB{it:Ad}{ok ov:vL}(hh:A.handled=none)(hit:IsItemIter s.heap it d es.size es.size ep ok ov)(hm:Raw s.heap d es ep)(hQ:∀ h',Heap.ExtBut it s.heap h'->Q none { s with heap:=h' }):wpAny (model prog w) A (pyNext (.ref it)) Q E s:=by
 obtain⟨od,hod,hcd,hdd⟩:=id hm;have hT:s.TypeIs (.ref it) "dict_itemiterator":=⟨_,hit,rfl⟩;unfold pyNext;refine aA (wpAny_attempt (wpAny_callSpecial?_slot (name:=Str.ofString "__next__") hT F.slot_dict_itemiterator_next (wpAny_call_entry F.slot_dict_itemiterator_next hT F.entry_dict_itemiterator_next ?_ (F.args_dict_itemiterator_next_1 _))));refine aA (aF (aA (aA ?_)))
 refine aA (wpAny_typeNameOfWhole_itemiter hT (aF (aA (wpAny_fieldsOf hit rfl ?_))));simp only[Ut,if_true];show wpAny _ _ (if (Value.ref d==Value.none)=true then _ else _) _ _ s
 rw[if_neg (show ¬((Value.ref d==Value.none)=true) from bF7)];refine aA (aF (aA (wpAny_dictEntries hod hdd ?_)));rw[if_neg (by simp)]
 refine aA (aF (aA (wpAny_dictEpoch hod hdd ?_)));rw[if_neg (by simp)]
 refine aF ?_;simp only[show ¬((es.size:Int) < 0) from by omega,if_false,aZ,Array.getElem?_eq_none (aD es.size)]
 refine aA (aA (wpAny_typeNameOfWhole_itemiter hT (aF ?_)));show wpAny _ _ (setField (.ref it) 2 .none >>= _) _ _ s;refine aA (wpAny_setField hit rfl (by simp) ?_)
 show wpAny _ _ (newExc (.type "StopIteration") [] >>= _) _ _ _;refine aA ?_;simp only[newExc,newTuple];refine aA (wpAny_newObj_type ?_ (by size_fits))
 refine aA (m:=firstArgMember _ _) (wpAny_of_eq (a:=Value.none) (by first|rfl | (simp only[firstArgMember];rfl)) (wpAny_newObj_type ?_ (by size_fits)))
 simp only[raiseNew];refine aA (wpAny_handled ?_);rw[show A.in1.handled=none from hh];refine aA (aF (wpAny_throw ?_));exact aA (wpAny_isInstance (T := "StopIteration") (b:=true) ⟨_,bA _ rfl,rfl⟩ isSubtype_stop (aF (hQ _ (((Heap.SameBut.update ..).extBut.push _).push _))))
end
end Dp


namespace Dp
open PySem PySem.Spec PyProof.Rows L2
class ClsTab where
 ca:Nat->Addr
variable [ClsTab]

variable{X:Cx}{e:Expr}
theorem Zq{t t':TE}(h:PE X e t)(i:∀ σ H Q,t' σ H Q->t σ H Q):PE X e t':=fun pQ s σ H Q I q=>h pQ s σ H Q I (i σ H Q q)
theorem Ws{t t':TT}(h:PT X e t)(i:∀ σ H Q,t' σ H Q->t σ H Q):PT X e t':=fun pQ s σ H Q I q=>h pQ s σ H Q I (i σ H Q q)
theorem Zaq{e:Li Expr}{t t':TA}(h:PA X e t)(i:∀ σ H Q,t' σ H Q->t σ H Q):PA X e t':=fun pos pQ s σ H Q I q=>h pos pQ s σ H Q I (i σ H Q q)
theorem Zas{e:Ot Expr}{t t':TO}(h:PO X e t)(i:∀ σ H Q,t' σ H Q->t σ H Q):PO X e t':=fun pQ s σ H Q I q=>h pQ s σ H Q I (i σ H Q q)
theorem Zt{e:Stmt}{t t':TS}(h:PS X e t)(i:∀ D σ H,t' D σ H->t D σ H):PS X e t':=fun pQ s σ H D I q=>h pQ s σ H D I (i D σ H q)
theorem Qd{e:Li Stmt}{t t':TS}(h:PSs X e t)(i:∀ D σ H,t' D σ H->t D σ H):PSs X e t':=fun pQ s σ H D I q=>h pQ s σ H D I (i D σ H q)

def KT(K:fG7)(a:Ad)(xs:Li V):Prop:=
 ∃ (o:Obj) (its:Array vL) (n:Nat),K.lookup a=some o/\o.cls=.type "tuple"/\o.data=.seq its n/\its.size<=sizeLine/\Vals xs its.toList
def TupAt(K:fG7)(H:Hp)(a:Ad)(xs:Li V):Prop:=H a=some (.tup xs)\/KT K a xs
variable{K:fG7}{H:Hp}
theorem TupAt.sq{a:Ad}{xs:Li V}(h:TupAt K H a xs):SqT K H a xs:=by
 rcases h with h|h
 ·exact .inl (.inl h)
 ·exact .inr h
noncomputable def isM:HO->Bool
 |.dN _=>true
 |.ins _ _ _=>true
 |_=>false
def Z0(H:Hp)(a:Ad):Prop:=∃ o,H a=some o/\isM o=true
def LA(ad:Li Ad)(H:Hp)(i:Nat)(a:Ad):Prop:=ad[i]?=some a/\¬Z0 H a
variable{o:HO}
theorem W6{a:Ad}(h:H a=some o)(n:isM o=false):¬Z0 H a:=fun⟨o',z,m⟩=>by rw[h]at z;cases z;rw[n]at m;cases m
mutual
inductive Den(K:fG7)(ad:List Addr)(H:Hp):V->D->Prop where
 |non:Den K ad H .non .non
 |bl (b:Bool):Den K ad H (.bl b) (.bl b)
 |int (i:Int):Den K ad H (.int i) (.int i)
 |str (x:Str):Den K ad H (.str x) (.str x)
 |tup {a:Addr}{xs:List V}{ds:List D} (h:TupAt K H a xs) (r:Dens K ad H xs ds):Den K ad H (.ref a) (.tup ds)
 |lst {a:Addr}{i:Nat} (h:LA ad H i a):Den K ad H (.ref a) (.lst i)
 |dic {a:Addr}{i:Nat} (h:ad[i]?=some a) (n:Z0 H a):Den K ad H (.ref a) (.dic i)
 |obj {a dx:Addr}{i:Nat} (h:H a=some (.ins (ClsTab.ca i) dx [])) (n:a∉ad):Den K ad H (.ref a) (.obj i)
 |kt {a:Addr}{ks:List Str}{o:Obj}{its:Array Value}{n:Nat} (l:K.lookup a=some o) (c:o.cls=.type "tuple") (g:o.dict=none) (e:o.data=.seq its n) (z:its.size<=sizeLine) (r:Vals (ks.map V.str) its.toList):Den K ad H (.ref a) (.kt ks)
inductive Dens(K:fG7)(ad:List Addr)(H:Hp):List V->List D->Prop where
 |nil:Dens K ad H [] []
 |cons {v:V}{d:D}{vs:List V}{ds:List D} (h:Den K ad H v d) (r:Dens K ad H vs ds):Dens K ad H (v :: vs) (d :: ds)
end

structure Ext(ad:List Addr)(H:Hp)(ad':List Addr)(H':Hp):Prop where
 pre:∀ (i:Nat) (a:Addr),ad[i]?=some a->ad'[i]?=some a
 tup:∀ b xs,H b=some (.tup xs)->H' b=some (.tup xs)
 keep:∀ b o,H b=some o->b∉ad->H' b=some o
 new:∀ b,b∈ad'->b∈ad\/H b=none
 kd:∀ (i:Nat) (a:Addr),ad[i]?=some a->(Z0 H a↔Z0 H' a)
theorem Ext.refl(ad:Li Ad)(H:Hp):Ext ad H ad H:=⟨fun _ _ h=>h,fun _ _ h=>h,fun _ _ h _=>h,fun _ h=>.inl h,fun _ _ _=>Iff.rfl⟩
theorem Ext.trans{a1 a2 a3:Li Ad}{H1 H2 H3:Hp}(x:Ext a1 H1 a2 H2)(y:Ext a2 H2 a3 H3):Ext a1 H1 a3 H3:=by
 refine⟨fun i a h=>y.pre i a (x.pre i a h),fun b xs h=>y.tup b xs (x.tup b xs h),fun b o h n=>?_,fun b h=>?_,fun i a h=>(x.kd i a h).trans (y.kd i a (x.pre i a h))⟩
 ·refine y.keep b o (x.keep b o h n) fun z=>?_
  rcases x.new b z with z|z
  ·exact n z
  ·rw[h]at z;cases z
 ·rcases y.new b h with z|z
  ·exact x.new b z
  ·cases e:H1 b with
   |none=>exact .inr rfl
   |some o=>
    by_cases q:b∈a1
    ·exact .inl q
    ·rw[x.keep b o e q]at z;cases z

variable{ad':Li Ad}{H':Hp}
theorem TupAt.mono{ad:Li Ad}{a:Ad}{xs:Li V}(x:Ext ad H ad' H')(h:TupAt K H a xs):TupAt K H' a xs:=h.imp (x.tup _ _) id
theorem TupAt.upd{K:fG7}{H:Hp}{a p:Ad}{xs:Li V}{o o':HO}(hp:H p=some o)(ho:∀ xs,o≠.tup xs)(h:TupAt K H a xs):TupAt K (upd H p o') a xs:=by
 rcases h with h|h
 ·refine .inl ?_
  have n:a≠p:=fun z=>by subst z;rw[h]at hp;cases hp;exact ho _ rfl
  rw[upd_ne n];exact h
 ·exact .inr h
variable{d:D}{vs ys:Li V}{ds es:Li D}{ks:Li Str}{i j:Nat}{kvs:Li (Str×V)}{xs:Li (D×Ad×Ad)}{st:Za}{p:Ad}{α:Type}{o':HO}{σ:L2.St}{ρ:Env}
section
variable {K:fG7}{ad ad':Li Ad}{H H':Hp}
structure Keeps(K:fG7)(ad ad':List Addr)(H H':Hp):Prop where
 t:∀ {a xs},TupAt K H a xs->TupAt K H' a xs
 l:∀ {i:Nat}{a:Addr},ad[i]?=some a->ad'[i]?=some a/\(Z0 H a↔Z0 H' a)
 o:∀ {a C dx},H a=some (.ins C dx [])->a∉ad->H' a=some (.ins C dx [])/\a∉ad'
theorem Den.map(x:Keeps K ad ad' H H'){v:V}(h:Den K ad H v d):Den K ad' H' v d:=
 Den.rec (motive_1:=fun v d _=>Den K ad' H' v d) (motive_2:=fun vs ds _=>Dens K ad' H' vs ds) .non .bl .int .str (fun h _ r=>.tup (x.t h) r) (fun h=>.lst ⟨(x.l h.1).1,fun z=>h.2 ((x.l h.1).2.mpr z)⟩) (fun h n=>.dic (x.l h).1 ((x.l h).2.mp n)) (fun h n=>.obj (x.o h n).1 (x.o h n).2) .kt .nil (fun _ _ a b=>.cons a b) h
theorem Dens.map(x:Keeps K ad ad' H H')(h:Dens K ad H vs ds):Dens K ad' H' vs ds:=
 Dens.rec (motive_1:=fun _ _ _=>True) (motive_2:=fun vs ds _=>Dens K ad' H' vs ds) trivial (fun _=>trivial) (fun _=>trivial) (fun _=>trivial) (fun _ _ _=>trivial) (fun _=>trivial) (fun _ _=>trivial) (fun _ _=>trivial) (fun _ _ _ _ _ _=>trivial) .nil (fun a _ _ b=>.cons (a.map x) b) h
theorem Ext.keeps(x:Ext ad H ad' H'):Keeps K ad ad' H H':=⟨fun h=>h.mono x,fun h=>⟨x.pre _ _ h,x.kd _ _ h⟩,fun h n=>⟨x.keep _ _ h n,fun z=>(x.new _ z).elim n fun q=>by rw[h]at q;cases q⟩⟩
theorem Den.mono(x:Ext ad H ad' H'){v:V}(h:Den K ad H v d):Den K ad' H' v d:=h.map x.keeps
theorem Dens.mono(x:Ext ad H ad' H')(h:Dens K ad H vs ds):Dens K ad' H' vs ds:=h.map x.keeps
theorem ZdQ(x:∀ (i:Nat) (a:Ad),ad[i]?=some a->ad'[i]?=some a)(y:∀ b,b∈ad'->b∈ad\/∃ xs,H b=some (.lst xs)):Keeps K ad ad' H H:=⟨id,fun h=>⟨x _ _ h,Iff.rfl⟩,fun h n=>⟨h,fun z=>(y _ z).elim n fun⟨xs,q⟩=>by rw[h]at q;cases q⟩⟩
theorem Dens.length:∀ {vs:Li V}{ds:Li D},Dens K ad H vs ds->vs.length=ds.length
 |_,_,.nil=>rfl
 |_,_,.cons _ r=>congrArg (·+1) (Dens.length r)
theorem Dens.get:∀ {vs:Li V}{ds:Li D}{i:Nat}{d:D},Dens K ad H vs ds->ds[i]?=some d->∃ v,vs[i]?=some v/\Den K ad H v d
 |_,_,_,_,.nil,e=>by simp at e
 |_,_,0,_,.cons h _,e=>by simp at e;subst e;exact⟨_,rfl,h⟩
 |_,_,i+1,d,.cons _ r,e=>by
  obtain⟨v,h1,h2⟩:=Dens.get (i:=i) (d:=d) r (by simpa using e)
  exact⟨v,by simpa using h1,h2⟩
theorem Dens.append:∀ {vs ws:Li V}{ds es:Li D},Dens K ad H vs ds->Dens K ad H ws es->Dens K ad H (vs++ws) (ds++es)
 |_,_,_,_,.nil,s=>s
 |_,_,_,_,.cons h r,s=>.cons h (Dens.append r s)
theorem Dens.take:∀ {vs:Li V}{ds:Li D} (n:Nat),Dens K ad H vs ds->Dens K ad H (vs.take n) (ds.take n)
 |_,_,0,_=>.nil
 |_,_,_+1,.nil=>.nil
 |_,_,n+1,.cons h r=>.cons h (Dens.take n r)
theorem Dens.drop:∀ {vs:Li V}{ds:Li D} (n:Nat),Dens K ad H vs ds->Dens K ad H (vs.drop n) (ds.drop n)
 |_,_,0,r=>r
 |_,_,_+1,.nil=>.nil
 |_,_,n+1,.cons _ r=>Dens.drop n r
theorem Dens.set{v:V}(h:Den K ad H v d):∀ {vs:Li V}{ds:Li D} (n:Nat),Dens K ad H vs ds->Dens K ad H (vs.set n v) (ds.set n d)
 |_,_,_,.nil=>.nil
 |_,_,0,.cons _ r=>.cons h r
 |_,_,n+1,.cons q r=>.cons q (Dens.set h n r)
theorem Dens.rep{v:V}(h:Den K ad H v d):∀ n:Nat,Dens K ad H (List.replicate n v) (List.replicate n d)
 |0=>.nil
 |n+1=>.cons h (Dens.rep h n)
theorem Den.ofInt{v:V}{i:Int}(h:Den K ad H v (.int i)):v=.int i:=by cases h;rfl
theorem Den.ofStr{v:V}{x:Str}(h:Den K ad H v (.str x)):v=.str x:=by cases h;rfl
theorem Den.ofBl{v:V}{b:Bool}(h:Den K ad H v (.bl b)):v=.bl b:=by cases h;rfl
theorem Den.ofNon{v:V}(h:Den K ad H v .non):v=.non:=by cases h;rfl
theorem Den.ofDct{v:V}(h:Den K ad H v (.dct ks ds)):∃ a vs,v=.ref a/\H a=some (.dK ((ks.zip vs).map fun p=>(Sum.inr p.1,p.2)))/\ks.length=vs.length/\Dens K ad H vs ds:=by
 cases h
theorem Den.ofTup{v:V}(h:Den K ad H v (.tup ds)):∃ a xs,v=.ref a/\TupAt K H a xs/\Dens K ad H xs ds:=by
 cases h with
 |tup h r=>exact⟨_,_,rfl,h,r⟩
theorem Den.ofLst{v:V}(h:Den K ad H v (.lst i)):∃ a,v=.ref a/\LA ad H i a:=by
 cases h with
 |lst h=>exact⟨_,rfl,h⟩
theorem Den.ofDic{v:V}(h:Den K ad H v (.dic i)):∃ a,v=.ref a/\ad[i]?=some a/\Z0 H a:=by
 cases h with
 |dic h n=>exact⟨_,rfl,h,n⟩
theorem Den.newL{a:Ad}{xs:Li V}(h:ad[i]?=some a):Den K ad (upd H a (.lst xs)) (.ref a) (.lst i):=.lst ⟨h,W6 upd_same rfl⟩
theorem LA.mono{a:Ad}(x:Ext ad H ad' H')(h:LA ad H i a):LA ad' H' i a:=⟨x.pre _ _ h.1,fun z=>h.2 ((x.kd _ _ h.1).mpr z)⟩

theorem Den.ofKt{v:V}(h:Den K ad H v (.kt ks)):∃ a o its n,v=.ref a/\K.lookup a=some o/\(o.cls=.type "tuple"/\o.dict=none)/\o.data=.seq its n/\its.size<=sizeLine/\Vals (ks.map V.str) its.toList:=by
 cases h with
 |kt l c g e z r=>exact⟨_,_,_,_,rfl,l,⟨c,g⟩,e,z,r⟩
theorem WI:∀ ks:Li Str,Dens K ad H (ks.map V.str) (ks.map D.str)
 |[]=>.nil
 |k :: ks=>.cons (.str k) (WI ks)
theorem Den.ofObj{v:V}(h:Den K ad H v (.obj i)):∃ a dx,v=.ref a/\H a=some (.ins (ClsTab.ca i) dx []):=by
 cases h with
 |obj h n=>exact⟨_,_,rfl,h⟩

def KL(K:fG7)(a:Ad)(xs:Li V):Prop:=
 ∃ (o:Obj) (its:Array vL) (n:Nat),(K.lookup a=some o/\o.cls=.type "list")/\(o.dict=none/\o.data=.seq its n)/\its.size<=sizeLine/\Vals xs its.toList
inductive Ents(K:fG7)(ad:List Addr)(H:Hp):List (Str×V)->List D->Prop where
 |nil:Ents K ad H [] []
 |cons {k:Str}{v:V}{d:D}{kvs:List (Str×V)}{ds:List D} (h:Den K ad H v d) (r:Ents K ad H kvs ds):Ents K ad H ((k,v) :: kvs) (.tup [.str k,d] :: ds)
theorem Ents.map(x:Keeps K ad ad' H H')(h:Ents K ad H kvs ds):Ents K ad' H' kvs ds:=by
 induction h with
 |nil=>exact .nil
 |cons h _ ih=>exact .cons (h.map x) ih
theorem Ents.mono(x:Ext ad H ad' H')(h:Ents K ad H kvs ds):Ents K ad' H' kvs ds:=h.map x.keeps
inductive EntN(K:fG7)(ad:List Addr)(H:Hp):List (D×Addr×Addr)->List D->Prop where
 |nil:EntN K ad H [] []
 |cons {k d:D}{ka va:Addr}{xs:List (D×Addr×Addr)}{ds:List D} (h:Den K ad H (.ref ka) k) (ok:okN 8 k=true) (v:Den K ad H (.ref va) d) (r:EntN K ad H xs ds):EntN K ad H ((k,ka,va) :: xs) (.tup [k,d] :: ds)
noncomputable def Yj(xs:Li (D×Ad×Ad)):World->Li DictEntry:=fun w=>xs.map fun x=>⟨YK w 8 x.1,.ref x.2.1,.ref x.2.2⟩
theorem EntN.map(x:Keeps K ad ad' H H')(h:EntN K ad H xs ds):EntN K ad' H' xs ds:=by
 induction h with
 |nil=>exact .nil
 |cons h ok v _ ih=>exact .cons (h.map x) ok (v.map x) ih
theorem EntN.mono(x:Ext ad H ad' H')(h:EntN K ad H xs ds):EntN K ad' H' xs ds:=h.map x.keeps
theorem EntN.dict(h:EntN K ad H xs ds):Y7 ds=false:=by cases h<;>rfl
structure ObC(K:fG7)(C:Addr):Prop where
 cl:Cls K C
 na:∀ f,fldNames.contains f=true->NoAttr K C f
inductive CellOk(K:fG7)(ad:List Addr)(H:Hp)(a:Addr)(c:Z4):Prop where
 |l {xs:List V} (n:¬Z0 H a) (r:Dens K ad H xs c.2) (h:(c.1=true/\H a=some (.lst xs))\/(c.1=false/\((∃ o,H a=some (.frz o (.lst xs)))\/KL K a xs)))
 |d {xs:List (D×Addr×Addr)} (r:EntN K ad H xs c.2) (e:c.1=true) (h:H a=some (.dN (Yj xs))) (n:(xs.map (·.1)).Nodup)
 |o {i:Nat}{dx:Addr}{kvs:List (Str×V)}{es:List D} (q:c.2=.int (i:Int) :: es) (r:Ents K ad H kvs es) (e:c.1=true) (h:H a=some (.ins (ClsTab.ca i) dx kvs)) (oc:ObC K (ClsTab.ca i)/\∀ k,fldNames.contains k=false->kvs.lookup k=none)
structure StOk(K:fG7)(ad:List Addr)(H:Hp)(st:Za):Prop where
 len:ad.length=st.length
 nd:∀ (i j:Nat) (a:Addr) (c d:List D),ad[i]?=some a->ad[j]?=some a->st[i]?=some (true,c)->st[j]?=some (true,d)->i=j
 cell:∀ (i:Nat) (c:Z4),st[i]?=some c->∃ a,ad[i]?=some a/\CellOk K ad H a c

theorem CellOk.sq{a:Ad}{c:Z4}(h:CellOk K ad H a c)(n:¬Z0 H a):∃ xs,Dens K ad H xs c.2/\SqL K H a xs:=by
 cases h with
 |l _ r h=>
  obtain⟨_,e⟩|⟨_,⟨o,e⟩|⟨o,its,n,⟨h1,h2⟩,⟨h3,h4⟩,h5,h6⟩⟩:=h
  ·exact⟨_,r,.inl (.inl e)⟩
  ·exact⟨_,r,.inl (.inr ⟨o,e⟩)⟩
  ·exact⟨_,r,.inr ⟨o,its,n,h1,h2,h3,h4,h5,h6⟩⟩
 |d r e h _=>exact absurd ⟨_,h,rfl⟩ n
 |o _ r e h _=>exact absurd ⟨_,h,rfl⟩ n
theorem StOk.list{a:Ad}{b:Bool}(S:StOk K ad H st)(h:LA ad H i a)(e:st[i]?=some (b,ds)):∃ xs,Dens K ad H xs ds/\SqL K H a xs:=by
 obtain⟨a',e',c⟩:=S.cell i _ e;rw[h.1]at e';cases e'
 exact c.sq h.2
theorem StOk.listM{a:Ad}(S:StOk K ad H st)(h:LA ad H i a)(e:st[i]?=some (true,ds)):∃ xs,Dens K ad H xs ds/\H a=some (.lst xs):=by
 obtain⟨a',e',c⟩:=S.cell i _ e;rw[h.1]at e';cases e'
 cases c with
 |l _ r q=>
  obtain⟨_,q⟩|⟨q,_⟩:=q
  ·exact⟨_,r,q⟩
  ·cases q
 |d r _ q _=>exact absurd ⟨_,q,rfl⟩ h.2
 |o _ r _ q _=>exact absurd ⟨_,q,rfl⟩ h.2
theorem StOk.dict{a:Ad}{b:Bool}(S:StOk K ad H st)(h:ad[i]?=some a)(n:Z0 H a)(e:st[i]?=some (b,ds))(ob:Y7 ds=false):∃ xs,(EntN K ad H xs ds/\(xs.map (·.1)).Nodup)/\H a=some (.dN (Yj xs))/\b=true:=by
 obtain⟨a',e',c⟩:=S.cell i _ e;rw[h]at e';cases e'
 cases c with
 |l z=>exact absurd n z
 |d r e q n=>exact⟨_,⟨r,n⟩,q,e⟩
 |o q _ _ _ _=>rw[show ds=_ from q]at ob;cases ob
theorem StOk.obj{a:Ad}{b:Bool}{c:Int}(S:StOk K ad H st)(h:ad[i]?=some a)(n:Z0 H a)(e:st[i]?=some (b,.int c :: es)):∃ (j:Nat) (dx:Ad) (kvs:Li (Str×V)),c=(j:Int)/\Ents K ad H kvs es/\H a=some (.ins (ClsTab.ca j) dx kvs)/\b=true/\ObC K (ClsTab.ca j)/\∀ k,fldNames.contains k=false->kvs.lookup k=none:=by
 obtain⟨a',e',c⟩:=S.cell i _ e;rw[h]at e';cases e'
 cases c with
 |l z=>exact absurd n z
 |d r e q _=>have:=r.dict;cases this
 |o q r e h oc=>cases q;exact⟨_,_,_,rfl,r,h,e,oc⟩
theorem UF{a:Ad}(hp:¬Z0 H p)(ho:isM o=false):Z0 H a↔Z0 (upd H p o) a:=by
 by_cases z:a=p
 ·subst z
  exact⟨fun q=>absurd q hp,fun q=>absurd q (W6 upd_same ho)⟩
 ·unfold Z0
  rw[upd_ne z]
theorem U7(hp:H p=none):¬Z0 H p:=fun⟨_,z,_⟩=>by rw[hp]at z;cases z
theorem Ext.laid(hp:H p=none)(ho:isM o=false:=by rfl):Ext ad H ad (upd H p o):=
 ⟨fun _ _ h=>h,fun b xs h=>by rw[upd_ne (ne_of_none h hp)];exact h,fun b o h _=>by rw[upd_ne (ne_of_none h hp)];exact h,fun _ h=>.inl h,fun _ _ _=>UF (U7 hp) ho⟩
theorem CellOk.laid{a:Ad}{c:Z4}(ha:ad[i]?=some a)(hp:H p=none)(x:Ext ad H ad' (upd H p o))(h:CellOk K ad H a c):CellOk K ad' (upd H p o) a c:=by
 cases h with
 |l n r h=>
  refine .l (fun z=>n ((x.kd i a ha).mpr z)) (r.mono x) ?_
  rcases h with⟨b,e⟩|⟨b,⟨o,e⟩|e⟩
  ·exact .inl ⟨b,by rw[upd_ne (ne_of_none e hp)];exact e⟩
  ·exact .inr ⟨b,.inl ⟨o,by rw[upd_ne (ne_of_none e hp)];exact e⟩⟩
  ·exact .inr ⟨b,.inr e⟩
 |d r e h n=>exact .d (r.mono x) e (by rw[upd_ne (ne_of_none h hp)];exact h) n
 |o q r e h oc=>exact .o q (r.mono x) e (by rw[upd_ne (ne_of_none h hp)];exact h) oc
theorem StOk.laid(S:StOk K ad H st)(hp:H p=none)(ho:isM o=false:=by rfl):StOk K ad (upd H p o) st:=
 ⟨S.len,S.nd,fun i c e=>let ⟨a,h,q⟩:=S.cell i c e;⟨a,h,q.laid h hp (Ext.laid hp ho)⟩⟩
theorem Ext.laidN(hp:H p=none)(hn:p∉ad):Ext ad H ad (upd H p o):=
 ⟨fun _ _ h=>h,fun b xs h=>by rw[upd_ne (ne_of_none h hp)];exact h,fun b o h _=>by rw[upd_ne (ne_of_none h hp)];exact h,fun _ h=>.inl h,fun i a h=>by
  unfold Z0;rw[upd_ne (show a≠p from fun z=>hn (z ▸ aV h))]⟩
theorem StOk.laidN(S:StOk K ad H st)(hp:H p=none)(hn:p∉ad):StOk K ad (upd H p o) st:=
 ⟨S.len,S.nd,fun i c e=>let ⟨a,h,q⟩:=S.cell i c e;⟨a,h,q.laid h hp (Ext.laidN hp hn)⟩⟩
theorem Xs{l:Li α}{x y:α}(h:(l++[x])[i]?=some y):l[i]?=some y\/(i=l.length/\y=x):=by
 by_cases hi:i < l.length
 ·rw[bS hi]at h
  exact .inl h
 ·rw[cB (by omega)]at h
  have:i - l.length=0:=by
   cases e:i - l.length with
   |zero=>rfl
   |succ k=>rw[e]at h;simp at h
  rw[this]at h;simp at h;exact .inr ⟨by omega,h.symm⟩
theorem Y0{l:Li α}{x y:α}(h:l[i]?=some y):(l++[x])[i]?=some y:=by
 rw[bS (bE.mp h).1];exact h
theorem ZA{l:Li α}{x:α}:(l++[x])[l.length]?=some x:=by simp
theorem Ext.pushG(hp:H p=none)(hk:∀ (i:Nat) (a:Ad),ad[i]?=some a->(Z0 H a↔Z0 (upd H p o) a)):Ext ad H (ad++[p]) (upd H p o):=
 ⟨fun _ _ h=>Y0 h,fun b xs h=>by rw[upd_ne (ne_of_none h hp)];exact h,fun b o h _=>by rw[upd_ne (ne_of_none h hp)];exact h,fun b h=>(bI.mp h).elim .inl fun z=>.inr (by rw[aP.mp z];exact hp),hk⟩
theorem Ext.push{xs:Li V}(hp:H p=none):Ext ad H (ad++[p]) (upd H p (.lst xs)):=Ext.pushG hp fun _ _ _=>UF (U7 hp) rfl
theorem StOk.more(S:StOk K ad H st)(hn:∀ (i:Nat) (c:Li D),ad[i]?=some p->st[i]?=some (true,c)->False)(hc:∀ (i:Nat) (c:Z4) (a:Ad),ad[i]?=some a->CellOk K ad H a c->CellOk K (ad++[p]) H' a c)(hp:CellOk K (ad++[p]) H' p (true,ds)):StOk K (ad++[p]) H' (st++[(true,ds)]):=by
 have old:∀ (i:Nat) (c:Li D) (a:Ad),(ad++[p])[i]?=some a->st[i]?=some (true,c)->ad[i]?=some a:=fun i c a h e=>by
  obtain⟨a1,q1,_⟩:=S.cell i _ e;have z1:=Y0 (x:=p) q1;rw[h]at z1;cases z1;exact q1
 refine⟨by rw[aI,aI,S.len];rfl,fun i j a c d h1 h2 h3 h4=>?_,fun i c e=>?_⟩
 ·rcases Xs h3 with h3|⟨e3,_⟩
  ·rcases Xs h4 with h4|⟨e4,_⟩
   ·exact S.nd i j a c d (old i c a h1 h3) (old j d a h2 h4) h3 h4
   ·have q1:=old i c a h1 h3
    rw[e4,<-S.len,ZA]at h2;cases h2;exact(hn i c q1 h3).elim
  ·rcases Xs h4 with h4|⟨e4,_⟩
   ·have q2:=old j d a h2 h4
    rw[e3,<-S.len,ZA]at h1;cases h1;exact(hn j d q2 h4).elim
   ·omega
 ·rcases Xs e with e|⟨e1,e2⟩
  ·obtain⟨a,h,q⟩:=S.cell i c e
   exact⟨a,Y0 h,hc i c a h q⟩
  ·subst e2
   exact⟨p,by rw[e1,<-S.len];exact ZA,hp⟩
theorem StOk.noNew(S:StOk K ad H st)(hp:H p=none)(i:Nat)(c:Li D)(h:ad[i]?=some p)(e:st[i]?=some (true,c)):False:=by
 obtain⟨a',e',q⟩:=S.cell i _ e;rw[h]at e';cases e'
 cases q with
 |l _ _ q=>
  obtain⟨_,q⟩|⟨q,_⟩:=q
  ·rw[hp]at q;cases q
  ·cases q
 |d _ _ q _=>rw[hp]at q;cases q
 |o _ _ _ q _=>rw[hp]at q;cases q
theorem StOk.push{xs:Li V}(S:StOk K ad H st)(hp:H p=none)(r:Dens K ad H xs ds):StOk K (ad++[p]) (upd H p (.lst xs)) (st++[(true,ds)]):=
 S.more (S.noNew hp) (fun _ _ _ h q=>q.laid h hp (Ext.push hp)) (.l (W6 upd_same rfl) (r.mono (Ext.push hp)) (.inl ⟨rfl,upd_same⟩))
theorem StOk.wrG(S:StOk K ad H st)(kp:Keeps K ad ad H (upd H p o))(hn:p∉ad):StOk K ad (upd H p o) st:=
 ⟨S.len,S.nd,fun i c e=>by
  obtain⟨a,h,q⟩:=S.cell i c e;have ne:a≠p:=fun z=>hn (by rw[<-z];exact aV h)
  refine⟨a,h,?_⟩;cases q with
  |l n r q=>
   refine .l (fun z=>n ((kp.l h).2.mpr z)) (r.map kp) ?_
   rcases q with⟨b,q⟩|⟨b,⟨o,q⟩|q⟩
   ·exact .inl ⟨b,by rw[upd_ne ne];exact q⟩
   ·exact .inr ⟨b,.inl ⟨o,by rw[upd_ne ne];exact q⟩⟩
   ·exact .inr ⟨b,.inr q⟩
  |d r t q n=>exact .d (r.map kp) t (by rw[upd_ne ne];exact q) n
  |o z r t q oc=>exact .o z (r.map kp) t (by rw[upd_ne ne];exact q) oc⟩
theorem StOk.has{a:Ad}(S:StOk K ad H st)(hi:ad[i]?=some a):(∃ o,H a=some o)\/∃ o,K.lookup a=some o:=by
 obtain⟨a',e',q⟩:=S.cell i _ (lG7 (show i < st.length by rw[<-S.len];exact(bE.mp hi).1))
 rw[hi]at e';cases e'
 cases q with
 |l _ _ q=>
  obtain⟨_,q⟩|⟨_,⟨o,q⟩|⟨o,its,m,⟨h1,h2⟩,_⟩⟩:=q
  ·exact .inl ⟨_,q⟩
  ·exact .inl ⟨_,q⟩
  ·exact .inr ⟨_,h1⟩
 |d _ _ q _=>exact .inl ⟨_,q⟩
 |o _ _ _ q _=>exact .inl ⟨_,q⟩
theorem StOk.extD{o:HO}(S:StOk K ad H st)(hp:H p=none)(hk:∀ o,K.lookup p≠some o):Ext ad H (ad++[p]) (upd H p o):=
 Ext.pushG hp fun i a h=>by
  have n:a≠p:=fun z=>(S.has h).elim (fun⟨o,q⟩=>by rw[z,hp]at q;cases q) fun⟨o,q⟩=>hk o (z ▸ q)
  unfold Z0;rw[upd_ne n]
theorem StOk.pushD(S:StOk K ad H st)(hp:H p=none)(hk:∀ o,K.lookup p≠some o):StOk K (ad++[p]) (upd H p (.dN (Yj []))) (st++[(true,[])]):=
 S.more (S.noNew hp) (fun _ _ _ h q=>q.laid h hp (S.extD hp hk)) (.d .nil rfl upd_same dF)
theorem StOk.pushO{dx:Ad}(S:StOk K ad H st)(hp:H p=none)(hk:∀ o,K.lookup p≠some o)(oc:ObC K (ClsTab.ca i)):StOk K (ad++[p]) (upd H p (.ins (ClsTab.ca i) dx [])) (st++[(true,[.int (i:Int)])]):=
 S.more (S.noNew hp) (fun _ _ _ h q=>q.laid h hp (S.extD hp hk)) (.o rfl .nil rfl upd_same ⟨oc,fun _ _=>rfl⟩)
theorem StOk.adopt{xs:Li V}(S:StOk K ad H st)(hp:H p=some (.lst xs))(hn:p∉ad)(r:Dens K ad H xs ds):StOk K (ad++[p]) H (st++[(true,ds)]):=by
 have kp:Keeps K ad (ad++[p]) H H:=ZdQ (fun _ _ h=>Y0 h) (fun b hb=>(bI.mp hb).imp id fun z=>⟨xs,by rw[aP.mp z];exact hp⟩)
 exact S.more (fun i _ h _=>hn (aV h)) (fun _ _ _ _ q=>by
  cases q with
  |l n r h=>exact .l n (r.map kp) h
  |d r e h n=>exact .d (r.map kp) e h n
  |o q r e h oc=>exact .o q (r.map kp) e h oc) (.l (W6 hp rfl) (r.map kp) (.inl ⟨rfl,hp⟩))
theorem Ext.writeG{a:Ad}(h:H a=some o)(ha:a∈ad)(h1:∀ xs,o≠.tup xs)(hk:Z0 H a↔Z0 (upd H a o') a):Ext ad H ad (upd H a o'):=
 ⟨fun _ _ h=>h,fun b zs e=>by rw[upd_ne (ne_of e h (fun z=>h1 _ z.symm))];exact e,fun b o e n=>by rw[upd_ne (show b≠a from fun z=>n (by rw[z];exact ha))];exact e,fun _ h=>.inl h,fun _ b _=>by
  by_cases z:b=a
  ·rw[z];exact hk
  ·unfold Z0;rw[upd_ne z]⟩
theorem Ext.write{a:Ad}{xs:Li V}(h:H a=some (.lst xs))(ha:a∈ad):Ext ad H ad (upd H a (.lst ys)):=
 Ext.writeG h ha (fun _ z=>nomatch z) ⟨fun z=>absurd z (W6 h rfl),fun z=>absurd z (W6 upd_same rfl)⟩
theorem StOk.writeG{a:Ad}(S:StOk K ad H st)(h:ad[i]?=some a)(e:st[i]?=some (true,ds))(hx:H a=some o)(hf:∀ q u,o≠.frz q u)(x:Ext ad H ad (upd H a o'))(r:CellOk K ad (upd H a o') a (true,es)) :
  StOk K ad (upd H a o') (st.set i (true,es)):=by
 have hi:i < st.length:=(bE.mp e).1;refine⟨by rw[aY];exact S.len,fun j k b c d h1 h2 h3 h4=>?_,fun j c q=>?_⟩
 ·have up:∀ (j:Nat) (c:Li D),(st.set i (true,es))[j]?=some (true,c)->∃ c',st[j]?=some (true,c'):=fun j c q=>by
   by_cases z:i=j
   ·subst z;exact⟨_,e⟩
   ·rw[bJ z]at q;exact⟨_,q⟩
  obtain⟨c',h3⟩:=up j c h3;obtain⟨d',h4⟩:=up k d h4;exact S.nd j k b c' d' h1 h2 h3 h4
 ·by_cases z:i=j
  ·subst z
   rw[cK hi]at q;cases q;exact⟨a,h,r⟩
  ·rw[bJ z]at q
   obtain⟨b,hb,hz⟩:=S.cell j c q;refine⟨b,hb,?_⟩;have ne:c.1=true->b≠a:=fun t w=>by
    obtain⟨cb,cl⟩:=c;cases (show cb=true from t)
    exact z (S.nd i j a ds cl h (w ▸ hb) e q)
   cases hz with
   |l n rz hz=>
    refine .l (fun z=>n ((x.kd j b hb).mpr z)) (rz.mono x) ?_
    rcases hz with⟨t,hz⟩|⟨t,⟨o,hz⟩|hz⟩
    ·exact .inl ⟨t,by rw[upd_ne (ne t)];exact hz⟩
    ·exact .inr ⟨t,.inl ⟨o,by rw[upd_ne (ne_of hz hx (fun z=>hf _ _ z.symm))];exact hz⟩⟩
    ·exact .inr ⟨t,.inr hz⟩
   |d rz t hz n=>exact .d (rz.mono x) t (by rw[upd_ne (ne t)];exact hz) n
   |o z rz t hz oc=>exact .o z (rz.mono x) t (by rw[upd_ne (ne t)];exact hz) oc
theorem StOk.write{a:Ad}{xs:Li V}(S:StOk K ad H st)(h:LA ad H i a)(e:st[i]?=some (true,ds))(hx:H a=some (.lst xs))(r:Dens K ad H ys es) :
  StOk K ad (upd H a (.lst ys)) (st.set i (true,es)):=
 S.writeG h.1 e hx (fun _ _ z=>nomatch z) (Ext.write hx (aV h.1)) (.l (W6 upd_same rfl) (r.mono (Ext.write hx (aV h.1))) (.inl ⟨rfl,upd_same⟩))
theorem Ext.writeM{a:Ad}(h:H a=some o)(m:isM o=true)(m':isM o'=true)(ha:a∈ad):Ext ad H ad (upd H a o'):=
 Ext.writeG h ha (fun _ z=>by rw[z]at m;cases m) ⟨fun _=>⟨_,upd_same,m'⟩,fun _=>⟨_,h,m⟩⟩
theorem StOk.writeD{a:Ad}{ys:Li (D×Ad×Ad)}(S:StOk K ad H st)(h:ad[i]?=some a)(e:st[i]?=some (true,ds))(hx:H a=some (.dN (Yj xs)))(r:EntN K ad H ys es)(n:(ys.map (·.1)).Nodup) :
  StOk K ad (upd H a (.dN (Yj ys))) (st.set i (true,es)):=
 S.writeG h e hx (fun _ _ z=>nomatch z) (Ext.writeM hx rfl rfl (aV h)) (.d (r.mono (Ext.writeM hx rfl rfl (aV h))) rfl upd_same n)
theorem StOk.writeO{a dx:Ad}{kvs':Li (Str×V)}(S:StOk K ad H st)(h:ad[i]?=some a)(e:st[i]?=some (true,ds))(hx:H a=some (.ins (ClsTab.ca j) dx kvs))(oc:ObC K (ClsTab.ca j))(r:Ents K ad H kvs' es)(nf:∀ k,fldNames.contains k=false->kvs'.lookup k=none) :
  StOk K ad (upd H a (.ins (ClsTab.ca j) dx kvs')) (st.set i (true,.int (j:Int) :: es)):=
 S.writeG h e hx (fun _ _ z=>nomatch z) (Ext.writeM hx rfl rfl (aV h)) (.o rfl (r.mono (Ext.writeM hx rfl rfl (aV h))) rfl upd_same ⟨oc,nf⟩)

structure EnvOk(K:fG7)(ad:List Addr)(H:Hp)(σ:L2.St)(ρ:Env):Prop where
 len:σ.length=ρ.length
 at_:∀ (i:Nat) (d:D),ρ[i]?=some (some d)->∃ v,σ[i]?=some (some v)/\Den K ad H v d
theorem EnvOk.mono(x:Ext ad H ad' H')(h:EnvOk K ad H σ ρ):EnvOk K ad' H' σ ρ:=⟨h.len,fun i d e=>let ⟨v,e1,e2⟩:=h.at_ i d e;⟨v,e1,e2.mono x⟩⟩
theorem EnvOk.set{v:V}(h:EnvOk K ad H σ ρ)(i:Nat)(r:Den K ad H v d):EnvOk K ad H (σ.set i (some v)) (Zh ρ i d):=by
 refine⟨by unfold Zh;rw[aY,aY];exact h.len,fun j e q=>?_⟩
 unfold Zh at q;by_cases z:i=j
 ·subst z
  by_cases hi:i < ρ.length
  ·rw[cK hi]at q
   cases q;exact⟨v,by rw[cK (by rw[h.len];exact hi)],r⟩
  ·rw[eB (by rw[aY];omega)]at q
   cases q
 ·rw[bJ z]at q
  obtain⟨w,e1,e2⟩:=h.at_ j e q;exact⟨w,by rw[bJ z];exact e1,e2⟩
end

def Post(K:fG7)(ad:Li Ad)(H:Hp)(d:D)(st':Za)(Q:VK):Prop:=∀ v ad' H',Ext ad H ad' H'->StOk K ad' H' st'->Den K ad' H' v d->Q v H'
noncomputable def tE(K:fG7)(f:Env->Za->Res):TE:=fun σ H Q=>∃ ad ρ st d st',EnvOk K ad H σ ρ/\StOk K ad H st/\f ρ st=some (d,st')/\Post K ad H d st' Q
noncomputable def tT(K:fG7)(f:Env->Za->Res):TT:=fun σ H Q=>∃ ad ρ st k st',EnvOk K ad H σ ρ/\StOk K ad H st/\f ρ st=some (.bl k,st')/\∀ ad' H',Ext ad H ad' H'->StOk K ad' H' st'->Q k H'
noncomputable def tA(K:fG7)(f:Env->Za->Res):TA:=fun σ H Q=>∃ ad ρ st ds st',EnvOk K ad H σ ρ/\StOk K ad H st/\f ρ st=some (.tup ds,st')/\∀ vs ad' H',Ext ad H ad' H'->StOk K ad' H' st'->Dens K ad' H' vs ds->Q vs H'
noncomputable def rD(K:fG7)(f:D->D->Za->Res):R2:=fun x y H Q=>∃ ad st dx dy d st',StOk K ad H st/\Den K ad H x dx/\Den K ad H y dy/\f dx dy st=some (d,st')/\Post K ad H d st' Q
noncomputable def spD(K:fG7)(g:Fn):Sp:=fun vs H Q _=>∃ ad ds st d st',StOk K ad H st/\Dens K ad H vs ds/\g ds st=some (d,st')/\Post K ad H d st' Q
noncomputable def tS(K:fG7)(f:Env->Za->Ot (Fl×Za)):TS:=fun D σ H=>∃ ad ρ st r st',EnvOk K ad H σ ρ/\StOk K ad H st/\f ρ st=some (r,st') /\
 match r with
 |.nx ρ'=>∀ σ' ad' H',Ext ad H ad' H'->StOk K ad' H' st'->EnvOk K ad' H' σ' ρ'->D.nx σ' H'
 |.bk ρ'=>∀ σ' ad' H',Ext ad H ad' H'->StOk K ad' H' st'->EnvOk K ad' H' σ' ρ'->D.bk σ' H'
 |.ct ρ'=>∀ σ' ad' H',Ext ad H ad' H'->StOk K ad' H' st'->EnvOk K ad' H' σ' ρ'->D.ct σ' H'
 |.rt d=>Post K ad H d st' D.rt
variable{Q:VK}
theorem Post.at{ad:Li Ad}(p:Post K ad H d st Q)(S:StOk K ad H st){v:V}(h:Den K ad H v d):Q v H:=p v ad H (Ext.refl _ _) S h
theorem Post.later{ad:Li Ad}(p:Post K ad H d st Q)(x:Ext ad H ad' H'):Post K ad' H' d st Q:=fun v a2 H2 y S h=>p v a2 H2 (x.trans y) S h
variable [ClsTab]
variable{n:Nat}{k:D}{bb:Bool}
section
variable {X:Cx}{pQ:Li (Ad×Obj)}{σ:L2.St}{H:Hp}{s:sH7}{ad:Li Ad}
inductive OkW:Nat->D->Prop where
 |int (n:Nat) (i:Int):OkW n (.int i)
 |str (n:Nat) (x:Str):OkW n (.str x)
 |tup {n:Nat}{ds:List D} (h:ds.all (okN n)=true):OkW (n+1) (.tup ds)
theorem okW(h:okN n d=true):OkW n d:=by
 cases d with
 |int i=>exact .int n i
 |str i=>exact .str n i
 |tup ds=>cases n with
  |zero=>exact nomatch h
  |succ n=>exact .tup h
 |_=>cases n<;>exact nomatch h
theorem UT(I:L2.Inv X pQ σ H s):∀ {n:Nat}{d:D}{v:V}{u:vL},okN n d=true->Den X.K ad H v d->RelV v u->IsV s.heap n d u:=by
 intro n
 induction n using Nat.strongRecOn with
 |_ n ih=>
  intro d v u ok h r;cases okW ok with
  |int _ i=>cases h;cases n<;>exact r
  |str _ i=>cases h;cases n<;>exact r
  |@tup n ds ok=>
   obtain⟨a,xs,rfl,e,rr⟩:=h.ofTup;cases r;obtain⟨its,rv,p,_⟩:=I.tuple e.sq;refine⟨a,_,rfl,p,?_⟩;have go:∀ {ds:Li D}{xs:Li V}{us:Li vL},ds.all (okN n)=true->Dens X.K ad H xs ds->Vals xs us->Paired (IsV s.heap n) ds us:=by
    intro ds
    induction ds with
    |nil=>intro xs us _ a b;cases a;cases b;exact .nil
    |cons d ds ihd=>
     intro xs us o a b;rw[bC,bA7]at o;cases a with
     |cons a1 a2=>cases b with
      |cons b1 b2=>exact .cons (ih n (bM n) o.1 a1 b1) (ihd o.2 a2 b2)
   exact go ok rr rv
noncomputable def toE(x:D×Ad×Ad):D×Ad×vL:=(x.1,x.2.1,.ref x.2.2)
theorem WQ{xs:Li (D×Ad×Ad)}:((∀ x∈xs,x.1≠k)->atKey (xs.map toE) k=none)/\((xs.map (·.1)).Nodup->∀ x∈xs,x.1=k->atKey (xs.map toE) k=some (x.2.1,.ref x.2.2)):=by
 induction xs with
 |nil=>exact⟨fun _=>rfl,fun _ x hx=>(nomatch hx)⟩
 |cons y xs ih=>
  have e:atKey ((y :: xs).map toE) k=if y.1=k then some (y.2.1,.ref y.2.2) else atKey (xs.map toE) k:=by
   rw[aL];unfold atKey;rw[cP];by_cases h:y.1=k
   ·rw[if_pos h,show decide ((toE y).1=k)=true from aH h];rfl
   ·rw[if_neg h,show decide ((toE y).1=k)=false from aE h]
  rw[e];by_cases h:y.1=k
  ·rw[if_pos h]
   refine⟨fun q=>absurd h (q y lQ7),fun n x hx q=>?_⟩
   rw[aL,bR]at n;rcases aG.mp hx with rfl|hx
   ·rfl
   ·exact absurd (bB.mpr ⟨x,hx,q.trans h.symm⟩) n.1
  ·rw[if_neg h]
   refine⟨fun q=>ih.1 fun x hx=>q x (lM7 _ hx),fun n x hx q=>?_⟩
   rw[aL,bR]at n;rcases aG.mp hx with rfl|hx
   ·exact absurd q h
   ·exact ih.2 n.2 x hx q
theorem DictE.oh{prog:Program}{w:World}{knd:HeapKind prog w D}{h:Heap}{d:Ad}{xs:Li (D×Ad×vL)}(x:DictE knd h d xs):h.DictOfH knd d xs:=let ⟨o,es,ho,hc,hdat,r⟩:=x;⟨o,es,_,ho,hc,hdat,r⟩
structure DNk(K:fG7)(ad:List Addr)(H:Hp)(p b:Addr)(xs:List (D×Addr×Addr))(k:D):Prop where
 h:H p=some (.dN (Yj xs))
 n:(xs.map (·.1)).Nodup
 dk:Den K ad H (.ref b) k
 ok:okN 8 k=true
 a:∀ x∈xs,Den K ad H (.ref x.2.1) x.1/\okN 8 x.1=true
theorem DNk.of(I:L2.Inv X pQ σ H s){b:Ad}(d:DNk X.K ad H p b xs k):(p==sysModules)=false/\DictE (ZcR X.prog X.w) s.heap p (xs.map toE)/\(ZcR X.prog X.w).is s.heap k b:=by
 obtain⟨hd,o,es,ho,hc,hdat,he⟩:=(show ObjOk X.prog X.w H s.heap p (.dN (Yj xs)) from I.hok p _ d.h);exact⟨hd,⟨o,es,ho,hc,hdat,by rw[he,bN];rfl,fun x hx=>by
  obtain⟨y,hy,rfl⟩:=bB.mp hx;exact UT I (d.a y hy).2 (d.a y hy).1 rfl,by rw[bN];exact d.n⟩,UT I d.ok d.dk rfl⟩
def ZcW(K:fG7):V->V->V->Hp->(Hp->Prop)->Prop:=fun o i v H Q=>∃ p b va xs k ad,(o=.ref p/\i=.ref b/\v=.ref va)/\DNk K ad H p b xs k/\xs.length < sizeLine/\(∀ x∈xs,x.1≠k)/\Q (upd H p (.dN (Yj (xs++[(k,b,va)]))))
theorem ZaF(hu:X.A.units+16 < cLine):PSet X (ZcW X.K):=by
 intro pQ s σ H o i v ov iv u Q I ro ri rv h;obtain⟨p,b,va,xs,k,ad,⟨rfl,rfl,rfl⟩,d,l,hn,q⟩:=h;cases ro;cases ri;cases rv;obtain⟨hd,dd,dk⟩:=d.of I;refine ZaE (show X.A.units+1+8 < cLine by omega) dk dd (by rw[aB];omega) (WQ.1 hn) fun h' dd' hs=>?_
 obtain⟨o',es,ho,hc,hdat,he,_,_⟩:=dd';refine⟨upd H p (.dN (Yj (xs++[(k,b,va)]))),d_write I (by rw[d.h];exact True.intro) hs ⟨o',ho⟩ ⟨hd,o',es,ho,hc,hdat,?_⟩,q⟩
 rw[he];unfold Yj;rw[bG,bG,bN];rfl
noncomputable def Zg0(K:fG7):R2:=fun x y H Q=>∃ p b xs k ad z,(x=.ref p/\y=.ref b)/\DNk K ad H p b xs k/\z∈xs/\z.1=k/\Q (.ref z.2.2) H
theorem Zfz(hu:X.A.units+16 < cLine):IxR X (Zg0 X.K):=by
 intro value slice pQ s σ H x y v u Q I rx ry h hs;obtain⟨p,b,xs,k,ad,z,⟨rfl,rfl⟩,d,hz,ez,q⟩:=h;cases rx;cases ry;obtain⟨hd,dd,dk⟩:=d.of I;refine tail_any dd.typeIs PySem.F.slot_dict_getitem.lookup (wpAny_getItem_heap (show X.A.units+1+8 < cLine by omega) dk dd.oh (WQ.2 d.n z hz ez) ?_) hs
 exact⟨.ref z.2.2,H,I.tok _,rfl,q⟩
theorem ZcN(hu:X.A.units+16 < cLine){b:Ad}{xs:Li (D×Ad×Ad)}(I:Inv X pQ σ H s)(d:DNk X.K ad H p b xs k)(hb:if bb then ∃ x∈xs,x.1=k else ∀ x∈xs,x.1≠k) :
  (Q (.bl bb) H->wpAny (model X.prog X.w) X.A (compareOp .In (.ref b) (.ref p)) (EP X pQ σ Q) X.xe s)/\(Q (.bl (!bb)) H->wpAny (model X.prog X.w) X.A (compareOp .NotIn (.ref b) (.ref p)) (EP X pQ σ Q) X.xe s):=by
 obtain⟨hd,dd,dk⟩:=d.of I;have e:(atKey (xs.map toE) k).isSome=bb:=by
  cases bb with
  |true=>obtain⟨x,hx,ex⟩:=hb;rw[WQ.2 d.n x hx ex];rfl
  |false=>rw[WQ.1 hb];rfl
 rw[<-e];exact⟨fun q=>wpAny_in_heap (show X.A.units+1+8 < cLine by omega) dk hd dd.oh ⟨.bl _,H,I.tok _,rfl,q⟩,fun q=>wpAny_notIn_heap (show X.A.units+1+8 < cLine by omega) dk hd dd.oh ⟨.bl _,H,I.tok _,rfl,q⟩⟩
end
variable [ClsTab]
variable{x:D}{st':Za}
section
variable {X:Cx}{a b c:Expr}{fa fb fc:Ev}{pos:Pos}

theorem UZ(σ:L2.St)(H:Hp)(Q:VK)(h:tE K (YT i) σ H Q):tVar i σ H Q:=by
 obtain⟨ad,ρ,st,d,st',E,S,e,p⟩:=h;unfold YT at e;split at e
 ·rename_i q
  obtain⟨v,e1,e2⟩:=E.at_ i _ q;cases e;exact⟨v,e1,p.at S e2⟩
 ·exact Zb e
theorem VA{v:V}(hd:∀ ad H,Den K ad H v d)(σ:L2.St)(H:Hp)(Q:VK)(h:tE K (evC d) σ H Q):tC v σ H Q:=by
 obtain⟨ad,ρ,st,d',st',E,S,e,p⟩:=h;cases e;exact p.at S (hd _ _)
theorem WW{g:D->D->Za->Res}(σ:L2.St)(H:Hp)(Q:VK)(h:tE K (Zv fa fb g) σ H Q):tOp (rD K g) (tE K fa) (tE K fb) σ H Q:=by
 obtain⟨ad,ρ,st,d,st',E,S,e,p⟩:=h;unfold Zv at e;split at e
 ·rename_i x st1 q1
  split at e
  ·rename_i y st2 q2
   refine⟨ad,ρ,st,x,st1,E,S,q1,fun v1 ad1 H1 x1 S1 d1=>⟨ad1,ρ,st1,y,st2,E.mono x1,S1,q2,fun v2 ad2 H2 x2 S2 d2=>?_⟩⟩
   exact⟨ad2,st2,x,y,d,st',S2,d1.mono x2,d2,e,p.later (x1.trans x2)⟩
  ·exact Zb e
 ·exact Zb e
def rU1(K:fG7)(g:D->Za->Res):V->Hp->VK->Prop:=fun x H Q=>∃ ad st dx d st',StOk K ad H st/\Den K ad H x dx/\g dx st=some (d,st')/\Post K ad H d st' Q
theorem ZdK{g:D->Za->Res}(σ:L2.St)(H:Hp)(Q:VK)(h:tE K (Zo fa g) σ H Q):tUn (rU1 K g) (tE K fa) σ H Q:=by
 obtain⟨ad,ρ,st,d,st',E,S,e,p⟩:=h;unfold Zo at e;split at e
 ·rename_i x st1 q1
  exact⟨ad,ρ,st,x,st1,E,S,q1,fun v1 ad1 H1 x1 S1 d1=>⟨ad1,st1,x,d,st',S1,d1,e,p.later x1⟩⟩
 ·exact Zb e
theorem JZ(σ:L2.St)(H:Hp)(Q:Bool->Hp->Prop)(h:tT K fa σ H Q):tE K fa σ H fun x H1=>∃ c,x=.bl c/\Q c H1:=by
 obtain⟨ad,ρ,st,k,st',E,S,e,p⟩:=h;exact⟨ad,ρ,st,.bl k,st',E,S,e,fun v ad' H' x S' d'=>⟨k,d'.ofBl,p ad' H' x S'⟩⟩
theorem Z6{ft ff:Ev}{r:D×Za}(h:YE fc ft ff ρ st=some r):∃ k st1,fc ρ st=some (.bl k,st1)/\(if k=true then ft ρ st1 else ff ρ st1)=some r:=by
 unfold YE at h;split at h
 ·rename_i st1 q
  exact⟨true,st1,q,by rw[if_pos rfl];exact h⟩
 ·rename_i st1 q
  exact⟨false,st1,q,by rw[if_neg bF7];exact h⟩
 ·exact Zb h
theorem ZdJ(σ:L2.St)(H:Hp)(Q:VK)(h:tE K (YE fc fa fb) σ H Q):tIf (tT K fc) (tE K fa) (tE K fb) σ H Q:=by
 obtain⟨ad,ρ,st,d,st',E,S,e,p⟩:=h;obtain⟨k,st1,q,e⟩:=Z6 e;refine⟨ad,ρ,st,k,st1,E,S,q,fun ad1 H1 x1 S1=>?_⟩
 cases k with
 |true=>
  rw[if_pos rfl]at e ⊢;exact⟨ad1,ρ,st1,d,st',E.mono x1,S1,e,p.later x1⟩
 |false=>
  rw[if_neg bF7]at e ⊢;exact⟨ad1,ρ,st1,d,st',E.mono x1,S1,e,p.later x1⟩
theorem JF(σ:L2.St)(H:Hp)(Q:VK)(h:tE K (YE fa fb (evC (.bl false))) σ H Q):tAndV (tE K fa) (tE K fb) σ H Q:=by
 obtain⟨ad,ρ,st,d,st',E,S,e,p⟩:=h;obtain⟨k,st1,q,e⟩:=Z6 e;refine⟨ad,ρ,st,.bl k,st1,E,S,q,fun v1 ad1 H1 x1 S1 d1=>⟨k,d1.ofBl,?_⟩⟩
 cases k with
 |true=>
  rw[if_pos rfl]at e ⊢;exact⟨ad1,ρ,st1,d,st',E.mono x1,S1,e,p.later x1⟩
 |false=>
  rw[if_neg bF7]at e ⊢;cases e;exact(p.later x1).at S1 (.bl false)
theorem Zbz(σ:L2.St)(H:Hp)(Q:VK)(h:tE K (YE fa (evC (.bl true)) fb) σ H Q):tOrV (tE K fa) (tE K fb) σ H Q:=by
 obtain⟨ad,ρ,st,d,st',E,S,e,p⟩:=h;obtain⟨k,st1,q,e⟩:=Z6 e;refine⟨ad,ρ,st,.bl k,st1,E,S,q,fun v1 ad1 H1 x1 S1 d1=>⟨k,d1.ofBl,?_⟩⟩
 cases k with
 |true=>
  rw[if_pos rfl]at e ⊢;cases e;exact(p.later x1).at S1 (.bl true)
 |false=>
  rw[if_neg bF7]at e ⊢;exact⟨ad1,ρ,st1,d,st',E.mono x1,S1,e,p.later x1⟩
theorem JE(σ:L2.St)(H:Hp)(Q:Bool->Hp->Prop)(h:tT K (YE fa fb (evC (.bl false))) σ H Q):tAnd (tT K fa) (tT K fb) σ H Q:=by
 obtain⟨ad,ρ,st,d,st',E,S,e,p⟩:=h;obtain⟨k,st1,q,e⟩:=Z6 e;refine⟨ad,ρ,st,k,st1,E,S,q,fun ad1 H1 x1 S1=>?_⟩
 cases k with
 |true=>
  rw[if_pos rfl]at e ⊢;exact⟨ad1,ρ,st1,d,st',E.mono x1,S1,e,fun ad2 H2 x2 S2=>p ad2 H2 (x1.trans x2) S2⟩
 |false=>
  rw[if_neg bF7]at e ⊢;cases e;exact p ad1 H1 x1 S1
theorem Zby(σ:L2.St)(H:Hp)(Q:Bool->Hp->Prop)(h:tT K (YE fa (evC (.bl true)) fb) σ H Q):tOr (tT K fa) (tT K fb) σ H Q:=by
 obtain⟨ad,ρ,st,d,st',E,S,e,p⟩:=h;obtain⟨k,st1,q,e⟩:=Z6 e;refine⟨ad,ρ,st,k,st1,E,S,q,fun ad1 H1 x1 S1=>?_⟩
 cases k with
 |true=>
  rw[if_pos rfl]at e ⊢;cases e;exact p ad1 H1 x1 S1
 |false=>
  rw[if_neg bF7]at e ⊢;exact⟨ad1,ρ,st1,d,st',E.mono x1,S1,e,fun ad2 H2 x2 S2=>p ad2 H2 (x1.trans x2) S2⟩
theorem JU(σ:L2.St)(H:Hp)(Q:Bool->Hp->Prop)(h:tT K (Zo fa QW) σ H Q):tNot (tT K fa) σ H Q:=by
 obtain⟨ad,ρ,st,d,st',E,S,e,p⟩:=h;unfold Zo at e;split at e
 ·rename_i x st1 q1
  cases x with
  |bl k=>
   cases (show some (D.bl (!k),st1)=_ from e)
   exact⟨ad,ρ,st,k,_,E,S,q1,fun ad1 H1 x1 S1=>p ad1 H1 x1 S1⟩
  |_=>simp[QW]at e
 ·exact Zb e
theorem JV(σ:L2.St)(H:Hp)(Q:VK)(h:tE K (Zo fa QW) σ H Q):tNotV (tE K fa) σ H Q:=by
 obtain⟨ad,ρ,st,d,st',E,S,e,p⟩:=h;unfold Zo at e;split at e
 ·rename_i x st1 q1
  cases x with
  |bl k=>
   cases (show some (D.bl (!k),st1)=_ from e)
   exact⟨ad,ρ,st,.bl k,_,E,S,q1,fun v1 ad1 H1 x1 S1 d1=>⟨k,d1.ofBl,(p.later x1).at S1 (.bl _)⟩⟩
  |_=>simp[QW]at e
 ·exact Zb e
theorem Vy(σ:L2.St)(H:Hp)(Q:Li V->Hp->Prop)(h:tA K (evC (.tup [])) σ H Q):tNil σ H Q:=by
 obtain⟨ad,ρ,st,d,st',E,S,e,p⟩:=h;cases e;exact p [] ad H (Ext.refl _ _) S .nil
theorem QO(σ:L2.St)(H:Hp)(Q:Li V->Hp->Prop)(h:tA K (Zv fa fb Y9) σ H Q):tCons (tE K fa) (tA K fb) σ H Q:=by
 obtain⟨ad,ρ,st,d,st',E,S,e,p⟩:=h;unfold Zv at e;split at e
 ·rename_i x st1 q1
  split at e
  ·rename_i y st2 q2
   cases y with
   |tup zs=>
    have e:(if zs.length < 1000 then some (D.tup (x :: zs),st2) else none)=some (D.tup d,st'):=e
    split at e
    ·cases e
     refine⟨ad,ρ,st,_,st1,E,S,q1,fun v1 ad1 H1 x1 S1 d1=>⟨ad1,ρ,st1,zs,_,E.mono x1,S1,q2,fun v2 ad2 H2 x2 S2 d2=>?_⟩⟩
     exact p _ ad2 H2 (x1.trans x2) S2 (.cons (d1.mono x2) d2)
    ·cases e
   |_=>simp[Y9]at e
  ·cases e
 ·cases e
theorem ZbD(hb:∀ ρ st ds st',fa ρ st=some (.tup ds,st')->ds.length<=1000)(ht:∀ ρ st d st',fa ρ st=some (d,st')->∃ ds,d=.tup ds)(σ:L2.St)(H:Hp)(Q:VK)(h:tE K fa σ H Q):tTup (tA K fa) σ H Q:=by
 obtain⟨ad,ρ,st,d,st',E,S,e,p⟩:=h;obtain⟨ds,rfl⟩:=ht _ _ _ _ e;refine⟨ad,ρ,st,ds,st',E,S,e,fun vs ad1 H1 x1 S1 d1=>⟨?_,fun q hq=>?_⟩⟩
 ·rw[d1.length]
  exact aM (hb _ _ _ _ e) (by decide)
 ·exact p _ ad1 _ (x1.trans (Ext.laid hq)) (S1.laid hq) (.tup (.inl upd_same) (d1.mono (Ext.laid hq)))
theorem Zbw(hb:∀ ρ st ds st',fa ρ st=some (.tup ds,st')->ds.length<=1000)(σ:L2.St)(H:Hp)(Q:VK)(h:tE K (Zo fa QU) σ H Q):tLst (tA K fa) σ H Q:=by
 obtain⟨ad,ρ,st,d,st',E,S,e,p⟩:=h;unfold Zo at e;split at e
 ·rename_i x st1 q1
  cases x with
  |tup ds=>
   cases (show some (D.lst st1.length,st1++[(true,ds)])=_ from e)
   refine⟨ad,ρ,st,ds,_,E,S,q1,fun vs ad1 H1 x1 S1 d1=>⟨?_,fun q hq=>?_⟩⟩
   ·rw[d1.length]
    exact aM (hb _ _ _ _ q1) (by decide)
   ·refine p _ (ad1++[q]) _ (x1.trans (Ext.push hq)) (S1.push hq d1) (.newL ?_)
    rw[<-S1.len];exact ZA
  |_=>simp[QU]at e
 ·exact Zb e
theorem VB{g:Fn}{dvs:Li V}{E:XK}(hd:∀ ad H,Dens K ad H dvs ds)(σ:L2.St)(H:Hp)(Q:VK)(h:tE K (Zo fa (XO g ds)) σ H Q):tCall (spD K g) dvs E (tA K fa) σ H Q:=by
 obtain⟨ad,ρ,st,d,st',E,S,e,p⟩:=h;unfold Zo at e;split at e
 ·rename_i x st1 q1
  cases x with
  |tup xs=>exact⟨ad,ρ,st,xs,_,E,S,q1,fun vs ad1 H1 x1 S1 d1=>⟨ad1,xs++ds,_,d,st',S1,d1.append (hd _ _),e,p.later x1⟩⟩
  |_=>simp[XO]at e
 ·exact Zb e
def rC(K:fG7)(g:Li D->Za->Res):Li V->Hp->VK->Prop:=fun vs H Q=>∃ ad st ds d st',StOk K ad H st/\Dens K ad H vs ds/\g ds st=some (d,st')/\Post K ad H d st' Q
noncomputable def on1(g:D->Za->Res):Li D->Za->Res
 |[x],st=>g x st
 |_,_=>none
noncomputable def on2(g:D->D->Za->Res):Li D->Za->Res
 |[x,y],st=>g x y st
 |_,_=>none
theorem We{g:D->Za->Res}(σ:L2.St)(H:Hp)(Q:VK)(h:tE K (Zo fa g) σ H Q):tCB (rC K (on1 g)) (tCons (tE K fa) tNil) σ H Q:=by
 obtain⟨ad,ρ,st,d,st',E,S,e,p⟩:=h;unfold Zo at e;split at e
 ·rename_i x st1 q1
  exact⟨ad,ρ,st,x,st1,E,S,q1,fun v1 ad1 H1 x1 S1 d1=>⟨ad1,st1,[x],d,st',S1,.cons d1 .nil,e,p.later x1⟩⟩
 ·exact Zb e
theorem Vz{g:D->D->Za->Res}(σ:L2.St)(H:Hp)(Q:VK)(h:tE K (Zv fa fb g) σ H Q):tCB (rC K (on2 g)) (tCons (tE K fa) (tCons (tE K fb) tNil)) σ H Q:=by
 obtain⟨ad,ρ,st,d,st',E,S,e,p⟩:=h;unfold Zv at e;split at e
 ·rename_i x st1 q1
  split at e
  ·rename_i y st2 q2
   refine⟨ad,ρ,st,x,st1,E,S,q1,fun v1 ad1 H1 x1 S1 d1=>⟨ad1,ρ,st1,y,st2,E.mono x1,S1,q2,fun v2 ad2 H2 x2 S2 d2=>?_⟩⟩
   exact⟨ad2,st2,[x,y],d,st',S2,.cons (d1.mono x2) (.cons d2 .nil),e,p.later (x1.trans x2)⟩
  ·exact Zb e
 ·exact Zb e
noncomputable def tO(K:fG7)(f:Ev):TO:=fun σ H Q=>∃ ad ρ st d st',EnvOk K ad H σ ρ/\StOk K ad H st/\f ρ st=some (d,st') /\
 ((d=.non/\∀ ad' H',Ext ad H ad' H'->StOk K ad' H' st'->Q none H')\/∃ i,d=.int i/\∀ ad' H',Ext ad H ad' H'->StOk K ad' H' st'->Q (some i) H')
def rSl(K:fG7):V->Ot Int->Ot Int->Hp->VK->Prop:=fun x lo hi H Q=>∃ ad st dx d st',StOk K ad H st/\Den K ad H x dx/\ZW dx lo hi st=some (d,st')/\Post K ad H d st' Q
noncomputable def part:D->Ot (Ot Int)
 |.non=>some none
 |.int i=>some (some i)
 |_=>none
theorem Va{l h:D}{r:D×Za}(e:YI x l h st=some r):∃ lo hi,part l=some lo/\part h=some hi/\ZW x lo hi st=some r:=by
 unfold YI at e;split at e
 ·exact⟨_,_,rfl,rfl,e⟩
 ·exact⟨_,_,rfl,rfl,e⟩
 ·exact⟨_,_,rfl,rfl,e⟩
 ·exact⟨_,_,rfl,rfl,e⟩
 ·exact Zb e
theorem Zc0{f:Ev}{Q:Ot Int->Hp->Prop}{ad:Li Ad}{o:Ot Int}(E:EnvOk K ad H σ ρ)(S:StOk K ad H st)(e:f ρ st=some (d,st'))(po:part d=some o)(q:∀ ad' H',Ext ad H ad' H'->StOk K ad' H' st'->Q o H'):tO K f σ H Q:=by
 refine⟨ad,ρ,st,d,st',E,S,e,?_⟩;cases d with
 |non=>cases po;exact .inl ⟨rfl,q⟩
 |int i=>cases po;exact .inr ⟨i,rfl,q⟩
 |_=>exact Zb po
theorem QQ(σ:L2.St)(H:Hp)(Q:VK)(h:tE K (Xy fa fb fc YI) σ H Q):tSl (rSl K) (tE K fa) (tO K fb) (tO K fc) σ H Q:=by
 obtain⟨ad,ρ,st,d,st',E,S,e,p⟩:=h;unfold Xy at e;split at e
 ·rename_i x st1 q1
  split at e
  ·rename_i y st2 q2
   split at e
   ·rename_i z st3 q3
    obtain⟨lo,hi,pl,ph,e⟩:=Va e;refine⟨ad,ρ,st,x,st1,E,S,q1,fun v1 ad1 H1 x1 S1 d1=>Zc0 (E.mono x1) S1 q2 pl fun ad2 H2 x2 S2=>Zc0 (E.mono (x1.trans x2)) S2 q3 ph fun ad3 H3 x3 S3=>?_⟩
    exact⟨ad3,st3,x,d,st',S3,d1.mono (x2.trans x3),e,p.later (x1.trans (x2.trans x3))⟩
   ·exact Zb e
  ·exact Zb e
 ·exact Zb e
theorem Zbx(σ:L2.St)(H:Hp)(Q:Ot Int->Hp->Prop)(h:tO K (evC .non) σ H Q):tNoPart σ H Q:=by
 obtain⟨ad,ρ,st,d,st',E,S,e,p⟩:=h;cases e;rcases p with⟨_,p⟩|⟨i,z,_⟩
 ·exact p ad H (Ext.refl _ _) S
 ·cases z
end
variable [ClsTab]
def PostS(K:fG7)(ad:Li Ad)(H:Hp)(r:Fl)(st':Za)(D:Ends):Prop:=match r with
 |.nx ρ'=>∀ σ' ad' H',Ext ad H ad' H'->StOk K ad' H' st'->EnvOk K ad' H' σ' ρ'->D.nx σ' H'
 |.bk ρ'=>∀ σ' ad' H',Ext ad H ad' H'->StOk K ad' H' st'->EnvOk K ad' H' σ' ρ'->D.bk σ' H'
 |.ct ρ'=>∀ σ' ad' H',Ext ad H ad' H'->StOk K ad' H' st'->EnvOk K ad' H' σ' ρ'->D.ct σ' H'
 |.rt d=>Post K ad H d st' D.rt
theorem PostS.later{ad:Li Ad}{r:Fl}{D:Ends}(x:Ext ad H ad' H')(p:PostS K ad H r st D):PostS K ad' H' r st D:=by
 cases r with
 |nx ρ=>exact fun σ2 a2 H2 y S E=>p σ2 a2 H2 (x.trans y) S E
 |bk ρ=>exact fun σ2 a2 H2 y S E=>p σ2 a2 H2 (x.trans y) S E
 |ct ρ=>exact fun σ2 a2 H2 y S E=>p σ2 a2 H2 (x.trans y) S E
 |rt d=>exact Post.later p x
theorem ZP{f:Ex}{D:Ends}{ad:Li Ad}{r:Fl}(E:EnvOk K ad H σ ρ)(S:StOk K ad H st)(e:f ρ st=some (r,st'))(p:PostS K ad H r st' D):tS K f D σ H:=by
 refine⟨ad,ρ,st,r,st',E,S,e,?_⟩;cases r<;>exact p
theorem ZF{f:Ex}{D:Ends}(h:tS K f D σ H):∃ ad ρ st r st',EnvOk K ad H σ ρ/\StOk K ad H st/\f ρ st=some (r,st')/\PostS K ad H r st' D:=by
 obtain⟨ad,ρ,st,r,st',E,S,e,p⟩:=h;refine⟨ad,ρ,st,r,st',E,S,e,?_⟩;cases r<;>exact p
variable{l m:Nat}{E:Ends}{B:D->Env->Za->Ot (Fl×Za)}
section
variable {K:fG7}{f g:Ex}{fe fi fk:Ev}
theorem VD(D:Ends)(σ:L2.St)(H:Hp)(h:tS K (fun ρ st=>some (.nx ρ,st)) D σ H):tNext D σ H:=by
 obtain⟨ad,ρ,st,r,st',E,S,e,p⟩:=ZF h;cases e;exact p σ ad H (Ext.refl _ _) S E
theorem Zbr(D:Ends)(σ:L2.St)(H:Hp)(h:tS K (fun ρ st=>some (.bk ρ,st)) D σ H):tBreak D σ H:=by
 obtain⟨ad,ρ,st,r,st',E,S,e,p⟩:=ZF h;cases e;exact p σ ad H (Ext.refl _ _) S E
theorem JH(D:Ends)(σ:L2.St)(H:Hp)(h:tS K (fun ρ st=>some (.ct ρ,st)) D σ H):tCont D σ H:=by
 obtain⟨ad,ρ,st,r,st',E,S,e,p⟩:=ZF h;cases e;exact p σ ad H (Ext.refl _ _) S E
theorem ZbC(D:Ends)(σ:L2.St)(H:Hp)(h:tS K (YH f g) D σ H):tSeq (tS K f) (tS K g) D σ H:=by
 obtain⟨ad,ρ,st,r,st',E,S,e,p⟩:=ZF h;unfold YH at e;split at e
 ·rename_i ρ1 st1 q
  exact ZP E S q fun σ1 ad1 H1 x1 S1 E1=>ZP E1 S1 e (p.later x1)
 ·rename_i q
  refine ZP E S e ?_;cases r with
  |nx ρ1=>exact absurd e (q ρ1 st')
  |bk ρ1=>exact p
  |ct ρ1=>exact p
  |rt d=>exact p
theorem ZbB(D:Ends)(σ:L2.St)(H:Hp)(h:tS K (Ux fe) D σ H):tRet (tE K fe) D σ H:=by
 obtain⟨ad,ρ,st,r,st',E,S,e,p⟩:=ZF h;unfold Ux at e;split at e
 ·rename_i d st1 q
  cases e;exact⟨ad,ρ,st,d,_,E,S,q,p⟩
 ·exact Zb e
theorem WX(D:Ends)(σ:L2.St)(H:Hp)(h:tS K (W9 i fe) D σ H):tAsg (tE K fe) (gName i) D σ H:=by
 obtain⟨ad,ρ,st,r,st',E,S,e,p⟩:=ZF h;unfold W9 at e;split at e
 ·rename_i d st1 q
  cases e;exact⟨ad,ρ,st,d,_,E,S,q,fun v ad1 H1 x1 S1 d1=>p _ ad1 H1 x1 S1 ((E.mono x1).set i d1)⟩
 ·exact Zb e
theorem JW(D:Ends)(σ:L2.St)(H:Hp)(h:tS K (ZaC i j fe) D σ H):tAsg (tE K fe) (gTup K 2 (gCons (gName i) (gCons (gName j) gNil))) D σ H:=by
 obtain⟨ad,ρ,st,r,st',E,S,e,p⟩:=ZF h;unfold ZaC at e;split at e
 ·rename_i x y st1 q
  cases e;refine⟨ad,ρ,st,_,_,E,S,q,fun v ad1 H1 x1 S1 d1=>?_⟩
  obtain⟨a,vs,rfl,ha,rv⟩:=d1.ofTup;cases rv with
  |cons d1 rv=>
   cases rv with
   |cons d2 rv=>
    cases rv;exact⟨a,_,rfl,(ha).sq,rfl,_,_,rfl,_,_,rfl,rfl,p _ ad1 H1 x1 S1 (((E.mono x1).set i d1).set j d2)⟩
 ·exact Zb e
theorem JX(D:Ends)(σ:L2.St)(H:Hp)(h:tS K (ZaD i j l fe) D σ H):tAsg (tE K fe) (gTup K 3 (gCons (gName i) (gCons (gName j) (gCons (gName l) gNil)))) D σ H:=by
 obtain⟨ad,ρ,st,r,st',E,S,e,p⟩:=ZF h;unfold ZaD at e;split at e
 ·rename_i x y z st1 q
  cases e;refine⟨ad,ρ,st,_,_,E,S,q,fun v ad1 H1 x1 S1 d1=>?_⟩
  obtain⟨a,vs,rfl,ha,rv⟩:=d1.ofTup;cases rv with
  |cons d1 rv=>
   cases rv with
   |cons d2 rv=>
    cases rv with
    |cons d3 rv=>
     cases rv;exact⟨a,_,rfl,(ha).sq,rfl,_,_,rfl,_,_,rfl,_,_,rfl,rfl,p _ ad1 H1 x1 S1 ((((E.mono x1).set i d1).set j d2).set l d3)⟩
 ·exact Zb e
noncomputable def Zfu(K:fG7)(n:Nat)(t:TGs):TG:=fun v σ H Q=>∃ a xs,v=.ref a/\SqL K H a xs/\xs.length=n/\t xs σ H Q
theorem Zd6{es:Li Expr}{k:Nat}{pos:Pos}{t:TGs}(hc:X.calm=true)(h:PGs X es t)(hn:(assignEach es X.env).length=n)(hst:(assignEach es X.env).findIdx? (·.1)=none):PG X (.Tuple es k pos) (Zfu X.K n t):=by
 intro pQ s σ H v u Q I r hw;obtain⟨a,xs,e1,hq,hl,hw⟩:=hw;subst e1;cases r;obtain⟨its,rv,ht,hz⟩:=I.list hq;have e:n=its.toArray.size:=by rw[<-hl,rv.length,aJ]
 rw[assign_Tuple];refine aA (wpAny_standAt ?_);unfold unpack;rw[hn,hst,e];refine aA (wpAny_holding (PySem.W.kun_itemsOf (I.ok.hd hc) ht.isList fun h' hx=>?_))
 exact h pQ _ σ H xs _ Q (I.kept (t':=s.toks) fun b o e=>hx b o (aX (aK e)) e) rv hw
theorem JY(D:Ends)(σ:L2.St)(H:Hp)(h:tS K (VY i j l m fe) D σ H):tAsg (tE K fe) (Zfu K 4 (gCons (gName i) (gCons (gName j) (gCons (gName l) (gCons (gName m) gNil))))) D σ H:=by
 obtain⟨ad,ρ,st,r,st',E,S,e,p⟩:=ZF h;unfold VY at e;split at e
 ·rename_i b st1 q
  split at e
  ·rename_i q2
   cases e;refine⟨ad,ρ,st,_,_,E,S,q,fun v ad1 H1 x1 S1 d1=>?_⟩
   obtain⟨a,rfl,hl⟩:=d1.ofLst;obtain⟨vs,rv,hq⟩:=S1.list hl q2;cases rv with
   |cons d1 rv=>cases rv with
    |cons d2 rv=>cases rv with
     |cons d3 rv=>cases rv with
      |cons d4 rv=>
       cases rv;exact⟨a,_,rfl,hq,rfl,_,_,rfl,_,_,rfl,_,_,rfl,_,_,rfl,rfl,p _ ad1 H1 x1 S1 (((((E.mono x1).set i d1).set j d2).set l d3).set m d4)⟩
  ·exact Zb e
 ·exact Zb e
theorem UY(D:Ends)(σ:L2.St)(H:Hp)(h:tS K (Ja fe) D σ H):tDrop (tE K fe) D σ H:=by
 obtain⟨ad,ρ,st,r,st',E,S,e,p⟩:=ZF h;unfold Ja at e;split at e
 ·rename_i d st1 q
  cases e;exact⟨ad,ρ,st,d,_,E,S,q,fun v ad1 H1 x1 S1 d1=>p _ ad1 H1 x1 S1 (E.mono x1)⟩
 ·exact Zb e
theorem Zbv(D:Ends)(σ:L2.St)(H:Hp)(h:tS K (Yk fe f g) D σ H):tIfS (tT K fe) (tS K f) (tS K g) D σ H:=by
 obtain⟨ad,ρ,st,r,st',E,S,e,p⟩:=ZF h;unfold Yk at e;split at e
 ·rename_i st1 q
  refine⟨ad,ρ,st,true,st1,E,S,q,fun ad1 H1 x1 S1=>?_⟩
  dsimp only;rw[if_pos rfl];exact ZP (E.mono x1) S1 e (p.later x1)
 ·rename_i st1 q
  refine⟨ad,ρ,st,false,st1,E,S,q,fun ad1 H1 x1 S1=>?_⟩
  dsimp only;rw[if_neg bF7];exact ZP (E.mono x1) S1 e (p.later x1)
 ·exact Zb e
theorem Ve{ad:Li Ad}{a:Ad}(S:StOk K ad H st)(h:LA ad H i a):∃ b ds,st[i]?=some (b,ds):=by
 have hi:i < st.length:=by rw[<-S.len];exact(bE.mp h.1).1
 exact⟨st[i].1,st[i].2,by rw[lG7 hi]⟩
theorem UM{ad:Li Ad}{st2:Za}{a:Ad}{v:V}(S:StOk K ad H st)(h:LA ad H i a)(hd:Den K ad H v d)(e:Qt i d st=some st2) :
  ∃ xs,H a=some (.lst xs)/\xs.length < sizeLine/\Ext ad H ad (upd H a (.lst (xs++[v])))/\StOk K ad (upd H a (.lst (xs++[v]))) st2:=by
 unfold Qt at e;split at e
 ·rename_i ds q
  split at e
  ·rename_i hz
   cases e;obtain⟨xs,r,hx⟩:=S.listM h q;refine⟨xs,hx,?_,Ext.write hx (aV h.1),S.write h q hx (r.append (.cons hd .nil))⟩;rw[r.length];exact aS hz (by decide)
  ·exact Zb e
 ·exact Zb e
theorem Zbq(D:Ends)(σ:L2.St)(H:Hp)(h:tS K (Ua i fe) D σ H):tDrop (tBM K "list" rAppend (tVar i) (tCons (tE K fe) tNil)) D σ H:=by
 obtain⟨ad,ρ,st,r,st',E,S,e,p⟩:=ZF h;unfold Ua at e;split at e
 ·rename_i a q0
  split at e
  ·rename_i d st1 q1
   split at e
   ·rename_i st2 q2
    cases e;obtain⟨v,e1,e2⟩:=E.at_ i _ q0;obtain⟨l,rfl,hl⟩:=e2.ofLst;obtain⟨b,ds,hc⟩:=Ve S hl;obtain⟨xs,_,sq⟩:=S.list hl hc;refine⟨_,e1,.inl ⟨rfl,xs,sq⟩,ad,ρ,st,d,st1,E,S,q1,fun w ad1 H1 x1 S1 d1=>?_⟩
    obtain⟨ys,hy,hz,x2,S2⟩:=UM S1 (hl.mono x1) d1 q2;exact⟨l,ys,w,rfl,rfl,hy,hz,p _ ad1 _ (x1.trans x2) S2 (E.mono (x1.trans x2))⟩
   ·exact Zb e
  ·exact Zb e
 ·exact Zb e
theorem JG{fo:Ev}(D:Ends)(σ:L2.St)(H:Hp)(h:tS K (Jd fo fe) D σ H):tDrop (tBM K "list" rAppend (tE K fo) (tCons (tE K fe) tNil)) D σ H:=by
 obtain⟨ad,ρ,st,r,st',E,S,e,p⟩:=ZF h;unfold Jd at e;split at e
 ·rename_i a st0 q0
  split at e
  ·rename_i d st1 q1
   split at e
   ·rename_i st2 q2
    cases e;refine⟨ad,ρ,st,.lst a,st0,E,S,q0,fun v ad0 H0 x0 S0 d0=>?_⟩
    obtain⟨l,rfl,hl⟩:=d0.ofLst;obtain⟨b,ds,hc⟩:=Ve S0 hl;obtain⟨xs,_,sq⟩:=S0.list hl hc;refine⟨.inl ⟨rfl,xs,sq⟩,ad0,ρ,st0,d,st1,E.mono x0,S0,q1,fun w ad1 H1 x1 S1 d1=>?_⟩
    obtain⟨ys,hy,hz,x2,S2⟩:=UM S1 (hl.mono x1) d1 q2;exact⟨l,ys,w,rfl,rfl,hy,hz,p _ ad1 _ ((x0.trans x1).trans x2) S2 (E.mono ((x0.trans x1).trans x2))⟩
   ·exact Zb e
  ·exact Zb e
 ·exact Zb e
theorem Zbs(D:Ends)(σ:L2.St)(H:Hp)(h:tS K (Jz i fe) D σ H):tDrop (tBM K "list" rExtend (tVar i) (tCons (tE K fe) tNil)) D σ H:=by
 obtain⟨ad,ρ,st,r,st',E,S,e,p⟩:=ZF h;unfold Jz at e;split at e
 ·rename_i a q0
  split at e
  ·rename_i b st1 q1
   split at e
   ·rename_i st2 q2
    cases e;obtain⟨v,e1,e2⟩:=E.at_ i _ q0;obtain⟨l,rfl,hl⟩:=e2.ofLst;obtain⟨bb,ds,hc⟩:=Ve S hl;obtain⟨xs,_,sq⟩:=S.list hl hc;refine⟨_,e1,.inl ⟨rfl,xs,sq⟩,ad,ρ,st,.lst b,st1,E,S,q1,fun w ad1 H1 x1 S1 d1=>?_⟩
    obtain⟨m,rfl,hm⟩:=d1.ofLst;unfold ZdD at q2;split at q2
    ·rename_i cs es f1 f2
     split at q2
     ·rename_i hz
      cases q2;have hl1:=hl.mono x1;obtain⟨ys,ry,hy⟩:=S1.listM hl1 f1;obtain⟨zs,rz,hzz⟩:=S1.listM hm f2;have x2:=Ext.write (ys:=ys++zs) hy (aV hl1.1);refine⟨l,m,ys,zs,rfl,rfl,hy,hzz,?_,p _ ad1 _ (x1.trans x2) (S1.write hl1 f1 hy (ry.append rz)) (E.mono (x1.trans x2))⟩;rw[ry.length,rz.length];exact aM hz (by decide)
     ·exact Zb q2
    ·exact Zb q2
   ·exact Zb e
  ·exact Zb e
 ·exact Zb e
theorem ZbA(D:Ends)(σ:L2.St)(H:Hp)(h:tS K (Uu i fk fe) D σ H):tAsg (tE K fe) (gSub (tVar i) (tE K fk) rSetL) D σ H\/tS K (X7 (YT i) fk fe) D σ H:=by
 obtain⟨ad,ρ,st,r,st',E,S,e,p⟩:=ZF h;unfold Uu at e;split at e
 ·rename_i d st1 q1
  split at e
  ·rename_i a q0
   split at e
   ·rename_i j st2 q2
    split at e
    ·rename_i st3 q3
     cases e
     left
     obtain⟨v,e1,e2⟩:=E.at_ i _ q0;obtain⟨l,rfl,hl⟩:=e2.ofLst;refine⟨ad,ρ,st,d,st1,E,S,q1,fun w ad1 H1 x1 S1 d1=>⟨_,e1,ad1,ρ,st1,.int j,st2,E.mono x1,S1,q2,fun w2 ad2 H2 x2 S2 d2=>?_⟩⟩
     cases d2.ofInt;unfold X1 at q3;split at q3
     ·rename_i ds q4
      split at q3
      ·rename_i k q5
       cases q3;have hl2:=hl.mono (x1.trans x2);obtain⟨xs,r,hx⟩:=S2.listM hl2 q4;have x3:Ext ad2 H2 ad2 (upd H2 l (.lst (xs.set k w))):=Ext.write hx (aV hl2.1);refine⟨l,xs,j,k,rfl,rfl,hx,?_,p _ ad2 _ (x1.trans (x2.trans x3)) (S2.write hl2 q4 hx (r.set (d1.mono x2) k)) (E.mono (x1.trans (x2.trans x3)))⟩;rw[r.length];exact q5
      ·exact Zb q3
     ·exact Zb q3
    ·exact Zb e
   ·exact Zb e
  ·rename_i a q0
   split at e
   ·rename_i ks st2 q2
    split at e
    ·rename_i st3 q3
     cases e
     right
     refine ZP E S ?_ p;unfold X7 YT;simp only[q1,q0,q2,q3]
    ·exact Zb e
   ·exact Zb e
  ·exact Zb e
 ·exact Zb e
theorem JJ(σ:L2.St)(H:Hp)(Q:VK)(h:tE K ZcK σ H Q):ZaI K σ H Q:=by
 obtain⟨ad,ρ,st,d,st',E,S,e,p⟩:=h;cases e;intro q hq hk;exact p _ (ad++[q]) _ (S.extD hq hk) (S.pushD hq hk) (.dic (by rw[<-S.len];exact ZA) ⟨_,upd_same,rfl⟩)
def Left(K:fG7)(b:D->Env->Za->Ot (Fl×Za))(E:Ends)(xs:Li D)(σ:L2.St)(H:Hp):Prop:=∃ ad ρ st r st',EnvOk K ad H σ ρ/\StOk K ad H st/\Zs b xs ρ st=some (r,st')/\PostS K ad H r st' E
theorem Left.turn{b:Ex}{xs:Li D}{H:Hp}{v:V}(hv:∀ ad H,Den K ad H v x)(h:Left K (fun d ρ s=>b (Zh ρ i d) s) E (x :: xs) σ H) :
  tS K b { E with nx:=Left K (fun d ρ s=>b (Zh ρ i d) s) E xs,ct:=Left K (fun d ρ s=>b (Zh ρ i d) s) E xs,bk:=E.nx } (σ.set i (some v)) H:=by
 obtain⟨ad,ρ,st,r,st',En,S,e,p⟩:=h;unfold Zs at e;have En2:=En.set i (hv ad H);split at e
 ·rename_i ρ1 st1 q
  exact ZP En2 S q fun σ1 ad1 H1 x1 S1 E1=>⟨ad1,ρ1,st1,r,st',E1,S1,e,p.later x1⟩
 ·rename_i ρ1 st1 q
  exact ZP En2 S q fun σ1 ad1 H1 x1 S1 E1=>⟨ad1,ρ1,st1,r,st',E1,S1,e,p.later x1⟩
 ·rename_i ρ1 st1 q
  cases e;exact ZP En2 S q fun σ1 ad1 H1 x1 S1 E1=>p σ1 ad1 H1 x1 S1 E1
 ·rename_i d st1 q
  cases e;exact ZP En2 S q p
 ·exact Zb e
theorem Left.turnD{b:Ex}{xs:Li D}{ad:Li Ad}{ρ:Env}{r:Fl}{v:V}(En:EnvOk K ad H σ ρ)(S:StOk K ad H st)(hv:Den K ad H v x)(e:Zs (fun d ρ s=>b (Zh ρ i d) s) (x :: xs) ρ st=some (r,st'))(p:PostS K ad H r st' E)(L:L2.St->Hp->Prop)(hL:∀ σ1 ad1 H1 ρ1 st1,Ext ad H ad1 H1->StOk K ad1 H1 st1->EnvOk K ad1 H1 σ1 ρ1->Zs (fun d ρ s=>b (Zh ρ i d) s) xs ρ1 st1=some (r,st')->L σ1 H1) :
  tS K b { E with nx:=L,ct:=L,bk:=E.nx } (σ.set i (some v)) H:=by
 unfold Zs at e;have En2:=En.set i hv;split at e
 ·rename_i ρ1 st1 q
  exact ZP En2 S q fun σ1 ad1 H1 x1 S1 E1=>hL σ1 ad1 H1 ρ1 st1 x1 S1 E1 e
 ·rename_i ρ1 st1 q
  exact ZP En2 S q fun σ1 ad1 H1 x1 S1 E1=>hL σ1 ad1 H1 ρ1 st1 x1 S1 E1 e
 ·rename_i ρ1 st1 q
  cases e;exact ZP En2 S q fun σ1 ad1 H1 x1 S1 E1=>p σ1 ad1 H1 x1 S1 E1
 ·rename_i d st1 q
  cases e;exact ZP En2 S q p
 ·exact Zb e
theorem Left.done{b:D->Env->Za->Ot (Fl×Za)}(h:Left K b E [] σ H):E.nx σ H:=by
 obtain⟨ad,ρ,st,r,st',En,S,e,p⟩:=h;cases e;exact p σ ad H (Ext.refl _ _) S En
theorem Uv(n k:Nat)(h:k < n):((List.range n).map fun(j:Nat)=>D.int (j:Int)).drop k=D.int (k:Int) :: ((List.range n).map fun(j:Nat)=>D.int (j:Int)).drop (k+1):=by
 rw[cI (by simpa using h)]
 simp
theorem JQ(E:Ends)(σ:L2.St)(H:Hp)(h:tS K (Wb i true fi f) E σ H):tFor (iRng1 (tCons (tE K fi) tNil)) (gName i) (tS K f) E σ H:=by
 obtain⟨ad,ρ,st,r,st',En,S,e,p⟩:=ZF h;unfold Wb at e;split at e
 ·rename_i x st1 q1
  cases x with
  |int n=>
   have e:(match (if n < 2 ^ 62/\-(2 ^ 62)<=n then some ((List.range n.toNat).map fun(k:Nat)=>D.int (k:Int)) else none) with
    |some xs=>Zs (fun d ρ s=>f (Zh ρ i d) s) xs ρ st1
    |none=>none)=some (r,st'):=e
   by_cases hn:n < 2 ^ 62/\-(2 ^ 62)<=n
   ·rw[if_pos hn]at e
    refine⟨ad,ρ,st,.int n,st1,En,S,q1,fun v ad1 H1 x1 S1 d1=>⟨n,by rw[d1.ofInt],hn.2,hn.1,?_⟩⟩
    refine for_range (fun k σ' H'=>Left K (fun d ρ s=>f (Zh ρ i d) s) E (((List.range n.toNat).map fun(k:Nat)=>D.int (k:Int)).drop k) σ' H') ⟨ad1,ρ,st1,r,st',En.mono x1,S1,e,p.later x1⟩ (fun k σ' H' hk L=>?_) fun σ' H' L=>?_
    ·rw[Uv _ _ hk]at L
     have z:(0:Int)+(k:Int)=(k:Int):=Int.zero_add _;rw[z];exact L.turn fun _ _=>.int _
    ·rw[List.drop_eq_nil_of_le (by simp)]at L
     exact L.done
   ·rw[if_neg hn]at e
    cases e
  |_=>simp[Wi]at e
 ·exact Zb e
def ZcD(K:fG7)(b:D->Env->Za->Ot (Fl×Za))(E:Ends)(a:Ad)(vs:Li V)(xs:Li D)(k:Nat)(σ:L2.St)(H:Hp):Prop:=
 ∃ ad ρ st r st',EnvOk K ad H σ ρ/\StOk K ad H st/\(TupAt K H a vs/\Dens K ad H vs xs)/\Zs b (xs.drop k) ρ st=some (r,st')/\PostS K ad H r st' E
theorem JR(E:Ends)(σ:L2.St)(H:Hp){ad:Li Ad}{ρ:Env}{st1:Za}{r:Fl}{xs:Li D}(En:EnvOk K ad H σ ρ)(S:StOk K ad H st)(q1:fi ρ st=some (.tup xs,st1))(e:Zs (fun d ρ s=>f (Zh ρ i d) s) xs ρ st1=some (r,st'))(p:PostS K ad H r st' E):tFor (iTup K (tE K fi)) (gName i) (tS K f) E σ H:=by
 refine⟨ad,ρ,st,.tup xs,st1,En,S,q1,fun v ad1 H1 x1 S1 d1=>?_⟩
 obtain⟨a,vs,rfl,ha,rv⟩:=d1.ofTup;refine⟨a,rfl,⟨vs,(ha).sq⟩,?_⟩;refine for_tup (xs:=vs) (fun k σ' H'=>ZcD K (fun d ρ s=>f (Zh ρ i d) s) E a vs xs k σ' H') ⟨ad1,ρ,st1,r,st',En.mono x1,S1,⟨ha,rv⟩,by rw[cR];exact e,p.later x1⟩ (fun k σ' H' _ L=>?_) (fun k y σ' H' hk L=>?_) fun σ' H' L=>?_
 ·obtain⟨_,_,_,_,_,_,_,⟨h,_⟩,_⟩:=L
  exact(h).sq
 ·obtain⟨ad2,ρ2,st2,r2,st2',En2,S2,⟨h2,rv2⟩,e2,p2⟩:=L
  have hk':k < xs.length:=by rw[<-rv2.length];exact(bE.mp hk).1
  have hx:xs[k]?=some xs[k]:=lG7 hk';obtain⟨w,ew,dw⟩:=rv2.get hx;rw[hk]at ew;cases ew
  rw[cI hk']at e2;exact Left.turnD En2 S2 dw e2 p2 _ fun σ3 ad3 H3 ρ3 st3 x3 S3 E3 e3=>⟨ad3,ρ3,st3,r2,st2',E3,S3,⟨h2.mono x3,rv2.mono x3⟩,e3,p2.later x3⟩
 ·obtain⟨ad2,ρ2,st2,r2,st2',En2,S2,⟨h2,rv2⟩,e2,p2⟩:=L
  rw[rv2.length,List.drop_length]at e2;exact Left.done ⟨ad2,ρ2,st2,r2,st2',En2,S2,e2,p2⟩
theorem JN{G:TG}(E:Ends)(σ:L2.St)(H:Hp){ad:Li Ad}{ρ:Env}{st st1:Za}{r:Fl}{xs:Li D}(En:EnvOk K ad H σ ρ)(S:StOk K ad H st)(q1:fi ρ st=some (.lst l,st1))(q2:st1[l]?=some (bb,xs))(e:ZI B l xs.length 0 ρ st1=some (r,st'))(p:PostS K ad H r st' E)(hG:∀ (x:D) (v:V) (σ:L2.St) (H:Hp) (ad:Li Ad) (ρ:Env) (st st1:Za) (r1:Fl) (E':Ends),EnvOk K ad H σ ρ->StOk K ad H st->Den K ad H v x->B x ρ st=some (r1,st1)->PostS K ad H r1 st1 E'->G v σ H fun σ2 H2=>tS K f E' σ2 H2) :
  tFor (iList K (tE K fi)) G (tS K f) E σ H:=by
 refine⟨ad,ρ,st,.lst l,st1,En,S,q1,fun v ad1 H1 x1 S1 d1=>?_⟩
 obtain⟨a,rfl,ha⟩:=d1.ofLst;obtain⟨vs,rv,sq⟩:=S1.list ha q2;refine⟨a,rfl,⟨vs,sq⟩,?_⟩;refine⟨fun k m σ' H'=>∃ ad2 ρ2 st2,(EnvOk K ad2 H' σ' ρ2/\StOk K ad2 H' st2/\LA ad2 H' l a)/\ZI B l m k ρ2 st2=some (r,st')/\PostS K ad2 H' r st' E,⟨xs.length,ad1,ρ,st1,⟨En.mono x1,S1,ha⟩,e,p.later x1⟩,?_⟩
 rintro k m σ' H' ⟨ad2,ρ2,st2,⟨En2,S2,ha2⟩,e2,p2⟩
 obtain⟨b2,ys,hc⟩:=Ve S2 ha2;obtain⟨ws,rw',sq2⟩:=S2.list ha2 hc;have stop:ys.length<=k->ZI B l m k ρ2 st2=some (.nx ρ2,st2):=fun hk=>by
  cases m with
  |zero=>unfold ZI;simp only[hc];rw[if_pos hk]
  |succ m=>unfold ZI;simp only[hc,eB hk]
 by_cases hk:ys.length<=k
 ·refine .inl ⟨⟨ws,sq2,by rw[rw'.length];exact hk⟩,?_⟩
  rw[stop hk]at e2;cases e2;exact p2 σ' ad2 H' (Ext.refl _ _) S2 En2
 ·have hk':k < ys.length:=by omega
  have hy:ys[k]?=some ys[k]:=lG7 hk';obtain⟨w,ew,dw⟩:=rw'.get hy;cases m with
  |zero=>
   unfold ZI at e2;simp only[hc]at e2;rw[if_neg hk]at e2;cases e2
  |succ m=>
   unfold ZI at e2;simp only[hc,hy]at e2;refine .inr ⟨⟨ws,w,sq2,ew⟩,fun σ3 H3=>∃ ad3 ρ3 st3,(EnvOk K ad3 H3 σ3 ρ3/\StOk K ad3 H3 st3/\LA ad3 H3 l a)/\ZI B l m (k+1) ρ3 st3=some (r,st')/\PostS K ad3 H3 r st' E,fun σ3 H3 h3=>⟨m,bM m,h3⟩,fun x H3 hx=>?_⟩
   obtain⟨rfl,hx⟩:=hx;have ex:=hx ws sq2;rw[ew]at ex;cases ex
   split at e2
   ·rename_i ρ3 st3 q
    exact hG _ _ _ _ ad2 ρ2 st2 _ _ _ En2 S2 dw q fun σ4 ad4 H4 x4 S4 E4=>⟨ad4,ρ3,st3,⟨E4,S4,ha2.mono x4⟩,e2,p2.later x4⟩
   ·rename_i ρ3 st3 q
    exact hG _ _ _ _ ad2 ρ2 st2 _ _ _ En2 S2 dw q fun σ4 ad4 H4 x4 S4 E4=>⟨ad4,ρ3,st3,⟨E4,S4,ha2.mono x4⟩,e2,p2.later x4⟩
   ·rename_i ρ3 st3 q
    cases e2;exact hG _ _ _ _ ad2 ρ2 st2 _ _ _ En2 S2 dw q fun σ4 ad4 H4 x4 S4 E4=>p2 σ4 ad4 H4 x4 S4 E4
   ·rename_i d st3 q
    cases e2;exact hG _ _ _ _ ad2 ρ2 st2 _ _ _ En2 S2 dw q p2
   ·exact Zb e2
theorem JO(E:Ends)(σ:L2.St)(H:Hp)(h:tS K (Wb i false fi f) E σ H):tFor (iTup K (tE K fi)) (gName i) (tS K f) E σ H\/tFor (iList K (tE K fi)) (gName i) (tS K f) E σ H:=by
 obtain⟨ad,ρ,st,r,st',En,S,e,p⟩:=ZF h;unfold Wb at e;split at e
 ·rename_i x st1 q1
  cases x with
  |tup xs=>exact .inl (JR E σ H En S q1 e p)
  |lst l=>
   have e:(match st1[l]? with
    |some (_,xs)=>ZI (fun d ρ s=>f (Zh ρ i d) s) l xs.length 0 ρ st1
    |none=>none)=some (r,st'):=e
   split at e
   ·rename_i bb xs q2
    refine .inr (JN E σ H En S q1 q2 e p fun x v σ H ad ρ st st1 r1 E' En S dv e1 p1=>?_)
    exact ZP (En.set i dv) S e1 p1
   ·exact Zb e
  |_=>simp[Wi]at e
 ·exact Zb e
theorem QP{G:TG}(E:Ends)(σ:L2.St)(H:Hp){ad:Li Ad}{ρ:Env}{st st1:Za}{r:Fl}{xs:Li D}(En:EnvOk K ad H σ ρ)(S:StOk K ad H st)(q1:fi ρ st=some (.tup xs,st1))(e:Zs B xs ρ st1=some (r,st'))(p:PostS K ad H r st' E)(hG:∀ (x:D) (v:V) (σ:L2.St) (H:Hp) (ad:Li Ad) (ρ:Env) (st st1:Za) (r1:Fl) (E':Ends),EnvOk K ad H σ ρ->StOk K ad H st->Den K ad H v x->B x ρ st=some (r1,st1)->PostS K ad H r1 st1 E'->G v σ H fun σ2 H2=>tS K f E' σ2 H2) :
  tFor (iTup K (tE K fi)) G (tS K f) E σ H:=by
 refine⟨ad,ρ,st,.tup xs,st1,En,S,q1,fun v ad1 H1 x1 S1 d1=>?_⟩
 obtain⟨a,vs,rfl,ha,rv⟩:=d1.ofTup;refine⟨a,rfl,⟨vs,(ha).sq⟩,?_⟩;refine for_tup (xs:=vs) (fun k σ' H'=>ZcD K B E a vs xs k σ' H') ⟨ad1,ρ,st1,r,st',En.mono x1,S1,⟨ha,rv⟩,by rw[cR];exact e,p.later x1⟩ (fun k σ' H' _ L=>?_) (fun k y σ' H' hk L=>?_) fun σ' H' L=>?_
 ·obtain⟨_,_,_,_,_,_,_,⟨h,_⟩,_⟩:=L
  exact(h).sq
 ·obtain⟨ad2,ρ2,st2,r2,st2',En2,S2,⟨h2,rv2⟩,e2,p2⟩:=L
  have hk':k < xs.length:=by rw[<-rv2.length];exact(bE.mp hk).1
  have hx:xs[k]?=some xs[k]:=lG7 hk';obtain⟨w,ew,dw⟩:=rv2.get hx;rw[hk]at ew;cases ew
  rw[cI hk']at e2;unfold Zs at e2;split at e2
  ·rename_i ρ3 st3 q
   exact hG _ _ _ _ ad2 ρ2 st2 _ _ _ En2 S2 dw q fun σ4 ad4 H4 x4 S4 E4=>⟨ad4,ρ3,st3,r2,st2',E4,S4,⟨h2.mono x4,rv2.mono x4⟩,e2,p2.later x4⟩
  ·rename_i ρ3 st3 q
   exact hG _ _ _ _ ad2 ρ2 st2 _ _ _ En2 S2 dw q fun σ4 ad4 H4 x4 S4 E4=>⟨ad4,ρ3,st3,r2,st2',E4,S4,⟨h2.mono x4,rv2.mono x4⟩,e2,p2.later x4⟩
  ·rename_i ρ3 st3 q
   cases e2;exact hG _ _ _ _ ad2 ρ2 st2 _ _ _ En2 S2 dw q fun σ4 ad4 H4 x4 S4 E4=>p2 σ4 ad4 H4 x4 S4 E4
  ·rename_i d st3 q
   cases e2;exact hG _ _ _ _ ad2 ρ2 st2 _ _ _ En2 S2 dw q p2
  ·exact Zb e2
 ·obtain⟨ad2,ρ2,st2,r2,st2',En2,S2,⟨h2,rv2⟩,e2,p2⟩:=L
  rw[rv2.length,List.drop_length]at e2;exact Left.done ⟨ad2,ρ2,st2,r2,st2',En2,S2,e2,p2⟩
theorem JK(E:Ends)(σ:L2.St)(H:Hp)(h:tS K (Vu i j l fi f) E σ H):tFor (iTup K (tE K fi)) (gTup K 3 (gCons (gName i) (gCons (gName j) (gCons (gName l) gNil)))) (tS K f) E σ H:=by
 obtain⟨ad,ρ,st,r,st',En,S,e,p⟩:=ZF h;unfold Vu at e;split at e
 ·rename_i xs st1 q1
  refine QP E σ H En S q1 e p fun x v σ H ad ρ st st1 r1 E' En S dv e1 p1=>?_
  unfold ZeW at e1;split at e1
  ·rename_i y z u
   obtain⟨a,vs,rfl,ha,rv⟩:=dv.ofTup;cases rv with
   |cons d1 rv=>
    cases rv with
    |cons d2 rv=>
     cases rv with
     |cons d3 rv=>
      cases rv;exact⟨a,_,rfl,(ha).sq,rfl,_,_,rfl,_,_,rfl,_,_,rfl,rfl,ZP (((En.set i d1).set j d2).set l d3) S e1 p1⟩
  ·exact Zb e1
 ·exact Zb e
theorem QR(E:Ends)(σ:L2.St)(H:Hp)(h:tS K (ZQ fe f m) E σ H):tWhile (tT K fe) (tS K f) E σ H:=by
 obtain⟨ad,ρ,st,r,st',En,S,e,p⟩:=ZF h;refine⟨fun m σ H=>∃ ad ρ st,(EnvOk K ad H σ ρ/\StOk K ad H st)/\ZQ fe f m ρ st=some (r,st')/\PostS K ad H r st' E,⟨m,ad,ρ,st,⟨En,S⟩,e,p⟩,?_⟩
 rintro m σ H ⟨ad,ρ,st,⟨En,S⟩,e,p⟩
 cases m with
 |zero=>exact Zb e
 |succ m=>
  have e:Yk fe (Ys f (ZQ fe f m)) (fun ρ st=>some (.nx ρ,st)) ρ st=some (r,st'):=e
  unfold Yk at e;split at e
  ·rename_i st1 q
   refine⟨ad,ρ,st,true,st1,En,S,q,fun ad1 H1 x1 S1=>?_⟩
   dsimp only;rw[if_pos rfl];refine⟨fun σ H=>∃ ad ρ st,(EnvOk K ad H σ ρ/\StOk K ad H st)/\ZQ fe f m ρ st=some (r,st')/\PostS K ad H r st' E,fun σ' H' h=>⟨m,bM m,h⟩,?_⟩
   have e:Ys f (ZQ fe f m) ρ st1=some (r,st'):=e;unfold Ys at e;split at e
   ·rename_i ρ2 st2 q2
    exact ZP (En.mono x1) S1 q2 fun σ3 ad3 H3 x3 S3 E3=>⟨ad3,ρ2,st2,⟨E3,S3⟩,e,p.later (x1.trans x3)⟩
   ·rename_i ρ2 st2 q2
    exact ZP (En.mono x1) S1 q2 fun σ3 ad3 H3 x3 S3 E3=>⟨ad3,ρ2,st2,⟨E3,S3⟩,e,p.later (x1.trans x3)⟩
   ·rename_i ρ2 st2 q2
    cases e;exact ZP (En.mono x1) S1 q2 fun σ3 ad3 H3 x3 S3 E3=>p σ3 ad3 H3 (x1.trans x3) S3 E3
   ·rename_i v st2 q2
    cases e;exact ZP (En.mono x1) S1 q2 (Post.later p x1)
   ·exact Zb e
  ·rename_i st1 q
   cases e;refine⟨ad,ρ,st,false,_,En,S,q,fun ad1 H1 x1 S1=>?_⟩
   dsimp only;rw[if_neg bF7];exact p σ ad1 H1 x1 S1 (En.mono x1)
  ·exact Zb e
noncomputable def Itz(K:fG7)(a b:Ad):It:=
 ⟨fun i H=>∃ xs ys x y,SqL K H a xs/\SqL K H b ys/\xs[i]?=some x/\ys[i]?=some y,
  fun i H v H'=>∃ p x y,v=.ref p/\H p=none/\H'=upd H p (.tup [x,y])/\(∀ xs,SqL K H a xs->xs[i]?=some x)/\∀ ys,SqL K H b ys->ys[i]?=some y,
  fun i H=>∃ xs ys,SqL K H a xs/\SqL K H b ys/\min xs.length ys.length<=i⟩
noncomputable def Zfw(K:fG7)(ta:TA):TI:=fun σ H R=>ta σ H fun vs H1=>∃ a b,vs=[.ref a,.ref b]/\(∃ xs,SqL K H1 a xs)/\(∃ ys,SqL K H1 b ys)/\R (Itz K a b) H1
theorem Zae{ok:Za->Prop}{B:D->D->Env->Za->Ot (Fl×Za)}{l:Li (D×D)}{z:Fl×Za}(e:ZE ok B l ρ st=some z):ok st:=by
 cases l with
 |nil=>
  unfold ZE at e;by_cases h:ok st
  ·exact h
  ·rw[if_neg h]at e;cases e
 |cons _ _=>
  unfold ZE at e;by_cases h:ok st
  ·exact h
  ·rw[if_neg h]at e;cases e
inductive LK(K:fG7)(ok:Za->Prop)(B:D->D->Env->Za->Option (Fl×Za))(qs:List (D×D))(Good:List Addr->Hp->Prop)(r:Fl)(st':Za)(E:Ends)(k m:Nat)(σ:L2.St)(H:Hp):Prop
 |mk {ad:List Addr}{ρ:Env}{st:Za} (hk:k+m=qs.length) (En:EnvOk K ad H σ ρ) (S:StOk K ad H st) (g:Good ad H) (e:ZE ok B (qs.drop k) ρ st=some (r,st')) (p:PostS K ad H r st' E):LK K ok B qs Good r st' E k m σ H
def Zfa(K:fG7)(f:Ex)(i j:Nat)(J:It)(E:Ends)(σ:L2.St)(H1:Hp):Prop:=∃ W:Nat->Nat->L2.St->Hp->Prop,(∃ m,W 0 m σ H1)/\∀ i' m σ H,W i' m σ H->(J.stop i' H/\E.nx σ H)\/(J.go i' H/\∃ N:L2.St->Hp->Prop,(∀ σ' H',N σ' H'->∃ m',m' < m/\W (i'+1) m' σ' H')/\∀ x H',J.yld i' H x H'->gTup K 2 (gCons (gName i) (gCons (gName j) gNil)) x σ H' fun σ2 H2=>tS K f { E with nx:=N,ct:=N,bk:=E.nx } σ2 H2)
theorem Xg{ok:Za->Prop}{qs:Li (D×D)}{Good:Li Ad->Hp->Prop}{r:Fl}{J:It}(gm:∀ ad H ad' H',Ext ad H ad' H'->Good ad H->Good ad' H')(stop:∀ ad H st,Good ad H->StOk K ad H st->ok st->J.stop qs.length H)(go:∀ k ad H st q,Good ad H->StOk K ad H st->ok st->qs[k]?=some q->∃ w1 w2,J.go k H/\Den K ad H w1 q.1/\Den K ad H w2 q.2/\∀ x H',J.yld k H x H'->∃ pt,x=.ref pt/\H pt=none/\H'=upd H pt (.tup [w1,w2]))(k m:Nat)(σ:L2.St)(H:Hp)(h:LK K ok (fun x y ρ s=>f (Zh (Zh ρ i x) j y) s) qs Good r st' E k m σ H) :
  (J.stop k H/\E.nx σ H)\/(J.go k H/\∃ N:L2.St->Hp->Prop,(∀ σ' H',N σ' H'->∃ m',m' < m/\LK K ok (fun x y ρ s=>f (Zh (Zh ρ i x) j y) s) qs Good r st' E (k+1) m' σ' H')/\∀ x H',J.yld k H x H'->gTup K 2 (gCons (gName i) (gCons (gName j) gNil)) x σ H' fun σ2 H2=>tS K f { E with nx:=N,ct:=N,bk:=E.nx } σ2 H2):=by
 cases h with
 |@mk ad ρ st hkm En S g e p=>
  have ok2:=Zae e;by_cases hk:qs.length<=k
  ·have hk':k=qs.length:=by omega
   subst hk';rw[List.drop_length]at e;unfold ZE at e;rw[if_pos ok2]at e;cases e;exact .inl ⟨stop _ _ _ g S ok2,p σ _ H (Ext.refl _ _) S En⟩
  ·have hk':k < qs.length:=Nat.lt_of_not_le hk
   obtain⟨w1,w2,hgo,dw1,dw2,hy⟩:=go k _ _ _ qs[k] g S ok2 (lG7 hk');rw[cI hk']at e;unfold ZE at e;rw[if_pos ok2]at e;generalize qs[k]=q at e dw1 dw2;refine .inr ⟨hgo,LK K ok (fun x y ρ s=>f (Zh (Zh ρ i x) j y) s) qs Good r st' E (k+1) (m - 1),fun σ3 H3 h3=>⟨m - 1,by omega,h3⟩,fun x H3 hx=>?_⟩
   obtain⟨pt,rfl,hpt,rfl⟩:=hy x H3 hx;have xt:Ext ad H ad (upd H pt (.tup [w1,w2])):=Ext.laid hpt;have fin:∀ {rr:Fl}{s3:Za}{E':Ends},f (Zh (Zh ρ i q.1) j q.2) st=some (rr,s3)->PostS K ad (upd H pt (.tup [w1,w2])) rr s3 E'->gTup K 2 (gCons (gName i) (gCons (gName j) gNil)) (.ref pt) σ (upd H pt (.tup [w1,w2])) fun σ2 H2=>tS K f E' σ2 H2:=fun q pp=>
    ⟨pt,_,rfl,SqT.of upd_same,rfl,_,_,rfl,_,_,rfl,rfl,ZP (((En.mono xt).set i (dw1.mono xt)).set j (dw2.mono xt)) (S.laid hpt) q pp⟩
   have nxt:∀ {ρ3:Env}{st3:Za},ZE ok (fun x y ρ s=>f (Zh (Zh ρ i x) j y) s) (qs.drop (k+1)) ρ3 st3=some (r,st')->∀ (σ4:L2.St) (ad4:Li Ad) (H4:Hp),Ext ad (upd H pt (.tup [w1,w2])) ad4 H4->StOk K ad4 H4 st3->EnvOk K ad4 H4 σ4 ρ3->LK K ok (fun x y ρ s=>f (Zh (Zh ρ i x) j y) s) qs Good r st' E (k+1) (m - 1) σ4 H4:=fun e3 σ4 ad4 H4 x4 S4 E4=>
    .mk (by omega) E4 S4 (gm _ _ _ _ (xt.trans x4) g) e3 (p.later (xt.trans x4))
   clear hy go stop hkm hk hk' hgo;split at e
   ·rename_i q0
    exact fin q0 (nxt e)
   ·rename_i q0
    exact fin q0 (nxt e)
   ·rename_i q0
    cases e;exact fin q0 fun σ4 ad4 H4 x4 S4 E4=>p σ4 ad4 H4 (xt.trans x4) S4 E4
   ·rename_i q0
    cases e;exact fin q0 (p.later xt)
   ·exact Zb e
theorem JP(E:Ends)(σ:L2.St)(H:Hp)(h:tS K (JB i j fi f) E σ H):tFor (Zfw K (tA K fi)) (gTup K 2 (gCons (gName i) (gCons (gName j) gNil))) (tS K f) E σ H:=by
 obtain⟨ad,ρ,st,r,st',En,S,e,p⟩:=ZF h;unfold JB at e;split at e
 ·rename_i la lb st1 q1
  split at e
  ·rename_i ca cb hca hcb
   refine⟨ad,ρ,st,_,st1,En,S,q1,fun vs ad1 H1 x1 S1 d1=>?_⟩
   obtain⟨v1,v2,rfl,dv1,dv2⟩:∃ v1 v2,vs=[v1,v2]/\Den K ad1 H1 v1 (.lst la)/\Den K ad1 H1 v2 (.lst lb):=by
    cases d1 with
    |cons h1 d1=>
     cases d1 with
     |cons h2 d1=>cases d1;exact⟨_,_,rfl,h1,h2⟩
   obtain⟨a,rfl,ha⟩:=dv1.ofLst;obtain⟨b,rfl,hb⟩:=dv2.ofLst;obtain⟨us,ru,squ⟩:=S1.list ha (show st1[la]?=some (ca.1,ca.2) from hca);obtain⟨ws,rw',sqw⟩:=S1.list hb (show st1[lb]?=some (cb.1,cb.2) from hcb);refine⟨a,b,rfl,⟨us,squ⟩,⟨ws,sqw⟩,_,⟨_,.mk (Good:=fun ad H=>LA ad H la a/\LA ad H lb b) (bD _) (En.mono x1) S1 ⟨ha,hb⟩ e (p.later x1)⟩,Xg (fun _ _ _ _ x g=>⟨g.1.mono x,g.2.mono x⟩) (fun ad H st g S o=>?_) fun k ad H st q g S o hq=>?_⟩
   ·obtain⟨us,ru,squ⟩:=S.list g.1 (show st[la]?=some (ca.1,ca.2) from o.1)
    obtain⟨ws,rw',sqw⟩:=S.list g.2 (show st[lb]?=some (cb.1,cb.2) from o.2);exact⟨us,ws,squ,sqw,by rw[ru.length,rw'.length];exact cL (List.length_zip ..).symm⟩
   ·obtain⟨us,ru,squ⟩:=S.list g.1 (show st[la]?=some (ca.1,ca.2) from o.1)
    obtain⟨ws,rw',sqw⟩:=S.list g.2 (show st[lb]?=some (cb.1,cb.2) from o.2);obtain⟨h1,h2⟩:=List.getElem?_zip_eq_some.mp hq;obtain⟨w1,e1,d1⟩:=ru.get h1;obtain⟨w2,e2,d2⟩:=rw'.get h2;exact⟨w1,w2,⟨us,ws,w1,w2,squ,sqw,e1,e2⟩,d1,d2,fun x H' ⟨pt,y1,y2,z1,z2,z3,hy1,hy2⟩=>⟨pt,z1,z2,by have z:=hy1 us squ;rw[e1]at z;cases z;have z:=hy2 ws sqw;rw[e2]at z;cases z;exact z3⟩⟩
  ·exact Zb e
 ·exact Zb e
end
variable [ClsTab]
mutual
theorem UN:∀ {x y:D},Zr x y=true->x=y
 |.non,y,h=>by cases y<;>simp[Zr]at h ⊢
 |.bl a,y,h=>by cases y<;>simp[Zr]at h ⊢;exact h
 |.int a,y,h=>by cases y<;>simp[Zr]at h ⊢;exact h
 |.str a,y,h=>by cases y<;>simp[Zr]at h ⊢;exact h
 |.tup a,y,h=>by
  cases y with
  |tup b=>rw[Vi (x:=a) (y:=b) (by simpa[Zr] using h)]
  |_=>simp[Zr]at h
 |.lst a,y,h=>by cases y<;>simp[Zr]at h
 |.dct a b,y,h=>by cases y<;>simp[Zr]at h
 |.obj a,y,h=>by cases y<;>simp[Zr]at h
 |.kt a,y,h=>by cases y<;>simp[Zr]at h
 |.dic a,y,h=>by cases y<;>simp[Zr]at h
theorem Vi:∀ {x y:Li D},Zw x y=true->x=y
 |[],y,h=>by cases y<;>simp[Zw]at h ⊢
 |a :: x,y,h=>by
  cases y with
  |nil=>simp[Zw]at h
  |cons b y=>
   have h:(Zr a b&&Zw x y)=true:=h;rw[bA7]at h;rw[UN h.1,Vi h.2]
end
mutual
theorem Y2:∀ {n:Nat}{x:D},okD n x=true->Zr x x=true
 |_,.non,_=>rfl
 |_,.bl a,_=>by simp[Zr]
 |_,.int a,_=>by simp[Zr]
 |_,.str a,_=>by simp[Zr]
 |0,.tup a,h=>by simp[okD]at h
 |n+1,.tup a,h=>X3 (n:=n) (x:=a) h
 |_,.lst a,h=>by simp[okD]at h
 |_,.dct a b,h=>by simp[okD]at h
 |_,.obj a,h=>by simp[okD]at h
 |_,.kt a,h=>by simp[okD]at h
 |_,.dic a,h=>by simp[okD]at h
theorem X3:∀ {n:Nat}{x:Li D},ZT n x=true->Zw x x=true
 |_,[],_=>rfl
 |n,a :: x,h=>by
  have h:(okD n a&&ZT n x)=true:=h;rw[bA7]at h;show(Zr a a&&Zw x x)=true;rw[Y2 h.1,X3 h.2];rfl
end
theorem YX:∀ {n:Nat}{xs:Li D}{i:Nat}{d:D},ZT n xs=true->xs[i]?=some d->okD n d=true
 |_,[],_,_,_,e=>by simp at e
 |n,x :: xs,i,d,h,e=>by
  have h:(okD n x&&ZT n xs)=true:=h;rw[bA7]at h;cases i with
  |zero=>simp at e;subst e;exact h.1
  |succ i=>exact YX (i:=i) h.2 (by simpa using e)
theorem Yy:∀ {xs ys:Li D},Zw xs ys=((List.range (min xs.length ys.length)).all (fun i=>Zr ((xs[i]?).getD .non) ((ys[i]?).getD .non))&&xs.length==ys.length)
 |[],[]=>rfl
 |[],_ :: _=>by simp[Zw]
 |_ :: _,[]=>by simp[Zw]
 |x :: xs,y :: ys=>by
  have ih:=@Yy xs ys;show(Zr x y&&Zw xs ys)=_;rw[ih];have e:min (x :: xs).length (y :: ys).length=min xs.length ys.length+1:=by simp only[aO];omega
  rw[e,List.range_succ_eq_map,bC,List.all_map];simp only[aO];have z:(xs.length+1==ys.length+1)=(xs.length==ys.length):=by
   rw[bL];simp
  rw[z,Bool.and_assoc];rfl
variable{pQ:Li (Ad×Obj)}{s:sH7}{A:Around}
section
variable {X:Cx}{ad:Li Ad}{H:Hp}
def Ze9(X:Cx)(ad:Li Ad)(H:Hp)(v:V)(x:D):Prop:=∀ n m y,okD n x=true->okD m y=true->Den X.K ad H v y->x=y
theorem XS{n:Nat}{P:Prop}(h:okD n x=true)(h0:∀ n,okD n x=false):P:=by rw[h0]at h;cases h
theorem Zal(i n:Nat):okD n (.lst i)=false:=by cases n<;>rfl
theorem Zak(i n:Nat):okD n (.dic i)=false:=by cases n<;>rfl
theorem Zam(i n:Nat):okD n (.obj i)=false:=by cases n<;>rfl
theorem ZcU(ks:Li Str)(n:Nat):okD n (.kt ks)=false:=by cases n<;>rfl
theorem Zao{xs:Li D}(h:okD n (.tup xs)=true):∃ m,ZT m xs=true:=by
 cases n with
 |zero=>cases h
 |succ n=>exact⟨n,h⟩
theorem Den.injP(J:∀ (a:Ad) (xs ys:Li V),TupAt X.K H a xs->TupAt X.K H a ys->xs=ys){v:V}(h:Den X.K ad H v x):Ze9 X ad H v x:=
 Den.rec (motive_1:=fun v x _=>Ze9 X ad H v x) (motive_2:=fun vs xs _=>∀ n m ys,ZT n xs=true->ZT m ys=true->Dens X.K ad H vs ys->xs=ys)
  (fun _ _ _ _ _ h=>by cases h;rfl) (fun _ _ _ _ _ _ h=>by cases h;rfl) (fun _ _ _ _ _ _ h=>by cases h;rfl) (fun _ _ _ _ _ _ h=>by cases h;rfl)
  (fun e _ ih n m y hx hy h=>by
   obtain⟨n',hx⟩:=Zao hx;cases h with
   |tup e' r'=>
    cases J _ _ _ e e'
    obtain⟨m',hy⟩:=Zao hy;rw[ih n' m' _ hx hy r']
   |lst _=>exact XS hy (Zal _)
   |dic _ _=>exact XS hy (Zak _)
   |obj _ _=>exact XS hy (Zam _)
   |kt _ _ _ _ _ _=>exact XS hy (ZcU _))
  (fun _ _ _ _ hx _ _=>XS hx (Zal _)) (fun _ _ _ _ _ hx _ _=>XS hx (Zak _)) (fun _ _ _ _ _ hx _ _=>XS hx (Zam _)) (fun _ _ _ _ _ _ _ _ _ hx _ _=>XS hx (ZcU _))
  (fun _ _ _ _ _ h=>by cases h;rfl)
  (fun _ _ i1 i2 n m ys hx hy h=>by
   cases h with
   |cons a' r'=>
    have hx:=dG.mp hx;have hy:=dG.mp hy;rw[i1 n m _ hx.1 hy.1 a',i2 n m _ hx.2 hy.2 r']) h
theorem Den.inj(J:∀ (a:Ad) (xs ys:Li V),TupAt X.K H a xs->TupAt X.K H a ys->xs=ys){v:V}{y:D}(hx:okD n x=true)(hy:okD m y=true)(h:Den X.K ad H v x)(h':Den X.K ad H v y):x=y:=h.injP J n m y hx hy h'
theorem Dens.inj(J:∀ (a:Ad) (xs ys:Li V),TupAt X.K H a xs->TupAt X.K H a ys->xs=ys){xs ys:Li D}(hx:ZT n xs=true)(hy:ZT m ys=true)(h:Dens X.K ad H vs xs)(h':Dens X.K ad H vs ys):xs=ys:=by
 induction vs generalizing xs ys with
 |nil=>cases h;cases h';rfl
 |cons v vs ih=>
  cases h with
  |cons a r=>cases h' with
   |cons a' r'=>
    have hx:=dG.mp hx;have hy:=dG.mp hy;rw[a.inj J hx.1 hy.1 a',ih hx.2 hy.2 r r']
open PySem.SeqAt in
theorem Jy(I:Inv X pQ σ H s):∀ (n:Nat) (x y:D) (A:Around) (vx vy:V) (ux uy:vL),okD n x=true->okD n y=true->A.units+n < cLine->Den X.K ad H vx x->Den X.K ad H vy y->RelV vx ux->RelV vy uy->EqAt A s ux uy (Zr x y):=by
 intro n
 induction n with
 |zero=>
  intro x y A vx vy ux uy hx hy hu dx dy rx ry;cases dx with
  |non=>
   cases rx;cases dy with
   |non=>cases ry;exact EqAt.same _
   |int j=>obtain⟨t',rfl⟩:=ry;exact EqAt.none_int j t'
   |str j=>obtain⟨t',rfl⟩:=ry;exact EqAt.none_str j t'
   |_=>simp[okD]at hy
  |int i=>
   obtain⟨t,rfl⟩:=rx;cases dy with
   |non=>cases ry;exact EqAt.int_none i t
   |int j=>obtain⟨t',rfl⟩:=ry;exact(show Zr (.int i) (.int j)=(i==j) from by rw[bL];simp[Zr]) ▸ EqAt.int_int i t j t'
   |str j=>obtain⟨t',rfl⟩:=ry;exact EqAt.int_str i t j t'
   |_=>simp[okD]at hy
  |str i=>
   obtain⟨t,rfl⟩:=rx;cases dy with
   |non=>cases ry;exact EqAt.str_none i t
   |int j=>obtain⟨t',rfl⟩:=ry;exact EqAt.str_int i t j t'
   |str j=>obtain⟨t',rfl⟩:=ry;exact(show Zr (.str i) (.str j)=(i==j) from by rw[bL];simp[Zr]) ▸ EqAt.str_str i t j t'
   |_=>simp[okD]at hy
  |_=>simp[okD]at hx
 |succ n ih=>
  intro x y A vx vy ux uy hx hy hu dx dy rx ry;cases dx with
  |non=>
   cases rx;cases dy with
   |non=>cases ry;exact EqAt.same _
   |int j=>obtain⟨t',rfl⟩:=ry;exact EqAt.none_int j t'
   |str j=>obtain⟨t',rfl⟩:=ry;exact EqAt.none_str j t'
   |tup e r=>
    cases ry;obtain⟨its,_,p,_⟩:=I.tuple ((e).sq);exact EqAt.none_tuple p (by omega)
   |_=>simp[okD]at hy
  |int i=>
   obtain⟨t,rfl⟩:=rx;cases dy with
   |non=>cases ry;exact EqAt.int_none i t
   |int j=>obtain⟨t',rfl⟩:=ry;exact(show Zr (.int i) (.int j)=(i==j) from by rw[bL];simp[Zr]) ▸ EqAt.int_int i t j t'
   |str j=>obtain⟨t',rfl⟩:=ry;exact EqAt.int_str i t j t'
   |tup e r=>
    cases ry;obtain⟨its,_,p,_⟩:=I.tuple ((e).sq);exact EqAt.int_tuple i t p (by omega)
   |_=>simp[okD]at hy
  |str i=>
   obtain⟨t,rfl⟩:=rx;cases dy with
   |non=>cases ry;exact EqAt.str_none i t
   |int j=>obtain⟨t',rfl⟩:=ry;exact EqAt.str_int i t j t'
   |str j=>obtain⟨t',rfl⟩:=ry;exact(show Zr (.str i) (.str j)=(i==j) from by rw[bL];simp[Zr]) ▸ EqAt.str_str i t j t'
   |tup e r=>
    cases ry;obtain⟨its,_,p,_⟩:=I.tuple ((e).sq);exact EqAt.str_tuple i t p (by omega)
   |_=>simp[okD]at hy
  |@tup a xs ds e r=>
   cases rx;obtain⟨its,rv,p,_⟩:=I.tuple ((e).sq);cases dy with
   |non=>cases ry;exact EqAt.tuple_none p (by omega)
   |int j=>obtain⟨t',rfl⟩:=ry;exact EqAt.tuple_int j t' p (by omega)
   |str j=>obtain⟨t',rfl⟩:=ry;exact EqAt.tuple_str j t' p (by omega)
   |@tup b ys es e' r'=>
    cases ry;by_cases hab:a=b
    ·subst hab
     have z:=Den.inj (fun _ _ _ e e2=>I.tuple_inj e.sq e2.sq) (n:=n+1) (m:=n+1) hx hy (Den.tup e r) (Den.tup e' r')
     cases z;rw[Y2 hx];exact EqAt.same _
    ·obtain⟨its',rv',p',_⟩:=I.tuple ((e').sq)
     refine EqAt.of_refs hab ?_;have q:=RcAt.tuples (A:=A) (s:=s) (e:=fun i=>Zr ((ds[i]?).getD .non) ((es[i]?).getD .non)) p p' (by omega) fun j h1 h2=>?_
     ·have e1:its.toArray.size=ds.length:=by rw[aJ,<-rv.length,r.length]
      have e2:its'.toArray.size=es.length:=by rw[aJ,<-rv'.length,r'.length]
      rw[e1,e2]at q;show RcAt A s (.ref a) (.ref b) (Zw ds es);rw[Yy];exact q
     ·have l1:j < ds.length:=by rw[<-r.length,rv.length];simpa using h1
      have l2:j < es.length:=by rw[<-r'.length,rv'.length];simpa using h2
      have g1:ds[j]?=some ds[j]:=lG7 l1;have g2:es[j]?=some es[j]:=lG7 l2;obtain⟨v1,q1,d1⟩:=r.get g1;obtain⟨v2,q2,d2⟩:=r'.get g2;obtain⟨u1,w1,r1⟩:=rv.get q1;obtain⟨u2,w2,r2⟩:=rv'.get q2;have f1:its.toArray[j]=u1:=by
       have:its[j]?=some (its[j]'(by simpa using h1)):=lG7 _
       rw[w1]at this;simpa using(Option.some.inj this).symm
      have f2:its'.toArray[j]=u2:=by
       have:its'[j]?=some (its'[j]'(by simpa using h2)):=lG7 _
       rw[w2]at this;simpa using(Option.some.inj this).symm
      rw[f1,f2,g1,g2];exact ih ds[j] es[j] A.in1 v1 v2 u1 u2 (YX hx g1) (YX hy g2) (by show A.units+1+n < cLine;omega) d1 d2 r1 r2
   |_=>simp[okD]at hy
  |_=>simp[okD]at hx
open PySem.SeqAt in
theorem Um(I:Inv X pQ σ H s){a b:Ad}{xs:Li V}{its its':Li vL}(hx:ZT n ds=true)(hy:ZT n es=true)(hu:A.units+n+1 < cLine)(r:Dens X.K ad H xs ds)(r':Dens X.K ad H ys es)(rv:Vals xs its)(rv':Vals ys its')(j:Nat)(h1:j < its.toArray.size)(h2:j < its'.toArray.size):EqAt A.in1 s its.toArray[j] its'.toArray[j] (Zr ((ds[j]?).getD .non) ((es[j]?).getD .non)):=by
 have l1:j < ds.length:=by rw[<-r.length,rv.length];simpa using h1
 have l2:j < es.length:=by rw[<-r'.length,rv'.length];simpa using h2
 have g1:ds[j]?=some ds[j]:=lG7 l1;have g2:es[j]?=some es[j]:=lG7 l2;obtain⟨v1,q1,d1⟩:=r.get g1;obtain⟨v2,q2,d2⟩:=r'.get g2;obtain⟨u1,w1,r1⟩:=rv.get q1;obtain⟨u2,w2,r2⟩:=rv'.get q2;have f1:its.toArray[j]=u1:=by
  have:its[j]?=some (its[j]'(by simpa using h1)):=lG7 _
  rw[w1]at this;simpa using(Option.some.inj this).symm
 have f2:its'.toArray[j]=u2:=by
  have:its'[j]?=some (its'[j]'(by simpa using h2)):=lG7 _
  rw[w2]at this;simpa using(Option.some.inj this).symm
 rw[f1,f2,g1,g2];exact Jy I n ds[j] es[j] A.in1 v1 v2 u1 u2 (YX hx g1) (YX hy g2) (by show A.units+1+n < cLine;omega) d1 d2 r1 r2
open PySem.SeqAt in
theorem Zb0(I:Inv X pQ σ H s){a b:Ad}{xs:Li V}(hx:ZT n ds=true)(hy:ZT n es=true)(hu:A.units+n+1 < cLine)(e:TupAt X.K H a xs)(r:Dens X.K ad H xs ds)(e':TupAt X.K H b ys)(r':Dens X.K ad H ys es):RcAt A s (.ref a) (.ref b) (Zw ds es)/\RcNeAt A s (.ref a) (.ref b) (!Zw ds es):=by
 obtain⟨its,rv,p,_⟩:=I.tuple (e.sq);obtain⟨its',rv',p',_⟩:=I.tuple (e'.sq);have e1:its.toArray.size=ds.length:=by rw[aJ,<-rv.length,r.length]
 have e2:its'.toArray.size=es.length:=by rw[aJ,<-rv'.length,r'.length]
 have q:=RcAt.tuples (A:=A) (s:=s) (e:=fun i=>Zr ((ds[i]?).getD .non) ((es[i]?).getD .non)) p p' (by omega) fun j h1 h2=>Um (a:=a) (b:=b) I hx hy hu r r' rv rv' j h1 h2
 have q':=RcNeAt.tuples (A:=A) (s:=s) (e:=fun i=>Zr ((ds[i]?).getD .non) ((es[i]?).getD .non)) p p' (by omega) fun j h1 h2=>Um (a:=a) (b:=b) I hx hy hu r r' rv rv' j h1 h2
 rw[e1,e2]at q q';rw[Yy];exact⟨q,q'⟩
end
variable [ClsTab]
section
variable {K:fG7}{ad:Li Ad}{H:Hp}{fe fo fk:Ev}
theorem Vt(r:Ents K ad H kvs ds):kvs.length=ds.length:=by
 induction r with
 |nil=>rfl
 |cons _ _ ih=>rw[aO,aO,ih]
theorem QJ{x:Str}{v:V}(hd:Den K ad H v d)(r:Ents K ad H kvs ds):Ents K ad H (putF x v kvs) (Z2 x d ds):=by
 induction r with
 |nil=>exact .cons hd .nil
 |@cons k w c kvs ds h r ih=>
  show Ents K ad H (if k=x then (k,v) :: kvs else (k,w) :: putF x v kvs) (if decide (k=x)=true then .tup [.str x,d] :: ds else .tup [.str k,c] :: Z2 x d ds)
  by_cases q:k=x
  ·rw[if_pos q,if_pos (aH q),q];exact .cons hd r
  ·rw[if_neg q,if_neg (fun z=>q (of_decide_eq_true z))];exact .cons h ih
theorem QK{x:Str}(r:Ents K ad H kvs ds)(e:YA ds x=some d):∃ v,kvs.lookup x=some v/\Den K ad H v d:=by
 induction r with
 |nil=>exact Zb e
 |@cons k w c kvs ds h r ih=>
  by_cases q:k=x
  ·subst q
   unfold YA at e;rw[List.find?_cons_of_pos (show isK k (.tup [.str k,c])=true from aH rfl)]at e;cases e;exact⟨w,by rw[bO,beq_self_eq_true],h⟩
  ·unfold YA at e
   rw[eC (show ¬isK x (.tup [.str k,c])=true from fun z=>q (of_decide_eq_true z))]at e
   obtain⟨v,e1,e2⟩:=ih e;exact⟨v,by rw[bO,show(x==k)=false from bY.mpr fun z=>q z.symm];exact e1,e2⟩
theorem JS{x:Str}(hx:fldNames.contains x=true)(D:Ends)(σ:L2.St)(H:Hp)(h:tS K (Vw i x fe) D σ H):sFld K (tVar i) (tE K fe) x D σ H:=by
 obtain⟨ad,ρ,st,r,st',E,S,e,p⟩:=ZF h;unfold Vw at e;split at e
 ·rename_i d st1 q1
  split at e
  ·rename_i a q0
   split at e
   ·rename_i c es q2
    split at e
    ·rename_i hz
     cases e;obtain⟨v,e1,e2⟩:=E.at_ i _ q0;obtain⟨l,rfl,hl,n⟩:=e2.ofDic;refine⟨ad,ρ,st,d,st1,E,S,q1,fun w ad1 H1 x1 S1 d1=>⟨_,e1,?_⟩⟩
     obtain⟨j,dx,kvs,rfl,r,ho,_,oc,nf⟩:=S1.obj (x1.pre _ _ hl) ((x1.kd _ _ hl).mp n) q2;have xw:∀ fs,Ext ad1 H1 ad1 (upd H1 l (.ins (ClsTab.ca j) dx fs)):=fun fs=>Ext.writeM ho rfl rfl (aV (x1.pre _ _ hl))
     refine⟨l,_,dx,kvs,rfl,ho,oc.cl,oc.na x hx,by rw[Vt r];omega,?_⟩
     exact p _ ad1 _ (x1.trans (xw _)) (S1.writeO (x1.pre _ _ hl) q2 ho oc (QJ d1 r) fun k hk=>by
      rw[lookup_putF,if_neg (fun z=>by rw[z,hx]at hk;cases hk)]
      exact nf k hk) (E.mono (x1.trans (xw _)))
    ·exact Zb e
   ·exact Zb e
  ·exact Zb e
 ·exact Zb e
theorem EntN.length(r:EntN K ad H xs ds):xs.length=ds.length:=by
 induction r with
 |nil=>rfl
 |cons _ _ _ _ ih=>rw[aO,aO,ih]
theorem EntN.keys{xs:Li (D×Ad×Ad)}(r:EntN K ad H xs ds):∀ x∈xs,Den K ad H (.ref x.2.1) x.1/\okN 8 x.1=true:=by
 induction r with
 |nil=>exact fun x hx=>(nomatch hx)
 |cons h ok _ _ ih=>
  intro x hx;rcases aG.mp hx with rfl|hx
  ·exact⟨h,ok⟩
  ·exact ih x hx
theorem EntN.snoc{ka va:Ad}(r:EntN K ad H xs ds)(h:Den K ad H (.ref ka) k)(ok:okN 8 k=true)(v:Den K ad H (.ref va) d):EntN K ad H (xs++[(k,ka,va)]) (ds++[.tup [k,d]]):=by
 induction r with
 |nil=>exact .cons h ok v .nil
 |cons a b c _ ih=>exact .cons a b c ih
theorem U8:∀ {n:Nat}{d:D},okN n d=true->okD n d=true:=by
 intro n
 induction n using Nat.strongRecOn with
 |_ n ih=>
  intro d h;cases okW h with
  |int _ i=>cases n<;>rfl
  |str _ i=>cases n<;>rfl
  |@tup n ds ok=>
   show ZT n ds=true;clear h
   induction ds with
   |nil=>cases n<;>rfl
   |cons d ds ihd=>
    rw[bC,bA7]at ok;rw[ZT,ih n (bM n) ok.1,ihd ok.2];rfl
theorem EntN.look{xs:Li (D×Ad×Ad)}(r:EntN K ad H xs ds)(ok:okN 8 k=true):(∃ z d,(z∈xs/\z.1=k)/\Yo ds k=some d/\Den K ad H (.ref z.2.2) d)\/((∀ x∈xs,x.1≠k)/\Yo ds k=none):=by
 induction r with
 |nil=>exact .inr ⟨fun x hx=>(nomatch hx),rfl⟩
 |@cons k' d ka va xs ds h ok' v r ih=>
  by_cases q:k'=k
  ·refine .inl ⟨(k',ka,va),d,⟨lQ7,q⟩,?_,v⟩
   unfold Yo;rw[List.find?_cons_of_pos (show Wx k (.tup [k',d])=true by rw[q];exact Y2 (U8 ok))]
   rfl
  ·have e:Yo (.tup [k',d] :: ds) k=Yo ds k:=by
    unfold Yo;rw[eC (show ¬Wx k (.tup [k',d])=true from fun z=>q (UN z))]
   rw[e];rcases ih with⟨z,d',⟨a,b⟩,c⟩|⟨a,b⟩
   ·exact .inl ⟨z,d',⟨lM7 _ a,b⟩,c⟩
   ·refine .inr ⟨fun x hx=>?_,b⟩
    rcases aG.mp hx with rfl|hx
    ·exact q
    ·exact a x hx
theorem EntN.any{xs:Li (D×Ad×Ad)}(r:EntN K ad H xs ds)(ok:okN 8 k=true)(e:ds.any (Wx k)=false):∀ x∈xs,x.1≠k:=by
 induction r with
 |nil=>exact fun x hx=>(nomatch hx)
 |@cons k' d ka va xs ds h ok' v r ih=>
  rw[cF,dQ]at e;intro x hx;rcases aG.mp hx with rfl|hx
  ·intro q
   have e1:Zr k' k=false:=e.1;rw[show k'=k from q,Y2 (U8 ok)]at e1;cases e1
  ·exact ih e.2 x hx
theorem Zbi{a:Nat}(h:dput a k d st=some st'):∃ xs,st[a]?=some (true,xs)/\(((Y7 xs=false/\okN 8 k=true)/\WZ d=true)/\xs.length < Zu/\xs.any (Wx k)=false)/\st'=st.set a (true,xs++[.tup [k,d]]):=by
 unfold dput at h;split at h
 ·rename_i xs q
  split at h
  ·rename_i c
   cases h;exact⟨xs,q,c,rfl⟩
  ·exact Zb h
 ·exact Zb h
theorem VC(D:Ends)(σ:L2.St)(H:Hp)(h:tS K (X7 fo fk fe) D σ H):tAsg (tE K fe) (gSub (tE K fo) (tE K fk) (ZcW K)) D σ H:=by
 obtain⟨ad,ρ,st,r,st',E,S,e,p⟩:=ZF h;unfold X7 at e;split at e
 ·rename_i d st1 q1
  split at e
  ·rename_i a st2 q2
   split at e
   ·rename_i ks st3 q3
    split at e
    ·rename_i st4 q4
     cases e;obtain⟨ds,q5,⟨⟨⟨ob,ok⟩,tp⟩,hz,hn⟩,rfl⟩:=Zbi q4;refine⟨ad,ρ,st,d,st1,E,S,q1,fun w ad1 H1 x1 S1 d1=>⟨ad1,ρ,st1,.dic a,st2,E.mono x1,S1,q2,fun w2 ad2 H2 x2 S2 d2=>⟨ad2,ρ,st2,.tup ks,st3,E.mono (x1.trans x2),S2,q3,fun w3 ad3 H3 x3 S3 d3=>?_⟩⟩⟩
     obtain⟨l,rfl,hl,n⟩:=d2.ofDic;obtain⟨b,_,rfl,_,_⟩:=d3.ofTup;obtain⟨va,rfl⟩:∃ va,w=.ref va:=by
      cases d with
      |tup es=>obtain⟨va,_,z,_,_⟩:=d1.ofTup;exact⟨va,z⟩
      |_=>cases tp
     obtain⟨xs,⟨r,nd⟩,ho,_⟩:=S3.dict (x3.pre _ _ hl) ((x3.kd _ _ hl).mp n) q5 ob;have xw:∀ fs,Ext ad3 H3 ad3 (upd H3 l (.dN fs)):=fun fs=>Ext.writeM ho rfl rfl (aV (x3.pre _ _ hl))
     have na:=r.any ok hn;refine⟨l,b,va,xs,.tup ks,ad3,⟨rfl,rfl,rfl⟩,⟨ho,nd,d3,ok,r.keys⟩,by rw[r.length];exact aS hz (by decide),na,?_⟩
     refine p _ ad3 _ (x1.trans (x2.trans (x3.trans (xw _)))) (S3.writeD (x3.pre _ _ hl) q5 ho (r.snoc d3 ok (d1.mono (x2.trans x3))) ?_) (E.mono (x1.trans (x2.trans (x3.trans (xw _)))));rw[bG,dC];refine⟨nd,bR.mpr ⟨(fun h=>nomatch h),dF⟩,fun x hx y hy e=>?_⟩
     rw[aP.mp (show y∈[Dp.D.tup ks] from hy)]at e;obtain⟨z,hz',rfl⟩:=bB.mp hx;exact na z hz' e
    ·exact Zb e
   ·exact Zb e
  ·exact Zb e
 ·exact Zb e
end
end Dp



namespace Dp
open PySem PySem.Spec PyProof.Rows L2 Builtin Builtin.Str
variable [ClsTab]
section
variable {X:Cx}{tg:Expr}
end
end Dp



namespace Dp
open PySem PySem.Spec PyProof.Rows L2
variable [ClsTab]
variable{X:Cx}{pQ:Li (Ad×Obj)}{σ:L2.St}{H:Hp}{Q:VK}
section
open Builtin
open AutoSeq1 (wpAny_loadPart')
theorem XJ:fillsNumberSlot (.type "tuple") "mul"=pure false:=
 PySem.fillsNumberSlot_seq (id := "tuple.__mul__") (r:=some (.builtin "tuple.__rmul__")) F.slot_tuple_mul.lookup (by decide +kernel) F.slot_tuple_rmul.lookup (by decide +kernel)
theorem W8:seqRepeat? (.type "tuple")=pure (some (.builtin "tuple.__mul__")):=by
 unfold seqRepeat?
 rw[PySem.seqSlot_of (T := "tuple") (name := "__mul__") (id := "tuple.__mul__") F.slot_tuple_mul.lookup (by decide +kernel),PySem.seqSlot_of (T := "tuple") (name := "__rmul__") (id := "tuple.__rmul__") F.slot_tuple_rmul.lookup (by decide +kernel)]
 rfl
theorem Uy(a:Int)(t:Tok)(l:Ad)(items:Array vL)(n:Nat)(dd:Ot Ad)(sl:Array (Ot vL)):Meets (Builtin.«int.__rmul__» ⟨[.int a t,.ref l],[]⟩) (fun _ R s=>s.heap.get? l=some { cls:=.type "tuple",dict:=dd,data:=.seq items n,slots:=sl }/\R (.ok (.ret Value.notImplemented)) s):=
 .of_wp fun prog w A R s h=>by obtain⟨hp,g,d,tk,os⟩:=s;obtain⟨hl,h⟩:=h;wp_walk;exact⟨_,rfl,h⟩
theorem ZaK(l:Ad)(items:Array vL)(n:Nat)(dd:Ot Ad)(sl:Array (Ot vL))(u:Tok) :
  Meets (Builtin.«tuple.__mul__» ⟨[.ref l,.int 1 u],[]⟩) (fun _ R s=>s.heap.get? l=some { cls:=.type "tuple",dict:=dd,data:=.seq items n,slots:=sl }/\R (.ok (.ret (Value.ref l))) s):=
 .of_wp fun prog w A R s h=>by
  obtain⟨hp,g,d,tk,os⟩:=s;obtain⟨hl,h⟩:=h;have f1:=AutoSeq1.idx_int;wp_walk using wpAny_loadPart' hl;exact⟨_,rfl,h⟩
theorem ZaJ(l:Ad)(items:Array vL)(n:Nat)(dd:Ot Ad)(sl:Array (Ot vL))(k:Int)(u:Tok)(h0:¬items.isEmpty=true)(h1:k<=0)(h2:-1000<=k) :
  Meets (Builtin.«tuple.__mul__» ⟨[.ref l,.int k u],[]⟩) (fun _ R s=>s.heap.get? l=some { cls:=.type "tuple",dict:=dd,data:=.seq items n,slots:=sl }/\R (.ok (.ret (Value.ref s.heap.objs.size))) { s with heap:=s.heap.push { cls:=.type "tuple",data:=.seq #[] } }):=
 .of_wp fun prog w A R s h=>by
  obtain⟨hp,g,d,tk,os⟩:=s;obtain⟨hl,h⟩:=h;have f1:=AutoSeq1.idx_int;have a1:(decide (k < -(2 ^ 63))||decide (k>=2 ^ 63))=false:=by rw[aE (by omega),aE (by omega)];rfl
  have a2:(items.isEmpty||k==1)=false:=by
   have:(k==1)=false:=by rw[bY];omega
   rw[this,dA];simpa using h0
  have a3:(decide (k<=0)||items.isEmpty)=true:=by rw[aH h1];rfl
  wp_walk using wpAny_loadPart' hl
  refine wpAny_ite_false (by rw[a1];rfl) ?_
  wp_walk using wpAny_loadPart' hl
  refine wpAny_ite_false (by rw[a2];rfl) ?_
  wp_walk using wpAny_loadPart' hl
  exact⟨_,rfl,h⟩
theorem ZaL(l:Ad)(items:Array vL)(n:Nat)(dd:Ot Ad)(sl:Array (Ot vL))(k:Int)(u:Tok)(h0:items.size=1)(h1:2<=k)(h2:k<=1000) :
  Meets (Builtin.«tuple.__mul__» ⟨[.ref l,.int k u],[]⟩) (fun _ R s=>s.heap.get? l=some { cls:=.type "tuple",dict:=dd,data:=.seq items n,slots:=sl }/\R (.ok (.ret (Value.ref s.heap.objs.size))) { s with heap:=s.heap.push { cls:=.type "tuple",data:=.seq ((List.replicate k.toNat items).foldl (fun x1 x2=>x1++x2) #[]) } }):=
 .of_wp fun prog w A R s h=>by
  obtain⟨hp,g,d,tk,os⟩:=s;obtain⟨hl,h⟩:=h;have f1:=AutoSeq1.idx_int;have a1:(decide (k < -(2 ^ 63))||decide (k>=2 ^ 63))=false:=by rw[aE (by omega),aE (by omega)];rfl
  have ae:items.isEmpty=false:=by
   rw[Array.isEmpty_eq_false_iff];intro z;rw[z]at h0;simp at h0
  have a2:(items.isEmpty||k==1)=false:=by
   have:(k==1)=false:=by rw[bY];omega
   rw[this,dA];exact ae
  have a3:(decide (k<=0)||items.isEmpty)=false:=by rw[aE (by omega),ae];rfl
  have a4:decide ((items.size:Int) * k > (2 ^ 63 - 1) / 8)=false:=by rw[h0];exact aE (by omega)
  have a5:Tuple.tupleTooMany ((items.size:Int) * k)=false:=by
   unfold Tuple.tupleTooMany;rw[h0];exact aE (by have:(sizeLine:Int)>=1000:=(by decide);omega)
  have a6:decide (((List.replicate k.toNat items).foldl (fun x1 x2=>x1++x2) #[]).size > sizeLine)=false:=by
   rw[AutoListH.size_joined];refine aE ?_;have:sizeLine>=1000:=by decide
   simp only[h0,Array.size_empty];omega
  wp_walk using wpAny_loadPart' hl
  refine wpAny_ite_false (by rw[a1];rfl) ?_
  wp_walk using wpAny_loadPart' hl
  refine wpAny_ite_false (by rw[a2];rfl) ?_
  wp_walk using wpAny_loadPart' hl
  refine wpAny_ite_false (by rw[a3];rfl) ?_
  wp_walk using wpAny_loadPart' hl
  refine wpAny_ite_false a4 ?_
  wp_walk using wpAny_loadPart' hl
  refine wpAny_ite_false (by rw[a5];rfl) ?_
  wp_walk using wpAny_loadPart' hl
  exact⟨_,rfl,h⟩
theorem Zb2{s:sH7}{a:Ad}{v:V}{k:Int}{t:Tok}(I:L2.Inv X pQ σ H s)(ha:TupAt X.K H a [v])(h1:k<=1000)(h2:-1000<=k)(q1:k=1->Q (.ref a) H)(q2:∀ p,H p=none->Q (.ref p) (upd H p (.tup (List.replicate k.toNat v)))):wpAny (model X.prog X.w) X.A (binaryOp .Mult (.ref a) (.int k t)) (EP X pQ σ Q) X.xe s:=by
 obtain⟨its,r,p1,_⟩:=I.tuple (ha.sq);obtain⟨u,rfl,ru⟩:=r.one;obtain⟨⟨c1,dd,dt,sl⟩,ho,hc,n,hd⟩:=id p1;simp only at hc hd;subst hc hd;have fin:∀ its':Li vL,Vals (List.replicate k.toNat v) its'->EP X pQ σ Q (.ref s.heap.objs.size) { s with heap:=s.heap.push { cls:=.type "tuple",data:=.seq its'.toArray } }:=fun its' r'=>
  ⟨.ref s.heap.objs.size,_,I.laid (t':=s.toks) (o:=.tup (List.replicate k.toNat v)) (fun b ob q=>aQ _ q) (aD _) ⟨by rw[bT];exact aM (show k.toNat<=1000 by omega) (by decide),its',r',IsTup.new _ _⟩,rfl,q2 _ (I.hok.fresh (aD _))⟩
 refine wpAny_binaryOp_repeat_ref (T := "tuple") (U := "int") (by decide) ⟨_,ho,rfl⟩ (fun s'=>typeIs_int s' k t) XJ F.fills_int_mul F.slot_int_rmul W8 F.slot_int_index.lookup
  (call_meets F.slot_int_rmul (typeIs_int s k t) F.entry_int_rmul (F.args_int_rmul_2 _ _) (Uy k t a _ n dd sl) ⟨ho,rfl,⟨_,ho,rfl⟩,?_⟩)
 by_cases e1:k=1
 ·subst e1
  exact call_meets F.slot_tuple_mul ⟨_,ho,rfl⟩ F.entry_tuple_mul (F.args_tuple_mul_2 _ _) (ZaK a _ n dd sl t) ⟨ho,⟨.ref a,H,I,rfl,q1 rfl⟩⟩
 ·by_cases e0:k<=0
  ·refine call_meets F.slot_tuple_mul ⟨_,ho,rfl⟩ F.entry_tuple_mul (F.args_tuple_mul_2 _ _) (ZaJ a _ n dd sl k t (by simp) e0 h2) ⟨ho,?_⟩
   have z:k.toNat=0:=by omega
   exact fin [] (by rw[z];exact .nil)
  ·refine call_meets F.slot_tuple_mul ⟨_,ho,rfl⟩ F.entry_tuple_mul (F.args_tuple_mul_2 _ _) (ZaL a _ n dd sl k t (by simp) (by omega) h1) ⟨ho,?_⟩
   have e:List.foldl (fun x1 x2=>x1++x2) #[] (List.replicate k.toNat [u].toArray)=(List.replicate k.toNat u).toArray:=by
    have e2:=foldl_rep [u] k.toNat [];rw[dB]at e2;rw[show([]:Li vL).toArray=#[] from rfl]at e2;rw[e2]
    congr 1
    generalize k.toNat=j
    induction j with
    |zero=>rfl
    |succ j ih=>rw[bV,cN,ih,bV];rfl
   rw[e];refine fin _ ?_;generalize k.toNat=j
   induction j with
   |zero=>exact .nil
   |succ j ih=>exact .cons ru ih
end
theorem Yg:Zu<=sizeLine:=by decide
variable{ys vs:Li V}{op:Operator}{u:vL}{ds:Li D}{d:D}{st:Za}{lo hi:Ot Int}{prog:Program}{w:World}{A:Around}{E:vL->sH7->Prop}{items:Array vL}{k:Bool}
section
variable {X:Cx}
theorem Uq{i:Int}(h:Z8 i=true):-(2 ^ 64) < i/\i < 2 ^ 64:=by
 unfold Z8 at h;rw[bA7]at h;exact⟨of_decide_eq_true h.1,of_decide_eq_true h.2⟩
theorem Zbc{s:sH7}{a b:Ad}{xs:Li V}(I:Inv X pQ σ H s)(ha:TupAt X.K H a xs)(hb:TupAt X.K H b ys)(hz:xs.length+ys.length<=sizeLine)(q0:xs=[]->Q (.ref b) H)(q1:ys=[]->Q (.ref a) H)(q2:∀ p,H p=none->Q (.ref p) (upd H p (.tup (xs++ys)))):wpAny (model X.prog X.w) X.A (binaryOp .Add (.ref a) (.ref b)) (EP X pQ σ Q) X.xe s:=by
 by_cases hx:xs=[]
 ·obtain⟨its,r1,p1,_⟩:=I.tuple (ha.sq)
  obtain⟨its2,r2,p2,_⟩:=I.tuple (hb.sq);have e1:its=[]:=r1.nil_iff.mpr hx;subst e1;obtain⟨⟨c1,dd,dt,sl⟩,ho,hc,n,hd⟩:=id p1;obtain⟨⟨c2,dd2,dt2,sl2⟩,ho2,hc2,n2,hd2⟩:=id p2;simp only at hc hd hc2 hd2;subst hc hd hc2 hd2;exact concat_meets ⟨_,ho,rfl⟩ ⟨_,ho2,rfl⟩ noFill_tuple_add seq_tuple_add PySem.F.slot_tuple_add PySem.F.entry_tuple_add (PySem.F.args_tuple_add_2 _ _)
   (tuple_addW0 a b #[] its2.toArray n n2 dd dd2 sl sl2 rfl) ⟨ho,ho2,⟨.ref b,H,I,rfl,q0 hx⟩⟩
 ·exact op_catT pQ s σ H (.ref a) (.ref b) _ _ Q I rfl rfl ⟨a,b,xs,ys,rfl,rfl,(ha).sq,(hb).sq,hx,hz,q1,fun _=>q2⟩
theorem Qu{i j:Int}(hi:0<=i)(hj:0<=j):Builtin.bitAnd i j=((i.toNat &&& j.toNat:Nat):Int):=by
 unfold Builtin.bitAnd;simp[hi,hj]
theorem Qv{i j:Int}(hi:0<=i)(hj:j < 0):Builtin.bitAnd i j=i - ((i.toNat &&& (-j - 1).toNat:Nat):Int):=by
 unfold Builtin.bitAnd;rw[aH hi,aE (by omega)]
 rfl
theorem Jg{i j:Int}(hi:0<=i)(hj:0<=j):Builtin.bitOr i j=((i.toNat ||| j.toNat:Nat):Int):=by
 unfold Builtin.bitOr;have n:∀ {k:Int},0<=k->decide (0<=Builtin.bitNot k)=false:=fun {k} h=>by unfold Builtin.bitNot;exact aE (by omega)
 have nn:∀ k:Int,Builtin.bitNot (Builtin.bitNot k)=k:=fun k=>by unfold Builtin.bitNot;omega
 have e:Builtin.bitAnd (Builtin.bitNot i) (Builtin.bitNot j)=Builtin.bitNot ((Builtin.bitNot (Builtin.bitNot i)).toNat ||| (Builtin.bitNot (Builtin.bitNot j)).toNat:Nat):=by
  unfold Builtin.bitAnd;rw[n hi,n hj]
 rw[e,nn,nn,nn]
theorem ZbU{i j k:Int}{s:sH7}{v:vL}(I:L2.Inv X pQ σ H s)(rx:RelV (.int i) v)(ry:RelV (.int j) u)(e:Za7 op i j=some k)(p:Q (.int k) H) :
  wpAny (model X.prog X.w) X.A (binaryOp op v u) (EP X pQ σ Q) X.xe s:=by
 unfold Za7 at e;split at e
 ·cases e
  exact op_add pQ s σ H _ _ v u Q I rx ry ⟨_,_,rfl,rfl,p⟩
 ·cases e
  exact op_sub pQ s σ H _ _ v u Q I rx ry ⟨_,_,rfl,rfl,p⟩
 ·split at e
  ·rename_i hl
   cases e;refine op_mul pQ s σ H _ _ v u Q I rx ry ⟨_,_,rfl,rfl,?_,p⟩;rw[bW]at hl;exact hl.elim (fun z=>.inl (Uq z)) fun z=>.inr (Uq z)
  ·cases e
 ·split at e
  ·rename_i hl
   cases e;exact op_fdiv pQ s σ H _ _ v u Q I rx ry ⟨_,_,rfl,rfl,hl,p⟩
  ·split at e
   ·rename_i hl
    cases e;exact op_fdivN pQ s σ H _ _ v u Q I rx ry ⟨_,_,rfl,rfl,⟨by omega,by omega⟩,p⟩
   ·cases e
 ·split at e
  ·rename_i hl
   cases e;exact op_mod pQ s σ H _ _ v u Q I rx ry ⟨_,_,rfl,rfl,hl,p⟩
  ·split at e
   ·rename_i hl
    cases e;exact op_modN pQ s σ H _ _ v u Q I rx ry ⟨_,_,rfl,rfl,(by omega),p⟩
   ·cases e
 ·split at e
  ·rename_i hl
   cases e;have:=Uq hl.2.2;exact op_shl pQ s σ H _ _ v u Q I rx ry ⟨_,_,rfl,rfl,⟨hl.1,by omega,by omega⟩,p⟩
  ·cases e
 ·split at e
  ·rename_i hl
   cases e;refine op_and pQ s σ H _ _ v u Q I rx ry ⟨_,_,rfl,rfl,?_⟩;dsimp only;rw[Qu hl.1 hl.2];exact p
  ·split at e
   ·rename_i hl
    cases e;refine op_and pQ s σ H _ _ v u Q I rx ry ⟨_,_,rfl,rfl,?_⟩;dsimp only;rw[Qv hl.1 hl.2];exact p
   ·cases e
 ·split at e
  ·rename_i hl
   cases e;refine op_or pQ s σ H _ _ v u Q I rx ry ⟨_,_,rfl,rfl,?_⟩;dsimp only;rw[Jg hl.1 hl.2];exact p
  ·cases e
 ·cases e
theorem QC{s:sH7}{a b:Ad}{xs:Li V}(I:L2.Inv X pQ σ H s)(ha:SqL X.K H a xs)(hb:SqL X.K H b ys)(hz:xs.length+ys.length<=sizeLine)(q:∀ p,H p=none->Q (.ref p) (upd H p (.lst (xs++ys)))):wpAny (model X.prog X.w) X.A (binaryOp .Add (.ref a) (.ref b)) (EP X pQ σ Q) X.xe s:=by
 obtain⟨its,r,p1,_⟩:=I.list ha;obtain⟨its2,r2,p2,_⟩:=I.list hb;obtain⟨⟨cls,dd,data,sl⟩,ho,hc,n,hd⟩:=id p1.isList;obtain⟨⟨cls2,dd2,data2,sl2⟩,ho2,hc2,n2,hd2⟩:=id p2.isList;simp only at hc hd hc2 hd2;subst hc hd hc2 hd2;have e:its.toArray++its2.toArray=(its++its2).toArray:=by simp
 have l1:=r.length;have l2:=r2.length;refine concat_meets ⟨_,ho,rfl⟩ ⟨_,ho2,rfl⟩ noFill_list_add seq_list_add PySem.F.slot_list_add PySem.F.entry_list_add (PySem.F.args_list_add_2 _ _) (list_addW a b its.toArray its2.toArray n n2 dd dd2 sl sl2 (by simp;omega)) ⟨ho,ho2,?_⟩
 rw[e];exact⟨.ref _,_,I.lnew (t':=s.toks) (r.append r2) (by rw[aI];omega),rfl,q _ I.fresh⟩
theorem V7(h:VF op=true):op=.Add:=by cases op<;>first|rfl|cases h
theorem Zag(h:J3 op=true):op=.Mult:=by cases op<;>first|rfl|cases h
theorem ZbT:OpR X (binaryOp op) (rD X.K (Vk op)):=by
 intro pQ s σ H x y v u Q I rx ry h;obtain⟨ad,st,dx,dy,d,st',S,hx,hy,e,p⟩:=h;unfold Vk at e;split at e
 ·split at e
  ·rename_i k q
   cases e;cases hx;cases hy
   exact ZbU I rx ry q (p.at S (.int _))
  ·exact Zb e
 ·split at e
  ·rename_i hz0
   cases V7 hz0.1
   have hz:=hz0.2;cases e;obtain⟨a,xs,rfl,ha,r1⟩:=hx.ofTup;obtain⟨b,ys,rfl,hb,r2⟩:=hy.ofTup;cases rx;cases ry
   refine Zbc I ha hb (by rw[r1.length,r2.length];exact aM hz Yg) (fun z=>?_) (fun z=>?_) fun q hq=>?_
   ·subst z;cases r1
    exact p.at S hy
   ·subst z;cases r2
    rw[aW]at p;exact p.at S hx
   ·exact p _ ad _ (Ext.laid hq) (S.laid hq) (.tup (.inl upd_same) ((r1.append r2).mono (Ext.laid hq)))
  ·exact Zb e
 ·split at e
  ·rename_i hz0
   cases Zag hz0
   obtain⟨a,xs,rfl,ha,r1⟩:=hx.ofTup;cases hy;cases rx;obtain⟨t,rfl⟩:=ry;cases r1 with
   |nil=>exact Zb e
   |cons d1 r1=>cases r1 with
    |cons _ _=>exact Zb e
    |nil=>
     have e:(if _/\_ then some (D.tup (List.replicate _ _),st) else none)=some (d,st'):=e
     split at e
     ·rename_i hz
      cases e;refine Zb2 I ha hz.1 hz.2 (fun z=>?_) fun q hq=>p _ ad _ (Ext.laid hq) (S.laid hq) (.tup (.inl upd_same) ((Dens.rep d1 _).mono (Ext.laid hq)))
      subst z;exact p.at S (.tup ha (.cons d1 .nil))
     ·exact Zb e
  ·exact Zb e
 ·split at e
  ·rename_i hop
   cases V7 hop
   unfold QB at e;split at e
   ·rename_i xs ys q1 q2
    split at e
    ·rename_i hz
     cases e;obtain⟨a,rfl,ha⟩:=hx.ofLst;obtain⟨b,rfl,hb⟩:=hy.ofLst;obtain⟨vs,r1,h1⟩:=S.list ha q1;obtain⟨ws,r2,h2⟩:=S.list hb q2;cases rx;cases ry
     refine QC I h1 h2 (by rw[r1.length,r2.length];exact aM hz Yg) fun q hq=>?_
     refine p _ (ad++[q]) _ (Ext.push hq) (S.push hq (r1.append r2)) (.newL ?_);rw[<-S.len];exact ZA
    ·exact Zb e
   ·exact Zb e
  ·exact Zb e
 ·split at e
  ·rename_i hop
   cases Zag hop
   unfold Zb1 at e;split at e
   ·rename_i z q1
    split at e
    ·rename_i hz
     cases e;obtain⟨a,rfl,ha⟩:=hx.ofLst;obtain⟨vs,r1,h1⟩:=S.listM ha q1;cases hy;cases r1 with
     |cons d1 r1=>
      cases r1;rename_i w;refine op_rep pQ s σ H _ _ v u Q I rx ry ⟨a,_,[w],rfl,rfl,h1,by omega,by omega,?_,fun q hq=>?_⟩
      ·rw[dZ,Nat.one_mul]
       exact aM (show _<=1000 by omega) (by decide)
      ·have e1:∀ k:Nat,(List.replicate k [w]).flatten=List.replicate k w:=fun k=>by
        induction k with
        |zero=>rfl
        |succ k ih=>rw[bV,cN,ih,bV];rfl
       rw[e1];refine p _ (ad++[q]) _ (Ext.push hq) (S.push hq (Dens.rep d1 _)) (.newL ?_);rw[<-S.len];exact ZA
    ·exact Zb e
   ·exact Zb e
  ·exact Zb e
 ·split at e
  ·rename_i hz
   cases V7 hz.1
   cases e;cases hx;cases hy
   exact op_add_str pQ s σ H _ _ v u Q I rx ry ⟨_,_,rfl,rfl,aM hz.2 Yg,p.at S (.str _)⟩
  ·exact Zb e
 ·exact Zb e
theorem Zcv:UnR X (unaryOp .USub) (rU1 X.K Zd0):=by
 intro pQ s σ H x v Q I rx h;obtain⟨ad,st,dx,d,st',S,hx,e,p⟩:=h;unfold Zd0 at e;split at e
 ·cases e;cases hx
  exact un_neg pQ s σ H _ v Q I rx ⟨_,rfl,p.at S (.int _)⟩
 ·exact Zb e
theorem Ub{xs:Li V}{ad:Li Ad}{i:Int}(r:Dens X.K ad H xs ds)(e:atD ds i=some d):∃ v,atI xs i=some v/\Den X.K ad H v d:=by
 unfold atD at e;have hl:L2.ixN xs.length i=Dp.ixN ds.length i:=by rw[r.length];rfl
 cases q:Dp.ixN ds.length i with
 |none=>rw[q]at e;cases e
 |some j=>
  rw[q]at e;obtain⟨v,e1,e2⟩:=r.get (i:=j) e;refine⟨v,?_,e2⟩;unfold atI;rw[hl,q];exact e1
theorem Xw{ad:Li Ad}{H:Hp}{k:Str}:∀ {ks:Li Str}{vs:Li V}{ds:Li D},Dens X.K ad H vs ds->ks.length=vs.length->
  (∃ v d,valV ((ks.zip vs).map fun p=>((Sum.inr p.1:Key),p.2)) (Sum.inr k)=some v/\Z5 ks ds k=some d/\Den X.K ad H v d)\/(valV ((ks.zip vs).map fun p=>((Sum.inr p.1:Key),p.2)) (Sum.inr k)=none/\Z5 ks ds k=none)
 |[],_,_,.nil,_=>.inr ⟨rfl,rfl⟩
 |[],_,_,.cons _ _,h=>by simp at h
 |_ :: _,_,_,.nil,h=>by simp at h
 |x :: ks,v :: vs,d :: ds,.cons hd r,h=>by
  by_cases e:x=k
  ·subst e
   exact .inl ⟨v,d,valV_pos rfl,by simp[Z5],hd⟩
  ·have ih:=Xw (k:=k) r (by simpa using h)
   have e1:valV (((x :: ks).zip (v :: vs)).map fun p=>((Sum.inr p.1:Key),p.2)) (Sum.inr k)=valV ((ks.zip vs).map fun p=>((Sum.inr p.1:Key),p.2)) (Sum.inr k):=valV_neg (p:=(Sum.inr x,v)) (by intro z;exact e (Sum.inr.inj z))
   have e2:Z5 (x :: ks) (d :: ds) k=Z5 ks ds k:=by simp[Z5,e]
   rw[e1,e2];exact ih
theorem Ju{ks:Li D}{a:Nat}{o:Ot D}(h:dAt ks a st=some o):∃ b xs,st[a]?=some (b,xs)/\(Y7 xs=false/\okN 8 (.tup ks)=true)/\o=Yo xs (.tup ks):=by
 unfold dAt at h;split at h
 ·rename_i b xs q
  split at h
  ·rename_i c
   cases h;exact⟨b,xs,q,c,rfl⟩
  ·exact Zb h
 ·exact Zb h
theorem Zfg{x:Str}{i:Int}(q:atD ((chS x).map D.str) i=some d):∃ c,atI x.cps.toList i=some c/\d=.str ⟨#[c]⟩:=by
 unfold atD at q;unfold atI;have hl:((chS x).map D.str).length=x.cps.toList.length:=by simp[chS]
 rw[hl]at q;show ∃ c,(Dp.ixN x.cps.toList.length i).bind (fun j=>x.cps.toList[j]?)=some c/\_
 cases e:Dp.ixN x.cps.toList.length i with
 |none=>rw[e]at q;cases q
 |some j=>
  rw[e]at q;have q:((chS x).map D.str)[j]?=some d:=q;unfold chS at q;rw[aR,aR]at q;show ∃ c,x.cps.toList[j]?=some c/\_;cases e2:x.cps.toList[j]? with
  |none=>rw[e2]at q;cases q
  |some c=>rw[e2]at q;cases q;exact⟨c,rfl,rfl⟩
theorem Zgi(hu:X.A.units+64 < cLine):IxR X (rD X.K ixR):=by
 intro value slice pQ s σ H x y v u Q I rx ry h hs;obtain⟨ad,st,dx,dy,d,st',S,hx,hy,e,p⟩:=h;unfold ixR at e;split at e
 ·rename_i d' q
  cases e;unfold ixD at q;split at q
  ·obtain⟨a,xs,rfl,ha,r⟩:=hx.ofTup
   cases hy;obtain⟨w,e1,e2⟩:=Ub r q;exact ix_tup value slice pQ s σ H _ _ v u Q I rx ry ⟨a,xs,_,w,rfl,rfl,(ha).sq,e1,p.at S e2⟩ hs
  ·split at q
   ·rename_i q0
    obtain⟨a,rfl,ha⟩:=hx.ofLst;cases hy;obtain⟨xs,r,sq⟩:=S.list ha q0;obtain⟨w,e1,e2⟩:=Ub r q;exact ix_list value slice pQ s σ H _ _ v u Q I rx ry ⟨a,xs,_,w,rfl,rfl,sq,e1,p.at S e2⟩ hs
   ·exact Zb q
  ·obtain⟨a,vs,rfl,ha,hl,r⟩:=hx.ofDct
   cases hy;rcases Xw r hl with⟨w,d0,e1,e2,e3⟩|⟨_,e2⟩
   ·rw[e2]at q
    cases q;exact ix_dct value slice pQ s σ H _ _ v u Q I rx ry ⟨a,_,Sum.inr _,w,rfl,rfl,ha,e1,p.at S e3⟩ hs
   ·rw[e2]at q;cases q
  ·obtain⟨a,o,its,n,rfl,h1,h2,h3,h4,h5⟩:=hx.ofKt
   cases hy;obtain⟨w,e1,e2⟩:=Ub (WI _) q;exact ix_tup value slice pQ s σ H _ _ v u Q I rx ry ⟨a,_,_,w,rfl,rfl,.inr ⟨o,its,n,h1,h2.1,h3,h4,h5⟩,e1,p.at S e2⟩ hs
  ·refine j_e q fun q=>?_
   obtain⟨bb,es,q0,ob,q⟩:=Ju q;obtain⟨a,rfl,ha,hn⟩:=hx.ofDic;obtain⟨xs,⟨r,nd⟩,hk,_⟩:=S.dict ha hn q0 ob.1;obtain⟨b,_,rfl,_,_⟩:=id hy.ofTup;rcases r.look ob.2 with⟨z,d0,ez,e2,e3⟩|⟨_,e2⟩
   ·rw[e2]at q
    cases q;exact Zfz (by omega) value slice pQ s σ H _ _ v u Q I rx ry ⟨a,b,xs,_,_,z,⟨rfl,rfl⟩,⟨hk,nd,hy,ob.2,r.keys⟩,ez.1,ez.2,p.at S e3⟩ hs
   ·rw[e2]at q;cases q
  ·split at q
   ·rename_i hz
    cases hx;cases hy
    obtain⟨c,e1,rfl⟩:=Zfg q;exact ix_str value slice pQ s σ H _ _ v u Q I rx ry ⟨_,_,c,rfl,rfl,aM hz Yg,e1,p.at S (.str _)⟩ hs
   ·exact Zb q
  ·exact Zb q
 ·exact Zb e
theorem YD(n d:Nat)(o:Ot Int):Dp.sIx n d o=HT.sIx n d o:=by cases o<;>rfl
theorem Jr{xs:Li V}{ad:Li Ad}(r:Dens X.K ad H xs ds):Dens X.K ad H (cutV xs lo hi) (YQ ds lo hi):=by
 unfold cutV YQ;rw[<-r.length,YD,YD];exact(r.drop _).take _
theorem Ww{s:sH7}{t sl:Ad}{vl vu:vL}{Q:vL->sH7->Prop}(ht:IsTup s.heap t items)(hs:s.heap.IsSliceOf sl vl vu .none)(pl:IsPart vl lo)(pu:IsPart vu hi)(hw:HT.sIx items.size 0 lo=0/\HT.sIx items.size items.size hi=items.size)(h:Q (.ref t) s):wpAny (model prog w) A (getItem (.ref t) (.ref sl)) Q E s:=by
 obtain⟨os,hos,hcs,hds⟩:=id hs;have hTs:s.TypeIs (.ref sl) "slice":=⟨os,hos,hcs⟩;unfold getItem
 try with_reducible refine wpAny_holding ?_
 first|refine aA (aF ?_)|skip
 refine aA (wpAny_sequenceKey ht.typeIs (by decide) ?_)
 refine aA (wpAny_callSpecial?_slot (name:=Str.ofString "__getitem__") ht.typeIs PyProof.Rows.slot_tuple_getitem
  (wpAny_call_entry PyProof.Rows.slot_tuple_getitem ht.typeIs PyProof.Rows.entry_tuple_getitem ?_ (PyProof.Rows.args_tuple_getitem _ _)))
 show wpAny _ _ (Builtin.Tuple.tupleItemsOf (.ref t) >>= _) _ _ s;refine aA (tupleItemsOf_ ht ?_);refine aA (wpAny_typeOf hTs ?_);rw[if_pos (by decide)]
 refine aA (HT.sliceApplied_gen hs pl pu ?_);rw[hw.1,hw.2];have hyes:(((0:Nat):Int)==0&&(1:Int)==1&&(items.size - 0)==items.size)=true:=by simp
 show wpAny _ _ (if (((0:Nat):Int)==0&&(1:Int)==1&&(items.size - 0)==items.size)=true then _ else _) _ _ s
 rw[if_pos hyes];unfold Builtin.Tuple.tupleIsExact
 wp_walk using wpAny_typeOf ht.typeIs

 exact⟨_,rfl,aF h⟩
theorem ZaG:SlR X (fun x lo hi H Q=>∃ a xs,x=.ref a/\SqT X.K H a xs/\(HT.sIx xs.length 0 lo=0/\HT.sIx xs.length xs.length hi=xs.length)/\Q (.ref a) H):=by
 intro pQ s σ H x v vl vu lo hi sl Q I rx hs pl pu h;obtain⟨a,xs,rfl,hx,hw,q⟩:=h;cases rx;obtain⟨its,r,ht,hz⟩:=I.tuple hx;have hlen:its.toArray.size=xs.length:=by rw[aJ];exact r.length.symm
 refine⟨"tuple",_,PyProof.Rows.slot_tuple_getitem.lookup,ht.typeIs,?_⟩;exact Ww ht hs pl pu (by rw[hlen];exact hw) ⟨.ref a,H,I,rfl,q⟩
theorem Zg3:SlR X (rSl X.K):=by
 intro pQ s σ H x v vl vu lo hi sl Q I rx hs pl pu h;obtain⟨ad,st,dx,d,st',S,hx,e,p⟩:=h;unfold ZW at e;split at e
 ·rename_i ds
  split at e
  ·rename_i hw
   cases e;obtain⟨a,xs,rfl,ha,r⟩:=hx.ofTup;refine ZaG pQ s σ H _ v vl vu lo hi sl Q I rx hs pl pu ⟨a,xs,rfl,ha.sq,?_,p.at S hx⟩;rw[r.length,<-YD,<-YD];exact hw
  ·rename_i hw
   cases e;obtain⟨a,xs,rfl,ha,r⟩:=hx.ofTup;refine sl_tup pQ s σ H _ v vl vu lo hi sl Q I rx hs pl pu ⟨a,xs,rfl,(ha).sq,?_,fun q hq=>p _ ad _ (Ext.laid hq) (S.laid hq) (.tup (.inl upd_same) ((Jr r).mono (Ext.laid hq)))⟩
   rw[r.length,<-YD,<-YD];exact hw
 ·split at e
  ·rename_i q0
   cases e;obtain⟨a,rfl,ha⟩:=hx.ofLst;obtain⟨xs,r,sq⟩:=S.list ha q0;refine sl_list pQ s σ H _ v vl vu lo hi sl Q I rx hs pl pu ⟨a,xs,rfl,sq,fun q hq=>p _ (ad++[q]) _ (Ext.push hq) (S.push hq (Jr r)) (.newL ?_)⟩
   rw[<-S.len];exact ZA
  ·exact Zb e
 ·exact Zb e
theorem Vr{ad:Li Ad}(h:Dens X.K ad H vs [d]):∃ v,vs=[v]/\Den X.K ad H v d:=by
 cases h with
 |cons h r=>cases r;exact⟨_,rfl,h⟩
theorem ZcJ{ad:Li Ad}{e:D}(h:Dens X.K ad H vs [d,e]):∃ v w,vs=[v,w]/\Den X.K ad H v d/\Den X.K ad H w e:=by
 cases h with
 |cons h r=>
  cases r with
  |cons h' r=>cases r;exact⟨_,_,rfl,h,h'⟩
theorem Y6{g:D->Za->Res}{r:D×Za}(h:on1 g ds st=some r):∃ d,ds=[d]/\g d st=some r:=by
 unfold on1 at h;split at h
 ·exact⟨_,rfl,h⟩
 ·exact Zb h
theorem WF{g:D->D->Za->Res}{r:D×Za}(h:on2 g ds st=some r):∃ d e,ds=[d,e]/\g d e st=some r:=by
 unfold on2 at h;split at h
 ·exact⟨_,_,rfl,h⟩
 ·exact Zb h
theorem Qx:CallR X (.builtin "len") (rC X.K (on1 Zab)):=by
 intro pQ s σ H xs us Q I r h;obtain⟨ad,st,ds,d,st',S,hd,e,p⟩:=h;obtain⟨x,rfl,e1⟩:=Y6 e;have e:=e1;obtain⟨v,rfl,hv⟩:=Vr hd;unfold Zab at e;split at e
 ·rename_i n q
  cases e;unfold ZdV at q;split at q
  ·cases q
   obtain⟨a,ys,rfl,ha,rr⟩:=hv.ofTup;refine call_len_seq pQ s σ H _ us Q I r ⟨a,ys,rfl,.inr ((ha).sq),?_⟩;rw[rr.length];exact p.at S (.int _)
  ·split at q
   ·rename_i q0
    cases q;obtain⟨a,rfl,ha⟩:=hv.ofLst;obtain⟨ys,rr,sq⟩:=S.list ha q0;refine call_len_seq pQ s σ H _ us Q I r ⟨a,ys,rfl,.inl sq,?_⟩;rw[rr.length];exact p.at S (.int _)
   ·cases q
  ·cases q
   obtain⟨a,o,its,n,rfl,h1,h2,h3,h4,h5⟩:=hv.ofKt;refine call_len_seq pQ s σ H _ us Q I r ⟨a,_,rfl,.inr (.inr ⟨o,its,n,h1,h2.1,h3,h4,h5⟩),?_⟩;rw[aB];exact p.at S (.int _)
  ·split at q
   ·rename_i hz
    cases q;cases hv
    exact call_len pQ s σ H _ us Q I r ⟨_,_,rfl,⟨aM hz Yg,rfl⟩,p.at S (.int _)⟩
   ·cases q
  ·cases q
 ·exact Zb e
theorem Vn:CallR X (.type "tuple") (rC X.K (on1 Vg)):=by
 intro pQ s σ H xs us Q I r h;obtain⟨ad,st,ds,d,st',S,hd,e,p⟩:=h;obtain⟨x,rfl,e1⟩:=Y6 e;have e:=e1;obtain⟨v,rfl,hv⟩:=Vr hd;unfold Vg at e;split at e
 ·cases e
  obtain⟨a,ys,rfl,ha,rr⟩:=hv.ofTup;exact call_tuple_of pQ s σ H _ us Q I r ⟨a,ys,rfl,.inr ⟨(ha).sq,p.at S hv⟩⟩
 ·split at e
  ·rename_i q0
   cases e;obtain⟨a,rfl,ha⟩:=hv.ofLst;obtain⟨ys,rr,sq⟩:=S.list ha q0;exact call_tuple_of pQ s σ H _ us Q I r ⟨a,ys,rfl,.inl ⟨sq,fun l hl=>p _ ad _ (Ext.laid hl) (S.laid hl) (.tup (.inl upd_same) (rr.mono (Ext.laid hl)))⟩⟩
  ·cases e
 ·cases e
theorem Uf:CallR X (.type "list") (rC X.K (on1 U4)):=by
 intro pQ s σ H xs us Q I r h;obtain⟨ad,st,ds,d,st',S,hd,e,p⟩:=h;obtain⟨x,rfl,e1⟩:=Y6 e;have e:=e1;obtain⟨v,rfl,hv⟩:=Vr hd;unfold U4 at e;split at e
 ·cases e
  obtain⟨a,ys,rfl,ha,rr⟩:=hv.ofTup;refine call_list_of pQ s σ H _ us Q I r ⟨a,ys,rfl,.inr ((ha).sq),fun l hl=>p _ (ad++[l]) _ (Ext.push hl) (S.push hl rr) (.newL ?_)⟩
  rw[<-S.len];exact ZA
 ·split at e
  ·rename_i q0
   cases e;obtain⟨a,rfl,ha⟩:=hv.ofLst;obtain⟨ys,rr,sq⟩:=S.list ha q0;refine call_list_of pQ s σ H _ us Q I r ⟨a,ys,rfl,.inl sq,fun l hl=>p _ (ad++[l]) _ (Ext.push hl) (S.push hl rr) (.newL ?_)⟩
   rw[<-S.len];exact ZA
  ·cases e
 ·cases e
theorem Qz(hc:X.calm=true):CallR X (.builtin "min") (rC X.K (on2 ZdX)):=by
 intro pQ s σ H xs us Q I r h;obtain⟨ad,st,ds,d,st',S,hd,e,p⟩:=h;obtain⟨x,y,rfl,e1⟩:=WF e;have e:=e1;obtain⟨v,w,rfl,hv,hw⟩:=ZcJ hd;unfold ZdX at e;split at e
 ·cases e;cases hv;cases hw
  exact call_min2 hc pQ s σ H _ us Q I r ⟨_,_,rfl,p.at S (.int _)⟩
 ·exact Zb e
theorem Qy(hc:X.calm=true):CallR X (.builtin "max") (rC X.K (on2 ZdW)):=by
 intro pQ s σ H xs us Q I r h;obtain⟨ad,st,ds,d,st',S,hd,e,p⟩:=h;obtain⟨x,y,rfl,e1⟩:=WF e;have e:=e1;obtain⟨v,w,rfl,hv,hw⟩:=ZcJ hd;unfold ZdW at e;split at e
 ·cases e;cases hv;cases hw
  exact call_max2 hc pQ s σ H _ us Q I r ⟨_,_,rfl,p.at S (.int _)⟩
 ·exact Zb e
noncomputable def tyN:Ty->String
 |.int => "int"
 |.bool => "bool"
 |.str => "str"
 |.tuple => "tuple"
noncomputable def J8:D->String
 |.int _ => "int"
 |.bl _ => "bool"
 |.str _ => "str"
 |.tup _ => "tuple"
 |.non => "NoneType"
 |_ => "list"
theorem J9(K:fG7){T:Ty}(h:ZdP T d=some k):PySem.W.kitOne K (.type (J8 d)) (.type (tyN T))=some k:=by
 cases d<;>first | (cases h;done) | (cases T<;>(cases h;rfl))
theorem ZfX{K:fG7}{ad:Li Ad}{v:V}{T:Ty}(h:ZdP T d=some k)(hv:Den K ad H v d):TyOf K H v (.type (J8 d))\/∃ a xs,v=.ref a/\SqT K H a xs/\J8 d = "tuple":=by
 cases hv with
 |non=>exact .inl .non
 |bl b=>exact .inl (.bl b)
 |int i=>exact .inl (.int i)
 |str x=>exact .inl (.str x)
 |tup e r=>exact .inr ⟨_,_,rfl,e.sq,rfl⟩
 |lst e=>exact Zb h
 |dic _ _=>exact Zb h
 |obj _ _=>exact Zb h
 |kt _ _ _ _ _ _=>exact Zb h
theorem Jl{T:Ty}:CallR X (.builtin "isinstance") (fun vs H Q=>∃ v,vs=[v,.ty (tyN T)]/\rC X.K (on1 (J4 T)) [v] H Q):=by
 intro pQ s σ H xs us Q I r h;obtain⟨v,rfl,ad,st,ds,d,st',S,hd,e,p⟩:=h;obtain⟨x,rfl,e1⟩:=Y6 e;have e:=e1;obtain⟨w,hw,hv⟩:=Vr hd;cases hw;unfold J4 at e;split at e
 ·rename_i k q
  cases e;cases r with
  |cons r1 r2=>
   cases r2 with
   |cons r3 r4=>
    cases r4;cases r3;rcases ZfX q hv with ty|⟨a,zs,rfl,sq,kd⟩
    ·exact isinst_ok I r1 ty (J9 X.K q) fun tk=>⟨.bl k,H,I.tok _,rfl,p.at S (.bl k)⟩
    ·have kt:=J9 X.K q
     rw[kd]at kt;cases r1;obtain⟨its,_,pp,_⟩:=I.tuple sq;obtain⟨o,h1,h2,_⟩:=pp;exact PySem.W.kia_one PySem.W.kitx_tuple I.kIn ⟨o,h1,h2⟩ kt (fun z=>nomatch z) fun tk=>⟨.bl k,H,I.tok _,rfl,p.at S (.bl k)⟩
 ·exact Zb e
end
section
variable {X:Cx}
end
variable [ClsTab]
section
open PySem.SeqAt PySem.MeetsSeq PySem.MeetsSeq2 PySem.MeetsSeq3 PySem.SeqRoads2
open AutoSeq1 (wpAny_loadPart')
end
variable{dx dy:D}{n:Nat}
section
variable {X:Cx}
theorem J0{ad:Li Ad}{H:Hp}{k:Int}:∀ {xs:Li V}{ds:Li D}{b:Bool},Dens X.K ad H xs ds->Yd k ds=some b->xs.all flatV=true/\inV (.int k) xs=b
 |_,_,_,.nil,e=>by cases e;exact⟨rfl,rfl⟩
 |_,_,b,.cons (d:=d) h r,e=>by
  cases d with
  |int i=>
   cases h;unfold Yd at e;cases q:Yd k _ with
   |none=>rw[q]at e;cases e
   |some b'=>
    rw[q]at e;cases e;obtain⟨h1,h2⟩:=J0 r q;refine⟨by rw[bC,h1];rfl,?_⟩
    show((i==k)||inV (.int k) _)=(decide (i=k)||b');rw[h2];rfl
  |_=>simp[Yd]at e
theorem Uk{ad:Li Ad}{H:Hp}{k:Str}:∀ {xs:Li V}{ds:Li D}{b:Bool},Dens X.K ad H xs ds->Yt k ds=some b->xs.all flatV=true/\inV (.str k) xs=b
 |_,_,_,.nil,e=>by cases e;exact⟨rfl,rfl⟩
 |_,_,b,.cons (d:=d) h r,e=>by
  cases d with
  |str i=>
   cases h;unfold Yt at e;cases q:Yt k _ with
   |none=>rw[q]at e;cases e
   |some b'=>
    rw[q]at e;cases e;obtain⟨h1,h2⟩:=Uk r q;refine⟨by rw[bC,h1];rfl,?_⟩
    show((i==k)||inV (.str k) _)=(decide (i=k)||b');rw[h2]
    congr 1
  |_=>simp[Yt]at e
def CW(X:Cx)(pQ:Li (Ad×Obj))(σ:L2.St)(Q:VK)(s:sH7)(op:CmpOp)(v u:vL):Prop:=wpAny (model X.prog X.w) X.A (compareOp op v u) (EP X pQ σ Q) X.xe s
def CW2(X:Cx)(pQ:Li (Ad×Obj))(σ:L2.St)(Q:VK)(s:sH7)(H:Hp)(op op':CmpOp)(v u:vL)(k:Bool):Prop:=(Q (.bl k) H->CW X pQ σ Q s op v u)/\(Q (.bl (!k)) H->CW X pQ σ Q s op' v u)
noncomputable def vSc:Sc->V
 |.non=>.non
 |.bl b=>.bl b
 |.int i=>.int i
 |.str x=>.str x
theorem Den.vSc{K:fG7}{ad:Li Ad}{H:Hp}{x:V}{d:D}{a:Sc}(h:Den K ad H x d)(e:scD d=some a):x=vSc a:=by
 cases h<;>cases e<;>rfl
theorem Zbl{a b:Sc}(h:Zfn a b=some k):scal (vSc a) (vSc b)=true/\decide (vSc a=vSc b)=k:=by
 cases a<;>cases b<;>first
  | (cases h;done)
  | (cases h;exact⟨rfl,rfl⟩)
  | (cases h;exact⟨rfl,dec_bl⟩)
  | (cases h;exact⟨rfl,by simp[vSc]⟩)
inductive EqD(x y:V):D->D->Bool->Prop
 |sc {dx dy:D}{k:Bool} (h3:scal x y=true) (h4:decide (x=y)=k):EqD x y dx dy k
 |tup {xs ys:List D} (h:(okD 8 (.tup xs)&&okD 8 (.tup ys))=true):EqD x y (.tup xs) (.tup ys) (Zw xs ys)
theorem Zbk{K:fG7}{ad:Li Ad}{x y:V}(hx:Den K ad H x dx)(hy:Den K ad H y dy)(e:eqD dx dy=some k):EqD x y dx dy k:=by
 unfold eqD at e;split at e
 ·unfold eqT at e
  split at e
  ·split at e
   ·rename_i hok
    cases e;exact .tup hok
   ·exact Zb e
  ·exact Zb e
 ·refine j_e e fun e=>ZU (P:=fun o=>o=some k->EqD x y dx dy k) e (fun a b h1 h2 h=>?_) rfl
  obtain⟨h3,h4⟩:=Zbl h;rw[<-hx.vSc h1,<-hy.vSc h2]at h3 h4;exact .sc h3 h4
theorem Zfp(hu:X.A.units+64 < cLine){s:sH7}{x y:V}{v:vL}{ad:Li Ad}(I:Inv X pQ σ H s)(rx:RelV x v)(ry:RelV y u)(S:StOk X.K ad H st)(hx:Den X.K ad H x dx)(hy:Den X.K ad H y dy)(e:eqD dx dy=some k):CW2 X pQ σ Q s H .Eq .NotEq v u k:=by
 cases Zbk hx hy e with
 |sc h3 h4=>
  subst h4;exact⟨fun q=>op_eq pQ s σ H x y v u Q I rx ry ⟨h3,q⟩,fun q=>op_ne pQ s σ H x y v u Q I rx ry ⟨h3,q⟩⟩
 |tup hok=>
  rw[bA7]at hok;obtain⟨a,xs,rfl,ha,r1⟩:=hx.ofTup;obtain⟨b,ys,rfl,hb,r2⟩:=hy.ofTup;cases rx;cases ry
  obtain⟨g1,g2⟩:=Zb0 (ad:=ad) (A:=X.A) I (n:=7) hok.1 hok.2 (by omega) ha r1 hb r2
  exact⟨fun q=>g1 X.prog X.w X.xe _ ⟨.bl _,H,I,rfl,q⟩,fun q=>g2 X.prog X.w X.xe _ ⟨.bl _,H,I,rfl,q⟩⟩
open PySem.SeqAt in
theorem ZbZ{ad:Li Ad}{s:sH7}(I:Inv X pQ σ H s){a b:Ad}{xs:Li V}{es:Li D}{its its':Li vL}(hx:ZT n ds=true)(hy:ZT n es=true)(hu:A.units+n+1 < cLine)(r:Dens X.K ad H xs ds)(r':Dens X.K ad H ys es)(rv:Vals xs its)(rv':Vals ys its')(p:s.heap.IsList a its.toArray)(p':s.heap.IsList b its'.toArray):RcAt A s (.ref a) (.ref b) (Zw ds es)/\RcNeAt A s (.ref a) (.ref b) (!Zw ds es):=by
 have e1:its.toArray.size=ds.length:=by rw[aJ,<-rv.length,r.length]
 have e2:its'.toArray.size=es.length:=by rw[aJ,<-rv'.length,r'.length]
 by_cases hl:ds.length=es.length
 ·have it:=fun j h1 h2=>Um (a:=a) (b:=b) I hx hy hu r r' rv rv' j h1 h2
  have q:=RcAt.lists (A:=A) (s:=s) (e:=fun i=>Zr ((ds[i]?).getD .non) ((es[i]?).getD .non)) p p' (by omega) (by omega) it
  have q':=RcNeAt.lists (A:=A) (s:=s) (e:=fun i=>Zr ((ds[i]?).getD .non) ((es[i]?).getD .non)) p p' (by omega) (by omega) it
  rw[e1]at q q';rw[Yy,show min ds.length es.length=ds.length by omega,show(ds.length==es.length)=true by simpa using hl,dH]
  exact⟨q,q'⟩
 ·have q:=RcAt.lists_lengths (A:=A) (s:=s) p p' (by rw[e1,e2];simpa using hl) (by omega)
  have q':=RcNeAt.lists_lengths (A:=A) (s:=s) p p' (by rw[e1,e2];simpa using hl) (by omega)
  rw[Yy,show(ds.length==es.length)=false by simpa using hl,cG]
  exact⟨q,q'⟩
open PySem.SeqAt in
theorem Zge(hu:X.A.units+64 < cLine){s:sH7}{x y:V}{v:vL}{ad:Li Ad}{es:Li D}(I:Inv X pQ σ H s)(rx:RelV x v)(ry:RelV y u)(S:StOk X.K ad H st)(hx:Den X.K ad H x (.tup ds))(hy:Den X.K ad H y (.tup es))(e:Qc st ds es=some k):CW2 X pQ σ Q s H .Eq .NotEq v u k:=by cases e
theorem Zfq(hu:X.A.units+64 < cLine){s:sH7}{x y:V}{v:vL}{ad:Li Ad}(I:Inv X pQ σ H s)(rx:RelV x v)(ry:RelV y u)(S:StOk X.K ad H st)(hx:Den X.K ad H x dx)(hy:Den X.K ad H y dy)(e:eqS st dx dy=some k):CW2 X pQ σ Q s H .Eq .NotEq v u k:=by
 have sc:scal x y=true->(decide (x=y))=k->CW2 X pQ σ Q s H .Eq .NotEq v u k:=fun h1 h2=>by
  subst h2;exact⟨fun q=>op_eq pQ s σ H x y v u Q I rx ry ⟨h1,q⟩,fun q=>op_ne pQ s σ H x y v u Q I rx ry ⟨h1,q⟩⟩
 unfold eqS at e;split at e
 ·unfold Zfm at e
  split at e
  case h_2=>exact Zb e
  obtain⟨a,rfl,ha⟩:=hx.ofLst;obtain⟨b,rfl,hb⟩:=hy.ofLst;cases rx;cases ry
  have two:∀ {ba bb:Bool}{xs ys:Li D},st[_]?=some (ba,xs)->st[_]?=some (bb,ys)->(xs=[]\/ys=[])->(xs.isEmpty&&ys.isEmpty)=k->CW2 X pQ σ Q s H .Eq .NotEq (.ref a) (.ref b) k:=fun {ba bb xs ys} q1 q2 hz hk=>by
   obtain⟨vs,r1,s1⟩:=S.list ha q1;obtain⟨ws,r2,s2⟩:=S.list hb q2;obtain⟨its,rv,p1,_⟩:=I.list s1;obtain⟨its',rv',p2,_⟩:=I.list s2;have l1:its.toArray.size=xs.length:=by rw[aJ,<-rv.length,r1.length]
   have l2:its'.toArray.size=ys.length:=by rw[aJ,<-rv'.length,r2.length]
   by_cases hl:xs.length=ys.length
   ·have z1:xs=[]:=by
     rcases hz with z|z
     ·exact z
     ·rw[z]at hl;exact dR.mp hl
    have z2:ys=[]:=by rw[z1]at hl;exact dR.mp hl.symm
    subst z1 z2;cases hk;have f:its=[]:=dR.mp (by simpa using l1)
    have f':its'=[]:=dR.mp (by simpa using l2)
    subst f f';refine⟨fun q=>SeqAt.RcAt.lists (e:=fun _=>true) p1.isList p2.isList rfl (by omega) (fun j h1 _=>absurd h1 (by simp)) X.prog X.w X.xe _ ⟨.bl true,H,I,rfl,q⟩,fun q=>SeqAt.RcNeAt.lists (e:=fun _=>true) p1.isList p2.isList rfl (by omega) (fun j h1 _=>absurd h1 (by simp)) X.prog X.w X.xe _ ⟨.bl false,H,I,rfl,q⟩⟩
   ·have hk':k=false:=by
     rw[<-hk];rcases hz with z|z
     ·subst z
      cases ys with
      |nil=>exact absurd rfl hl
      |cons _ _=>rfl
     ·subst z
      cases xs with
      |nil=>exact absurd rfl hl
      |cons _ _=>rfl
    subst hk';have hne:(its.toArray.size != its'.toArray.size)=true:=by rw[l1,l2];simpa using hl
    exact⟨fun q=>SeqAt.RcAt.lists_lengths p1.isList p2.isList hne (by omega) X.prog X.w X.xe _ ⟨.bl false,H,I,rfl,q⟩,fun q=>SeqAt.RcNeAt.lists_lengths p1.isList p2.isList hne (by omega) X.prog X.w X.xe _ ⟨.bl true,H,I,rfl,q⟩⟩
  refine j_e e fun e=>ZU (P:=fun o=>o=some k->CW2 X pQ σ Q s H .Eq .NotEq (.ref a) (.ref b) k) e (fun c d q1 q2 e=>?_) rfl
  obtain⟨c1,c2⟩:=c;obtain⟨d1,d2⟩:=d;unfold WT at e;split at e
  ·rename_i hz
   cases e;rw[bW]at hz;exact two q1 q2 (hz.imp List.isEmpty_iff.mp List.isEmpty_iff.mp) rfl
  ·split at e
   ·rename_i hok
    cases e;rw[bA7]at hok;obtain⟨vs,r1,s1⟩:=S.list ha q1;obtain⟨ws,r2,s2⟩:=S.list hb q2;obtain⟨its,rv,p1,_⟩:=I.list s1;obtain⟨its',rv',p2,_⟩:=I.list s2;obtain⟨g1,g2⟩:=ZbZ (ad:=ad) (A:=X.A) I hok.1 hok.2 (by omega) r1 r2 rv rv' p1.isList p2.isList
    exact⟨fun q=>g1 X.prog X.w X.xe _ ⟨.bl _,H,I,rfl,q⟩,fun q=>g2 X.prog X.w X.xe _ ⟨.bl _,H,I,rfl,q⟩⟩
   ·exact Zb e
 ·unfold Zfo at e
  split at e
  ·split at e
   ·rename_i k' q
    cases e;exact Zfp hu I rx ry S hx hy (show eqD (.tup _) (.tup _)=some _ from q)
   ·exact Zge hu I rx ry S hx hy e
  ·exact Zb e
 ·exact Zfp hu I rx ry S hx hy e
theorem Zau{x y:V}(r:RelV x u)(r':RelV y u):x=y:=by
 cases x<;>cases y<;>simp only[L2.RelV]at r r'<;>first
  |rfl
  | (subst r;cases r';rfl)
  | (obtain⟨t,rfl⟩:=r;obtain⟨t',e⟩:=r';cases e;rfl)
  | (obtain⟨t,rfl⟩:=r;obtain⟨t',e⟩:=r';cases e)
  | (obtain⟨t,rfl⟩:=r;cases r')
  | (subst r;obtain⟨t',e⟩:=r';cases e)
  | (subst r;cases r')
open Classical in
noncomputable def VL(K:fG7)(ad:Li Ad)(H:Hp)(d:D)(u:vL):Bool:=decide (∃ y e,RelV y u/\Den K ad H y e/\okD 8 e=true/\Zr e d=true)
theorem ZbJ{s:sH7}{ad:Li Ad}(I:Inv X pQ σ H s){e:D}{y:V}(r:RelV y u)(h:Den X.K ad H y e)(ok:okD 8 e=true):VL X.K ad H d u=Zr e d:=by
 classical
 unfold VL;cases q:Zr e d with
 |true=>exact aH ⟨y,e,r,h,ok,q⟩
 |false=>
  refine aE fun⟨y',e',r',h',ok',q'⟩=>?_
  cases Zau r r'
  have z:=Den.inj (fun _ _ _ a b=>I.tuple_inj a.sq b.sq) (n:=8) (m:=8) ok ok' h h'
  rw[z,q']at q;cases q
theorem VM{pQ:Li (Ad×Obj)}{σ:L2.St}{H:Hp}{s:sH7}{ad:Li Ad}(I:Inv X pQ σ H s){A:Around}(hu:A.units+8 < cLine){d:D}{x:V}{v:vL}(rx:RelV x v)(hx:Den X.K ad H x d)(ox:okD 8 d=true):∀ {xs:Li V}{ds:Li D}{us:Li vL},Dens X.K ad H xs ds->Vals xs us->ZT 8 ds=true->(∀ u∈us,SeqAt.EqAt A s u v (VL X.K ad H d u))/\us.any (VL X.K ad H d)=ds.any fun e=>Zr e d
 |_,_,_,.nil,.nil,_=>⟨fun u hu=>(nomatch hu),rfl⟩
 |_,e :: ds,u :: us,.cons h t,.cons r rt,ok=>by
  have ok:(okD 8 e&&ZT 8 ds)=true:=ok;rw[bA7]at ok;obtain⟨h1,h2⟩:=VM I hu rx hx ox t rt ok.2;have z:=ZbJ (ad:=ad) I (d:=d) r h ok.1;refine⟨fun u' hu'=>?_,by rw[cF,cF,z,h2]⟩
  rcases aG.mp hu' with rfl|hu'
  ·rw[z]
   exact Jy I 8 e d A _ _ _ _ ok.1 ox hu h hx r rx
  ·exact h1 u' hu'
section
variable {pQ:Li (Ad×Obj)}{s:sH7}{σ:L2.St}{H:Hp}{x y:V}{v u:vL}{Q:VK}{ad:Li Ad}{st:Za}{dx dy:D}{k:Bool}
theorem WY{a:Ad}{xs:Li V}(I:Inv X pQ σ H s)(rx:RelV x v)(ry:RelV y u)(ey:y=.ref a)(sq:SqL X.K H a xs\/SqT X.K H a xs)(fx:flatV x=true)(h:xs.all flatV=true/\inV x xs=k):CW2 X pQ σ Q s H .In .NotIn v u k:=by
 obtain⟨h1,h2⟩:=h;subst h2;exact⟨fun pk=>op_in_seq pQ s σ H _ _ v u Q I rx ry ⟨a,xs,ey,sq,fx,h1,pk⟩,fun pk=>op_notIn_seq pQ s σ H _ _ v u Q I rx ry ⟨a,xs,ey,sq,fx,h1,pk⟩⟩
def InW(X:Cx)(pQ:Li (Ad×Obj))(σ:L2.St)(Q:VK)(s:sH7)(H:Hp)(v u:vL)(dy:D)(k:Bool):Prop:=(Q (.bl k) H->CW X pQ σ Q s .In v u)/\((∀ ks vs,dy≠.dct ks vs)->Q (.bl (!k)) H->CW X pQ σ Q s .NotIn v u)
theorem CW2.inW(h:CW2 X pQ σ Q s H .In .NotIn v u k):InW X pQ σ Q s H v u dy k:=⟨h.1,fun _=>h.2⟩
theorem Zfx(hu:X.A.units+64 < cLine)(I:Inv X pQ σ H s)(rx:RelV x v)(ry:RelV y u)(S:StOk X.K ad H st)(hx:Den X.K ad H x dx)(hy:Den X.K ad H y dy)(q:inS st dx dy=some k):InW X pQ σ Q s H v u dy k:=by
 unfold inS at q;split at q
 ·split at q
  ·rename_i q0
   obtain⟨a,e,ha⟩:=hy.ofLst;obtain⟨xs,r,sq⟩:=S.list ha q0;cases hx;exact(WY I rx ry e (.inl sq) rfl (J0 r q)).inW
  ·cases q
 ·split at q
  ·rename_i q0
   obtain⟨a,e,ha⟩:=hy.ofLst;obtain⟨xs,r,sq⟩:=S.list ha q0;cases hx;exact(WY I rx ry e (.inl sq) rfl (Uk r q)).inW
  ·cases q
 ·split at q
  ·rename_i q0
   split at q
   ·rename_i hok
    cases q;rw[bA7]at hok;obtain⟨a,rfl,ha⟩:=hy.ofLst;obtain⟨xs,r,sq⟩:=S.list ha q0;cases ry;obtain⟨its,ri,pl,hz⟩:=I.list sq;obtain⟨l1,l2⟩:=VM (A:=X.A.in1) I (by have:X.A.in1.units=X.A.units+1:=rfl;omega) rx hx hok.1 r ri hok.2
    generalize hf:VL X.K ad H _=f at l1 l2;have l3:its.toArray.any f=_:=(show its.toArray.any f=its.any f by simp).trans l2
    exact⟨fun pk=>SeqAt.in_listAt f pl.isList (fun w hw=>l1 w (by simpa using hw)) ⟨.bl _,H,I,rfl,by rw[l3];exact pk⟩,fun _ pk=>SeqAt.notIn_listAt f pl.isList (fun w hw=>l1 w (by simpa using hw)) ⟨.bl _,H,I,rfl,by rw[l3];exact pk⟩⟩
   ·cases q
  ·cases q
 ·obtain⟨a,xs,e,ha,r⟩:=hy.ofTup
  cases hx;exact(WY I rx ry e (.inr ha.sq) rfl (J0 r q)).inW
 ·obtain⟨a,xs,e,ha,r⟩:=hy.ofTup
  cases hx;exact(WY I rx ry e (.inr ha.sq) rfl (Uk r q)).inW
 ·obtain⟨a,vs,rfl,ha,hl,r⟩:=hy.ofDct
  cases hx;cases q;refine⟨fun pk=>op_in_dct pQ s σ H _ _ v u Q I rx ry ⟨a,_,Sum.inr _,rfl,rfl,ha,?_⟩,fun z=>absurd rfl (z _ _)⟩
  rcases Xw r hl with⟨w,d0,e1,e2,e3⟩|⟨e1,e2⟩
  ·rw[e1];rw[e2]at pk;exact pk
  ·rw[e1];rw[e2]at pk;exact pk
 ·obtain⟨o,q2,rfl⟩:=dI.mp q
  obtain⟨bb,es,q0,ob,rfl⟩:=Ju q2;obtain⟨a,rfl,ha,hn⟩:=hy.ofDic;obtain⟨xs,⟨r,nd⟩,hk,_⟩:=S.dict ha hn q0 ob.1;obtain⟨b,_,rfl,_,_⟩:=id hx.ofTup;cases rx;cases ry
  rcases r.look ob.2 with⟨z,d0,ez,e2,_⟩|⟨e1,e2⟩
  ·rw[e2]
   have w:=ZcN (X:=X) (Q:=Q) (bb:=true) (by omega) I ⟨hk,nd,hx,ob.2,r.keys⟩ ⟨z,ez.1,ez.2⟩
   exact⟨w.1,fun _=>w.2⟩
  ·rw[e2]
   have w:=ZcN (X:=X) (Q:=Q) (bb:=false) (by omega) I ⟨hk,nd,hx,ob.2,r.keys⟩ e1
   exact⟨w.1,fun _=>w.2⟩
 ·cases hx;cases hy;cases q
  exact⟨fun pk=>op_in_str pQ s σ H _ _ v u Q I rx ry ⟨_,_,rfl,rfl,pk⟩,fun _ pk=>op_notIn_str pQ s σ H _ _ v u Q I rx ry ⟨_,_,rfl,rfl,pk⟩⟩
 ·cases q
theorem ZbE(hx:Den X.K ad H x dx)(q:isN dx=some k):decide (x=V.non)=k:=by
 cases hx<;>cases q<;>rfl
theorem Zfy(I:Inv X pQ σ H s)(rx:RelV x v)(ry:RelV y u)(hx:Den X.K ad H x dx)(hy:Den X.K ad H y dy)(q:isD dx dy=some k):CW2 X pQ σ Q s H .Is .IsNot v u k:=by
 unfold isD at q;split at q
 ·cases hy
  have z:=ZbE hx q;subst z;exact⟨fun pk=>op_isN pQ s σ H _ _ v u Q I rx ry ⟨rfl,pk⟩,fun pk=>op_notN pQ s σ H _ _ v u Q I rx ry ⟨rfl,pk⟩⟩
 ·unfold isB at q
  split at q
  ·cases q
   cases hx;cases hy
   cases rx;cases ry
   have e:∀ a b:Bool,(Value.bool a==Value.bool b)=(a==b):=fun a b=>by cases a<;>cases b<;>rfl
   exact⟨fun pk=>wpAny_is_plain rfl (by rw[e];exact⟨.bl _,H,I,rfl,pk⟩),fun pk=>wpAny_isNot_plain rfl (by rw[e];exact⟨.bl _,H,I,rfl,pk⟩)⟩
  ·cases q
 ·cases q
theorem XZ{f:Int->Int->Bool}(hx:Den X.K ad H x dx)(hy:Den X.K ad H y dy)(q:QX f dx dy=some k):∃ i j,x=.int i/\y=.int j/\f i j=k:=by
 unfold QX at q;split at q
 ·cases q;cases hx;cases hy;exact⟨_,_,rfl,rfl,rfl⟩
 ·exact Zb q
theorem Zgm(hu:X.A.units+64 < cLine)(I:Inv X pQ σ H s)(rx:RelV x v)(ry:RelV y u)(S:StOk X.K ad H st)(hx:Den X.K ad H x dx)(hy:Den X.K ad H y dy)(q:ltS st dx dy=some k)(pk:Q (.bl k) H):CW X pQ σ Q s .Lt v u:=by
   have q:ltD dx dy=some k:=q;obtain⟨i,j,rfl,rfl,z⟩:=XZ hx hy q;exact op_lt pQ s σ H _ _ v u Q I rx ry ⟨_,_,rfl,rfl,by cases z;exact pk⟩
theorem W4{o:Ot Bool}(q:o.map not=some k):o=some (!k):=by
 cases o with
 |none=>exact Zb q
 |some k'=>cases q;rw[Bool.not_not]
theorem Zai{op op':CmpOp}(h:CW2 X pQ σ Q s H op op' v u (!k))(pk:Q (.bl k) H):CW X pQ σ Q s op' v u:=h.2 (by rw[Bool.not_not];exact pk)
end
theorem Qb(hu:X.A.units+64 < cLine){op:CmpOp}:OpR X (compareOp op) (rD X.K (Ya op)):=by
 intro pQ s σ H x y v u Q I rx ry h;obtain⟨ad,st,dx,dy,d,st',S,hx,hy,e,p⟩:=h
 change CW X pQ σ Q s op v u;unfold Ya at e;cases q:X6 op dx dy st with
 |none=>rw[q]at e;cases e
 |some k=>
  rw[q]at e;cases e;have pk:=p.at S (.bl k);clear p;cases op with
  |Lt=>exact Zgm hu I rx ry S hx hy q pk
  |LtE=>
   obtain⟨i,j,rfl,rfl,z⟩:=XZ hx hy q;exact op_le pQ s σ H _ _ v u Q I rx ry ⟨_,_,rfl,rfl,by cases z;exact pk⟩
  |Gt=>
   obtain⟨i,j,rfl,rfl,z⟩:=XZ hx hy q;exact op_gt pQ s σ H _ _ v u Q I rx ry ⟨_,_,rfl,rfl,by cases z;exact pk⟩
  |GtE=>
   obtain⟨i,j,rfl,rfl,z⟩:=XZ hx hy q;exact op_ge pQ s σ H _ _ v u Q I rx ry ⟨_,_,rfl,rfl,by cases z;exact pk⟩
  |Eq=>exact(Zfq hu I rx ry S hx hy q).1 pk
  |NotEq=>exact Zai (Zfq hu I rx ry S hx hy (W4 q)) pk
  |In=>exact(Zfx hu I rx ry S hx hy q).1 pk
  |NotIn=>
   have q:niS st dx dy=some k:=q;unfold niS at q;split at q
   ·exact Zb q
   ·rename_i hn
    exact(Zfx hu I rx ry S hx hy (W4 q)).2 hn (by rw[Bool.not_not];exact pk)
  |Is=>exact(Zfy I rx ry hx hy q).1 pk
  |IsNot=>exact Zai (Zfy I rx ry hx hy (W4 q)) pk
end
variable [ClsTab]
noncomputable def Zi:Expr->Bool
 |.Starred ..=>false
 |.Set ..=>false
 |.Slice ..=>false
 |_=>true
variable{sc:Scope}{N:Li Str}{e:Expr}
theorem Zf{G:Gs}{c:CE}(h:cE G n sc N e=some c):Zi e=true:=by
 cases n with
 |zero=>exact nomatch (show(none:Ot CE)=some c from h)
 |succ n=>cases e<;>first|rfl|exact nomatch (show(none:Ot CE)=some c from h)
variable{env:PySem.Env}
theorem Zg{es:Li Expr}(h:Zi e=true):starEach (e :: es) env=(false,eval e env) :: starEach es env:=by
 cases e<;>first|rfl|cases h
variable{b:Expr}
theorem XR{op:CmpOp}(h:Zi b=true):behindInMarks op b=false:=by
 cases b<;>first|rfl|cases h
theorem VG(h:Zi b=true):PlainIx b:=by
 cases b<;>first | (intro o i;rfl)|cases h
theorem Yc{pos:Pos}{env:PySem.Env}:∀ {es:Li Expr},es.all Zi=true->(backTo pos (starEach es env)).any (·.1)=false
 |[],_=>rfl
 |e :: es,h=>by
  rw[bC,bA7]at h;rw[Zg h.1];show(false||(backTo pos (starEach es env)).any (·.1))=false;rw[Yc h.2];rfl
inductive EsOk(Pm:Params)(K:fG7):List DictEntry->List Str->List D->Prop where
 |nil:EsOk Pm K [] [] []
 |cons {e:DictEntry}{es:List DictEntry}{k:Str}{ks:List Str}{d:D}{ds:List D}{v:V}{t:Tok} (h1:e.hash=PyData.keyHash Pm k) (h2:e.key=.str k t) (h3:RelV v e.val) (h4:∀ ad H,Den K ad H v d) (r:EsOk Pm K es ks ds):EsOk Pm K (e :: es) (k :: ks) (d :: ds)
def UK(Pm:Params)(K:fG7)(mg:Str->Ot vL)(x:Str)(ks:Li Str)(ds:Li D):Prop:=
 ∃ A o es ep,mg x=some (.ref A)/\K.lookup A=some o/\o.ExactDict/\o.data=.dict es ep/\(A==sysModules)=false/\ks.Nodup/\EsOk Pm K es.toList ks ds
theorem EsOk.open{P:Program}{K:fG7}:∀ {es:Li DictEntry}{ks:Li Str}{ds:Li D},EsOk w.params K es ks ds->∃ kvs:Li (Key×vL),Pairs (mixKind P w) es kvs/\kvs.map (·.1)=ks.map Sum.inr/\(∀ e∈es,∃ k,(mixKind P w).is k e.key=true/\e.hash=(mixKind P w).hash k) /\
  ∀ k d,Z5 ks ds k=some d->∃ u v,valueAt kvs (Sum.inr k)=some u/\RelV v u/\∀ ad H,Den K ad H v d
 |_,_,_,.nil=>⟨[],.nil,rfl,(fun _ h=>nomatch h),fun k d h=>by simp[Z5]at h⟩
 |e :: es,k0 :: ks,d0 :: ds,.cons (v:=v) (t:=t) h1 h2 h3 h4 r=>by
  obtain⟨kvs,a1,a2,a3,a4⟩:=EsOk.open (P:=P) r;have hk:(mixKind P w).is (Sum.inr k0) e.key=true:=by rw[h2];exact mixKind_str P w k0 t
  refine⟨(Sum.inr k0,e.val) :: kvs,.cons hk rfl a1,by rw[aL,aL,a2],fun x hx=>?_,fun k d h=>?_⟩
  ·rcases aG.mp hx with rfl|hx
   ·exact⟨Sum.inr k0,hk,h1⟩
   ·exact a3 x hx
  ·unfold valueAt
   by_cases c:k0=k
   ·subst c
    have h:Z5 (k0 :: ks) (d0 :: ds) k0=some d:=h;simp only[Z5,if_pos]at h;cases h;exact⟨e.val,v,by simp,h3,h4⟩
   ·have h:Z5 ks ds k=some d:=by
     simp only[Z5,if_neg c]at h;exact h
    obtain⟨u,v',b1,b2,b3⟩:=a4 k d h;refine⟨u,v',?_,b2,b3⟩;have nk:¬(Sum.inr k0:Key)=Sum.inr k:=fun z=>c (Sum.inr.inj z)
    rw[eC (by simpa using nk)]
    exact b1
structure SubOk(K:fG7)(C B:Addr):Prop where
 cl:Cls K C
 ha:PySem.W.findIn K (.ref C) "__class__"=some (some (.builtin "object.__class__"))
 hn:PySem.W.specialIn K (.builtin "object.__class__") "__get__"=some (some (.builtin "getset_descriptor.__get__"))
 ht:PySem.W.takesIn K (.builtin "object.__class__")=some true
 hm:PySem.W.mroIn K C (.type "object")=some true
 kit:PySem.W.kitOne K (.ref C) (.ref B)=some true
structure NewOk(K:fG7)(C:Addr):Prop where
 makes:PySem.W.makesIn K C=true
 kp:PySem.W.keepIn K (.ref C)=true
 cl:Cls K C
def GOk(P:Program)(w:World)(K:fG7)(mg:Str->Ot vL)(base:Heap)(A:Around)(F:Nat->Fn)(x:Str):GV->Prop
 |.c d=>∃ v u,mg x=some u/\RelV v u/\∀ ad H,Den K ad H v d
 |.blt=>mg x=none
 |.dct ks ds=>UK w.params K mg x ks ds
 |.cls i ms subs ds=>mg x=some (.ref (ClsTab.ca i))/\NewOk K (ClsTab.ca i)/\(∀ i',subs.contains i'=true->SubOk K (ClsTab.ca i') (ClsTab.ca i)) /\
   (∀ m j ps,ms.lookup m=some (j,ps)->∃ (k:Nat) (f:Ad) (fd:FuncData) (pn:Li Str),FnOk P w K mg base CX0 k f fd pn (spD K (F j))/\Room (k+1) A/\Meth K (ClsTab.ca i) m f/\Binds K fd pn [] /\
    (m = "__init__"->ObC K (ClsTab.ca i)/\∀ n,n<=ds.length->∃ dvs us,(∀ ad H,Dens K ad H dvs (ds.drop n))/\Vals dvs us/\Binds K fd pn us)) /\
   (ms.lookup ("__init__":Str)=none->PySem.W.findIn K (.ref (ClsTab.ca i)) "__init__"=some (some (.builtin "object.__init__")))
 |.fn i ps ds=>∃ (k:Nat) (f:Ad) (fd:FuncData) (pn:Li Str),FnOk P w K mg base CX0 k f fd pn (spD K (F i))/\Room k A/\mg x=some (.ref f)/\PySem.W.keepIn K (.ref f)=true /\
   ∀ m,m<=ds.length->∃ dvs us,(∀ ad H,Dens K ad H dvs (ds.drop m))/\Vals dvs us/\Binds K fd pn us
structure Cxt(X:Cx)(G:Gs)(F:Nat->Fn)(sc:Scope)(N:List Str):Prop where
 hN:X.N=N
 vis:∀ x,YW sc x=true->Vis X.env.scope x
 glb:∀ x,Zy sc x=true->Gl X x
 calm:X.calm=true
 hu:X.A.units+64 < cLine
 gl:∀ x g,G.lookup x=some g->GOk X.prog X.w X.K X.mg X.base X.A F x g
 cel:∀ x,Wg sc x=true->X.env.scope.names.lookup x=some .cell\/X.env.scope.names.lookup x=some .free
 nx:X.xe=fun _ _=>False
variable{i:Nat}
theorem Xf{x:Str}(h:N.idxOf? x=some i):N[i]?=some x:=by
 unfold List.idxOf? at h
 rw[List.findIdx?_eq_some_iff_getElem]at h;obtain⟨hi,h1,_⟩:=h;rw[lG7 hi];rw[beq_iff_eq.mp h1]
theorem W1{x:Str}(h:YW sc x=true):(x==("__debug__":Str))=false/\(x==("__classdict__":Str))=false:=by
 unfold YW at h;rw[bA7,bA7,cT,cT]at h;exact h.1
theorem YC{x:Str}(h:Zy sc x=true):(x==("__debug__":Str))=false:=by
 unfold Zy at h;rw[bA7,cT]at h;exact h.1
variable{a:Expr}{fa:Ev}{pos:Pos}{ρ:Env}{st':Za}
section
variable {X:Cx}{F:Nat->Fn}
theorem ZfL{f:Ev}(h:PE X e (tE X.K f))(he:∀ whole,isTrue e X.env whole=(do let v <-whole;standAt e.pos;holding [v] (truthy v)):=by intro _;rfl):PT X e (tT X.K f):=Ws (pt_val h he) JZ
theorem Zd9{c:Expr}{fc fb:Ev}(hc:PT X c (tT X.K fc))(ha:PT X a (tT X.K fa))(hb:PT X b (tT X.K fb)):PT X (.IfExp c a b pos) (tT X.K (YE fc fa fb)):=by
 intro pQ s σ H Q I h;obtain⟨ad,ρ,st,d,st',E,S,e,p⟩:=h;obtain⟨k,st1,q,e⟩:=Z6 e;show wpAny _ _ (isTrue c X.env (eval c X.env) >>= fun t=>if t then isTrue a X.env (eval a X.env) else isTrue b X.env (eval b X.env)) _ _ s
 refine aA (thn (hc pQ s σ H (fun k' H1=>k'=k/\∃ ad1,Ext ad H ad1 H1/\StOk X.K ad1 H1 st1) I ⟨ad,ρ,st,k,st1,E,S,q,fun ad1 H1 x1 S1=>⟨rfl,ad1,x1,S1⟩⟩) fun t s1 ⟨H1,I1,et,ad1,x1,S1⟩=>?_)
 subst et;cases t with
 |true=>
  rw[if_pos rfl]at e ⊢;exact ha pQ s1 σ H1 Q I1 ⟨ad1,ρ,st1,d,st',E.mono x1,S1,e,fun ad2 H2 x2 S2=>p ad2 H2 (x1.trans x2) S2⟩
 |false=>
  rw[if_neg bF7]at e ⊢;exact hb pQ s1 σ H1 Q I1 ⟨ad1,ρ,st1,d,st',E.mono x1,S1,e,fun ad2 H2 x2 S2=>p ad2 H2 (x1.trans x2) S2⟩
def V5:CE->Prop
 |.aN=>True
 |.aC _ _=>True
 |_=>False
theorem WP{c:CE}(h:V5 c)(e:ev F c ρ st=some (d,st')):∃ ds,d=.tup ds/\ds.length<=1000:=by
 cases c with
 |aN=>cases e;exact⟨[],rfl,by decide⟩
 |aC a r=>
  have e:Zv (ev F a) (ev F r) Y9 ρ st=some (d,st'):=e;unfold Zv at e;split at e
  ·split at e
   ·rename_i y st2 _
    cases y with
    |tup zs=>
     have e:(if zs.length < 1000 then some (D.tup (_ :: zs),st2) else none)=some (d,st'):=e
     split at e
     ·rename_i hz
      cases e;exact⟨_,rfl,hz⟩
     ·exact Zb e
    |_=>simp[Y9]at e
   ·exact Zb e
  ·exact Zb e
 |_=>exact False.elim h
structure SE(X:Cx)(F:Nat->Fn)(e:Expr)(c:CE):Prop where
 pe:PE X e (tE X.K (ev F c))
 pt:PT X e (tT X.K (ev F c))
theorem SE.of{c:CE}(h:PE X e (tE X.K (ev F c)))(he:∀ whole,isTrue e X.env whole=(do let v <-whole;standAt e.pos;holding [v] (truthy v)):=by intro _;rfl):SE X F e c:=⟨h,ZfL h he⟩
theorem VW{op:BoolOp}{es:Li Expr}{t:TT}(h:PT X (.BoolOp op es pos) t):PW X (.BoolOp op es pos) t:=fun _ pQ s σ H Q I q=>h pQ s σ H Q I q
end
variable [ClsTab]
theorem Vm:bootBuiltins "tuple"=some (.type "tuple"):=by decide +kernel
theorem Zbb:bootBuiltins "list"=some (.type "list"):=by decide +kernel
theorem Zdp:bootBuiltins "int"=some (.type "int"):=by decide +kernel
theorem Za9:bootBuiltins "bool"=some (.type "bool"):=by decide +kernel
theorem Zdt:bootBuiltins "str"=some (.type "str"):=by decide +kernel
theorem Zds:bootBuiltins "min"=some (.builtin "min"):=by decide +kernel
theorem Zdr:bootBuiltins "max"=some (.builtin "max"):=by decide +kernel
theorem Wu:bootBuiltins "isinstance"=some (.builtin "isinstance"):=by decide +kernel
theorem Zdq:bootBuiltins "len"=some (.builtin "len"):=by decide +kernel
variable{f m:Str}{as:Li Expr}{cs:CE}{es:Array DictEntry}{ks:Li Str}{ap cp:Pos}{ms:Li (Str×Nat×Nat)}{subs:Li Nat}{o ob:Expr}{j:Nat}
section
variable {G:Gs}{F:Nat->Fn}
def Zm(G:Gs)(F:Nat->Fn)(n:Nat):Prop:=∀ X sc N,Cxt X G F sc N->∀ e c,cE G n sc N e=some c->SE X F e c
def Yr(G:Gs)(F:Nat->Fn)(n:Nat):Prop:=∀ X sc N,Cxt X G F sc N->∀ es c,cEs G n sc N es=some c->PA X es (tA X.K (ev F c))/\V5 c/\es.all Zi=true/\(es=[]->c=.aN)
def WO(G:Gs)(F:Nat->Fn)(n:Nat):Prop:=∀ X sc N,Cxt X G F sc N->∀ e c,cO G n sc N e=some c->PO X e (tO X.K (ev F c))

theorem ZaA{v:Const}{k:Nat}{c:CE}(h:CE.ofConst v=some c):SE X F (.Constant v k pos) c:=by
 cases v with
 |none=>cases h;exact .of (Zq pe_non (VA fun _ _=>.non))
 |bool b=>cases h;exact .of (Zq pe_bl (VA fun _ _=>.bl b))
 |int i=>cases h;exact .of (Zq pe_int (VA fun _ _=>.int i))
 |str x=>cases h;exact .of (Zq pe_str (VA fun _ _=>.str x))
 |_=>exact Zb h
theorem Zcb{x:Str}{c:CE}(K:Cxt X G F sc N)(h:Zah G sc N x=some c):SE X F (.Name x pos) c:=by
 unfold Zah at h;split at h
 ·rename_i hl
  cases q:N.idxOf? x with
  |none=>rw[q]at h;cases h
  |some i=>
   rw[q]at h;cases h;obtain⟨h1,h2⟩:=W1 hl;exact .of (Zq (pe_var (i:=i) (by rw[K.hN];exact Xf q) (K.vis x hl) h1 h2) UZ)
 ·split at h
  ·rename_i hg
   split at h
   ·rename_i d q
    cases h;obtain⟨v,u,hm,r,hd⟩:=K.gl x _ q;exact .of (Zq (pe_glob (K.glb x hg) hm r (YC hg)) (VA hd))
   ·exact Zb h
  ·exact Zb h
theorem pa1{t:TE}(hp:Zi a=true)(ha:PE X a t):PA X [a] (tCons t tNil):=pa_cons ha pa_nil (Zg hp)
theorem pa2{t u:TE}(hp:Zi a=true)(hq:Zi b=true)(ha:PE X a t)(hb:PE X b u):PA X [a,b] (tCons t (tCons u tNil)):=pa_cons ha (pa1 hq hb) (Zg hp)
theorem Zb4{x c:CE}{p:Pos}(K:Cxt X G F sc N)(hg:Zy sc f=true)(hm:X.mg f=none)(hp:Zi a=true)(A:PE X a (tE X.K (ev F x)))(h:Zdn f x=some c) :
  PE X (.Call (.Name f p) [a] [] pos) (tE X.K (ev F c)):=by 
 have hG:=K.glb f hg;unfold Zdn at h;split at h
 ·rename_i e;subst e;cases h
  exact Zq (pe_callB Qx hG hm Zdq (pa1 hp A) (by decide) (by decide) (Zg hp) rfl) We
 ·split at h
  ·rename_i e;subst e;cases h
   exact Zq (pe_callTy Vn hG hm Vm (pa1 hp A) (by decide) (by decide) (Zg hp) rfl) We
  ·split at h
   ·rename_i e;subst e;cases h
    exact Zq (pe_callTy Uf hG hm Zbb (pa1 hp A) (by decide) (by decide) (Zg hp) rfl) We
   ·exact Zb h
theorem Za4(hq:Zi b=true):(backTo pos (starEach [b] X.env)).any (·.1)=false:=Yc (by rw[bC,hq];rfl)
theorem Zb5{x y c:CE}{p:Pos}(K:Cxt X G F sc N)(hg:Zy sc f=true)(hm:X.mg f=none)(hp:Zi a=true)(hq:Zi b=true)(A:PE X a (tE X.K (ev F x)))(B:PE X b (tE X.K (ev F y)))(h:Zdo f x y=some c):PE X (.Call (.Name f p) [a,b] [] pos) (tE X.K (ev F c)):=by
 have hG:=K.glb f hg;unfold Zdo at h;split at h
 ·rename_i e;subst e;cases h
  exact Zq (pe_callB (Qz K.calm) hG hm Zds (pa2 hp hq A B) (by decide) (by decide) (Zg hp) (Za4 hq)) Vz
 ·split at h
  ·rename_i e;subst e;cases h
   exact Zq (pe_callB (Qy K.calm) hG hm Zdr (pa2 hp hq A B) (by decide) (by decide) (Zg hp) (Za4 hq)) Vz
  ·exact Zb h
theorem Zbu{K:fG7}{T:Ty}(σ:L2.St)(H:Hp)(Q:VK)(h:tE K (Zo fa (J4 T)) σ H Q) :
  tCB (fun vs H Q=>∃ v,vs=[v,.ty (tyN T)]/\rC K (on1 (J4 T)) [v] H Q) (tCons (tE K fa) (tCons (tC (.ty (tyN T))) tNil)) σ H Q:=by
 obtain⟨ad,ρ,st,d,st',E,S,e,p⟩:=h;unfold Zo at e;split at e
 ·rename_i x st1 q1
  exact⟨ad,ρ,st,x,st1,E,S,q1,fun v1 ad1 H1 x1 S1 d1=>⟨v1,rfl,ad1,st1,[x],d,st',S1,.cons d1 .nil,e,p.later x1⟩⟩
 ·exact Zb e
theorem ZaO{T:Ty}(K:Cxt X G F sc N)(h:Ql G sc b=some T):Zi b=true/\PE X b (tC (.ty (tyN T))):=by
 cases b with
 |Name t p=>
  have h2:ZeX G sc t=some T:=h;clear h;unfold ZeX at h2;split at h2
  ·rename_i hg
   rw[bA7]at hg;have hm:X.mg t=none:=by
    have z:=hg.2;unfold U2 at z;split at z
    ·rename_i q;exact K.gl t _ q
    ·cases z
   have hG:=K.glb t hg.1;refine⟨rfl,?_⟩;unfold ZfW at h2;split at h2
   ·rename_i e;subst e;cases h2
    exact pe_bltn hG hm Zdp rfl
   ·split at h2
    ·rename_i e;subst e;cases h2
     exact pe_bltn hG hm Za9 rfl
    ·split at h2
     ·rename_i e;subst e;cases h2
      exact pe_bltn hG hm Zdt rfl
     ·split at h2
      ·rename_i e;subst e;cases h2
       exact pe_bltn hG hm Vm rfl
      ·exact Zb h2
  ·exact Zb h2
 |_=>simp[Ql]at h
theorem ZeF{x:CE}{T:Ty}{p:Pos}(K:Cxt X G F sc N)(hg:Zy sc "isinstance"=true)(hm:X.mg "isinstance"=none)(hp:Zi a=true)(A:PE X a (tE X.K (ev F x)))(hT:Ql G sc b=some T) :
  PE X (.Call (.Name "isinstance" p) [a,b] [] pos) (tE X.K (ev F (.isi T x))):=by
 obtain⟨hq,B⟩:=ZaO K hT;exact Zq (pe_callB (Jl (T:=T)) (K.glb _ hg) hm Wu (pa2 hp hq A B) (by decide) (by decide) (Zg hp) (Za4 hq)) Zbu
theorem Zb7{ps:Nat}{p:Pos}(K:Cxt X G F sc N)(hg:Zy sc f=true)(hG:G.lookup f=some (.fn i ps ds))(hl:as.length<=ps/\ps<=as.length+ds.length)(A:PA X as (tA X.K (ev F cs))/\V5 cs/\as.all Zi=true/\(as=[]->cs=.aN)):PE X (.Call (.Name f p) as [] pos) (tE X.K (ev F (.call i cs (ds.drop (as.length+ds.length - ps))))):=by
 obtain⟨k,fa,fd,pn,Fk,hr,hm,hk,hb⟩:=K.gl f _ hG;obtain⟨dvs,us,hd,hv,hbn⟩:=hb (as.length+ds.length - ps) (by omega)
 obtain⟨PAs,_,hp,hn⟩:=A;cases as with
 |nil=>
  refine Zq (pe_call0 (E:=E0) Fk hr (K.glb f hg) hm hk hbn hv pass0 (YC hg)) fun σ H Q h=>?_
  rw[hn rfl]at h;exact Vy σ H _ (VB (E:=E0) hd σ H Q h)
 |cons e es=>
  rw[bC,bA7]at hp;exact Zq (pe_call (E:=E0) Fk hr (K.glb f hg) hm hk hbn hv pass0 PAs (YC hg) (Zg hp.1) (Yc hp.2)) (VB hd)
theorem Uj{nm:Str}(K:Cxt X G F sc N)(h:fnA G sc nm b=some as):∃ p pos,b=.Call (.Name nm p) as [] pos/\Gl X nm/\X.mg nm=none:=by
 obtain⟨q,h1,h2⟩:=dJ.mp h;refine Yv h2 fun hc h3=>?_
 obtain⟨rfl,hg,hb⟩:=hc;cases h3;unfold ZcH at h1;split at h1
 ·cases h1
  refine⟨_,_,rfl,K.glb _ hg,?_⟩;unfold U2 at hb;split at hb
  ·rename_i q;exact K.gl _ _ q
  ·cases hb
 ·cases h1
theorem Qa(h:Zd4 as=some a):as=[a]:=by
 cases as with
 |nil=>exact Zb h
 |cons x as=>cases as with
  |nil=>cases h;rfl
  |cons _ _=>exact Zb h
theorem Wy(K:Cxt X G F sc N)(h:ZO G sc b=some e):∃ p pos,b=.Call (.Name "range" p) [e] [] pos/\Gl X "range"/\X.mg "range"=none:=by
 obtain⟨as,h1,h2⟩:=dJ.mp h;rw[Qa h2]at h1;exact Uj K h1
theorem ZeD{x y:CE}{op:CmpOp}{ng:Bool}(K:Cxt X G F sc N)(hb:ZO G sc b=some e)(hg:ZdL op=some ng)(hp:Zi e=true)(A:PE X a (tE X.K (ev F x)))(B:PE X e (tE X.K (ev F y))):SE X F (.Compare a [op] [b] pos) (.inR ng x y):=by cases hg
theorem ZeJ{o:Ot CE}{c:CE}{p:Pos}(K:Cxt X G F sc N)(hg:Zy sc f=true)(hm:X.mg f=none)(hb:UE G sc f a=some e)(B:∀ c,o=some c->Zi e=true/\PE X e (tE X.K (ev F c)))(h:o.map CE.tupR=some c):SE X F (.Call (.Name f p) [a] [] pos) c:=by cases hb
noncomputable def rLk(K:fG7)(A:Ad)(ks:Li Str)(ds:Li D):R2:=fun x y H Q=>x=.ref A/\∃ k d,y=.str k/\Z5 ks ds k=some d/\∀ v,(∀ ad H,Den K ad H v d)->Q v H
theorem ZfA{A:Ad}{o:Obj}{ep:Nat}(lk:X.K.lookup A=some o)(ex:o.ExactDict)(hd:o.data=.dict es ep)(hm:(A==sysModules)=false)(nd:ks.Nodup)(eo:EsOk X.w.params X.K es.toList ks ds):IxR X (rLk X.K A ks ds):=by
 intro value slice pQ s σ H x y v u Q I rx ry h hs;obtain⟨rfl,k,d,rfl,he,q⟩:=h;cases rx;obtain⟨kvs,pr,kn,kk,val⟩:=eo.open (P:=X.prog);have dd:s.heap.DictOf (mixKind X.prog X.w) A kvs:=by
  refine⟨o,es,ep,I.kIn A o lk,ex,hd,fun e he=>kk e (by simpa using he),pr,?_⟩
  rw[kn];exact List.pairwise_map.mpr (nd.imp fun h z=>h (Sum.inr.inj z))
 obtain⟨w,z,hw,rw',dn⟩:=val k d he;exact tail_any dd.typeIs PySem.F.slot_dict_getitem.lookup (wpAny_getItem_of (kV_is (k:=Sum.inr k) ry) dd.mapOf hw ⟨z,H,I.tok _,rw',q z dn⟩) hs
theorem JT{K:fG7}{A:Ad}(σ:L2.St)(H:Hp)(Q:VK)(h:tE K (Zo fa (Zad ks ds)) σ H Q):tOp (rLk K A ks ds) (tC (.ref A)) (tE K fa) σ H Q:=by
 obtain⟨ad,ρ,st,d,st',E,S,e,p⟩:=h;unfold Zo at e;split at e
 ·rename_i x st1 q1
  unfold Zad at e;split at e
  ·rename_i k
   split at e
   ·rename_i d' hl
    cases e;exact⟨ad,ρ,st,.str k,_,E,S,q1,fun v ad1 H1 x1 S1 d1=>⟨rfl,k,d,d1.ofStr,hl,fun w dn=>p w ad1 H1 x1 S1 (dn ad1 H1)⟩⟩
   ·exact Zb e
  ·exact Zb e
 ·exact Zb e
theorem Zca{u v:Expr}{x y:CE}{p:Pos}(K:Cxt X G F sc N)(hg:Zy sc f=true)(hm:X.mg f=none)(hb:Ur G sc f a=some (u,v))(hu:Zi u=true)(hv:Zi v=true)(A:PE X u (tE X.K (ev F x)))(B:PE X v (tE X.K (ev F y))):PE X (.Call (.Name f p) [a] [] pos) (tE X.K (ev F (.lstR x y))):=by cases hb
theorem Zb9{y:CE}(K:Cxt X G F sc N)(hn:U5 G sc a=some (ks,ds))(hp:Zi b=true)(B:PE X b (tE X.K (ev F y))):PE X (.Subscript a b pos) (tE X.K (ev F (.look ks ds y))):=by
 unfold U5 at hn;split at hn
 ·split at hn
  ·rename_i hg
   split at hn
   ·rename_i q
    cases hn;obtain⟨A,o,es,ep,hm,lk,ex,hd,hs,nd,eo⟩:=K.gl _ _ q;exact Zq (pe_ix (ZfA lk ex hd hs nd eo) (pe_glob (K.glb _ hg) hm (show RelV (.ref A) (.ref A) from rfl) (YC hg)) B (VG hp)) JT
   ·exact Zb hn
  ·exact Zb hn
 ·exact Zb hn
def ZfO:V->Li V->Hp->VK->Prop:=fun x vs H Q=>∃ p kvs k dv,x=.ref p/\vs=[kV k,dv]/\H p=some (.dK kvs)/\Q ((valV kvs k).getD dv) H
theorem ZdZ:MtM X "dict.get" ZfO:=by
 intro pQ s σ H x vs v us Q I rx rv h;obtain⟨p,kvs,k,dv,rfl,rfl,hq,q⟩:=h;cases rx;obtain⟨u1,u2,rfl,r1,r2⟩:=rv.two;obtain⟨zz,hd,ws,rel,dd⟩:=dk_of I.hok hq;refine call_meetsIn PySem.F.slot_dict_get dd.typeIs PySem.F.entry_dict_get (PySem.F.args_dict_get_3 _ _ _) (meets_dict_get_default (mixKind X.prog X.w) p (kV_is r1) hd u2) ⟨_,dd.mapOf,?_⟩;have rr:=rel.val k;cases e1:valV kvs k with
 |none=>
  cases e2:valueAt ws k with
  |none=>rw[e1]at q;exact⟨dv,H,I.tok _,r2,q⟩
  |some w=>rw[e1,e2]at rr;exact rr.elim
 |some z=>
  cases e2:valueAt ws k with
  |none=>rw[e1,e2]at rr;exact rr.elim
  |some w=>rw[e1]at q;rw[e1,e2]at rr;exact⟨z,H,I.tok _,rr,q⟩
theorem JI{fk fd:Ev}(σ:L2.St)(H:Hp)(Q:VK)(h:tE X.K (Xy fa fk fd getD) σ H Q):tBM X.K "dict" ZfO (tE X.K fa) (tCons (tE X.K fk) (tCons (tE X.K fd) tNil)) σ H Q:=by
 obtain⟨ad,ρ,st,d,st',E,S,e,p⟩:=h;unfold Xy at e;split at e
 ·rename_i x st1 q1
  split at e
  ·rename_i y st2 q2
   split at e
   ·rename_i z st3 q3
    unfold getD at e;split at e
    ·rename_i ks vs k
     cases e;refine⟨ad,ρ,st,_,st1,E,S,q1,fun v1 ad1 H1 x1 S1 d1=>?_⟩
     obtain⟨a,ws,rfl,ha,hl,rw'⟩:=d1.ofDct;refine⟨.inr (.inr (.inl ⟨rfl,.inl ⟨_,ha⟩⟩)),ad1,ρ,st1,_,st2,E.mono x1,S1,q2,fun v2 ad2 H2 x2 S2 d2=>⟨ad2,ρ,st2,_,_,E.mono (x1.trans x2),S2,q3,fun v3 ad3 H3 x3 S3 d3=>?_⟩⟩
     obtain⟨a',ws',ea,ha',hl',rw2⟩:=(d1.mono (x2.trans x3)).ofDct;cases ea;have ek:=(d2.mono x3).ofStr;refine⟨a,_,Sum.inr k,v3,rfl,by rw[ek];rfl,ha',?_⟩
     rcases Xw (k:=k) rw2 hl' with⟨u,d0,e1,e2,e3⟩|⟨e1,e2⟩
     ·rw[e1]
      rw[e2]at p;exact p _ ad3 H3 (x1.trans (x2.trans x3)) S3 e3
     ·rw[e1]
      rw[e2]at p;exact p _ ad3 H3 (x1.trans (x2.trans x3)) S3 d3
    ·exact Zb e
   ·exact Zb e
  ·exact Zb e
 ·exact Zb e
theorem Zb8{ks:Li (Ot Expr)}{vs:Li Expr}{x y z:CE}{dp:Pos}(K:Cxt X G F sc N)(hline:(ap.endLine==cp.line)=true)(hp:Zi a=true)(hq:Zi b=true)(D:PE X (.Dict ks vs dp) (tE X.K (ev F x)))(A:PE X a (tE X.K (ev F y)))(B:PE X b (tE X.K (ev F z))) :
  PE X (.Call (.Attribute (.Dict ks vs dp) "get" ap) [a,b] [] cp) (tE X.K (ev F (.dget x y z))):=by
 refine Zq (pe_bm PySem.F.plainAttrs_dict PySem.F.slot_dict_get PySem.F.type_dict_get ZdZ D (pa2 hp hq A B) rfl ?_ hline (Zg hp) (Za4 hq)) JI;rw[Zg hp,Zg hq];rfl
theorem Zaf{K:fG7}{C:Ad}{s:sH7}{R:Result->sH7->Prop}(X:K.In s.heap)(hm:PySem.W.makesIn K C=true)(hi:PySem.W.findIn K (.ref C) "__init__"=some (some (.builtin "object.__init__")))(h:R (.ok (.ret (.ref (s.heap.objs.size+1)))) { s with heap:=(s.heap.push PySem.W.emptyDict).push (PySem.W.instObj C s.heap.objs.size) }):codeAny (model prog w) A (.call (.ref C) ⟨[],[]⟩) R s:=by
 obtain⟨hh,g,d,t,os⟩:=s;have Y:=PySem.W.makes_of (M:=model prog w) X hm;have hx:((hh.push PySem.W.emptyDict).push (PySem.W.instObj C hh.objs.size)).get? (hh.objs.size+1)=some (PySem.W.instObj C hh.objs.size):=by
  have:=bA (hh.push PySem.W.emptyDict) (o:=PySem.W.instObj C hh.objs.size) rfl
  rwa [Heap.size_push]at this
 refine PySem.W.make_core Y (PySem.W.looks_findIn X hi) (fun self=>PySem.W.Looks.of_pure (PySem.W.oi_bind self)) (.inr ⟨rfl,rfl⟩) ?_
 have t1:PySem.W.Looks (model prog w) ((hh.push PySem.W.emptyDict).push (PySem.W.instObj C hh.objs.size)) (typeOf (.ref (hh.objs.size+1))) (.ref C):=(PySem.W.Looks.ld hx).andThen .now;have t2:PySem.W.Looks (model prog w) ((hh.push PySem.W.emptyDict).push (PySem.W.instObj C hh.objs.size)) (isInstance (.ref (hh.objs.size+1)) (.type "object")) true:=t1.andThen (Y.top.keeps fun b o e=>aQ _ (aQ _ e))
 refine codeAny_call_builtin PySem.W.oi_plain PySem.W.entry_oi (@PySem.W.check_slot (model prog w) _ _ _ "object.__init__" "object" "__init__" (.ref (hh.objs.size+1)) [] [] _ PySem.W.oi_kind PySem.W.oi_split t2 (PySem.W.oi_args (.ref (hh.objs.size+1))) ?_);rw[PySem.W.oi_run];exact aF (And.intro rfl h)
theorem Wc{s:sH7}{ad:Li Ad}(I:L2.Inv X pQ σ H s)(S:StOk X.K ad H st){a:Ad}(h:s.heap.objs.size<=a):a∉ad:=fun hm=>by
 obtain⟨i,hi⟩:=List.getElem?_of_mem hm;rcases S.has hi with⟨o,q⟩|⟨o,q⟩
 ·rw[I.hok.fresh h]at q;cases q
 ·exact absurd (aK (I.kIn a o q)) (Nat.not_lt.mpr h)
theorem ZeG{p:Pos}(K:Cxt X G F sc N)(hg:Zy sc f=true)(hG:G.lookup f=some (.cls i ms subs ds))(hi:ms.lookup ("__init__":Str)=none):PE X (.Call (.Name f p) [] [] pos) (tE X.K (ev F (.new i))):=by
 obtain⟨hm,nw,_,_,ini⟩:=K.gl f _ hG;intro pQ s σ H Q I h;obtain⟨ad,ρ,st,d,st',E,S,e,q⟩:=h;have e:some (D.obj i,st)=some (d,st'):=e;cases e;refine wpAny_Call_Name_kw (ld_glob I (K.glb f hg) hm ?_ (YC hg));refine PySem.W.callWith_K0 I.kIn nw.kp (wpAny_call (Zaf I.kIn nw.makes (ini hi) ?_));have h1:H s.heap.objs.size=none:=I.hok.fresh (aD _);have h2:upd H s.heap.objs.size (.own (s.heap.objs.size+1)) (s.heap.objs.size+1)=none:=by
  rw[upd_ne (cZ (bM _))];exact I.hok.fresh (bU _)
 exact⟨.ref (s.heap.objs.size+1),_,I.made,rfl,q _ ad _ ((Ext.laid h1).trans (Ext.laidN h2 (Wc I S (bU _)))) ((S.laid h1).laidN h2 (Wc I S (bU _))) (.obj upd_same (Wc I S (bU _)))⟩
theorem ZeE{x:CE}{l:Li Nat}{p:Pos}(K:Cxt X G F sc N)(hg:Zy sc "isinstance"=true)(hm:X.mg "isinstance"=none)(hp:Zi a=true)(A:PE X a (tE X.K (ev F x)))(hT:Ug G sc b=some l) :
  PE X (.Call (.Name "isinstance" p) [a,b] [] pos) (tE X.K (ev F (.isc l x))):=by cases hT
theorem ZfC{α:Type}:∀ {us:Li α},us.length=1->∃ a,us=[a]
 |[a],_=>⟨a,rfl⟩
theorem WE(h:as.all Zi=true)(hl:as.length < 20):((backTo pos (starEach as env)).all (fun x=>!x.1)&&(backToKw pos (keywordEach [] env)).all (fun x=>x.1.isSome)
  &&decide (as.length+([]:Li Keyword).length+(if ([]:Li Keyword).isEmpty then 0 else 1) < 30))=true:=by
 have a:=Yc (pos:=pos) (env:=env) h;have b:(backTo pos (starEach as env)).all (fun x=>!x.1)=true:=by
  rw[cC];intro x hx;have:=List.any_eq_false.mp a x hx;simpa using this
 rw[b,aH (show as.length+([]:Li Keyword).length+(if ([]:Li Keyword).isEmpty then 0 else 1) < 30 by simp;omega)]
 rfl
theorem ZbN{name:Str}{apos:Pos}{args:Li Expr}{Q:vL->sH7->Prop}{s:sH7}(hbase:attributeBase o name X.env (eval o X.env)=eval o X.env)(hfew:((backTo pos (starEach args X.env)).all (fun x=>!x.1)&&(backToKw pos (keywordEach [] X.env)).all (fun x=>x.1.isSome)&&decide (args.length+([]:Li Keyword).length+(if ([]:Li Keyword).isEmpty then 0 else 1) < 30))=true)(hline:(apos.endLine==pos.line)=true)(h:wpAny (model X.prog X.w) X.A (eval o X.env) (fun ov s₁=>∀ pl,wpAny (model X.prog X.w) X.A (getMethod ov name pl) (fun fx s₂=>wpAny (model X.prog X.w) X.A (callWith pos fx.1 fx.2 (backTo pos (starEach args X.env)) (backToKw pos (keywordEach [] X.env))) Q X.xe s₂) X.xe s₁) X.xe s) :
  wpAny (model X.prog X.w) X.A (eval (.Call (.Attribute o name apos) args [] pos) X.env) Q X.xe s:=by
 rw[arm_eval_Call,hbase];refine aA (bK h (fun ov s₁ h₁=>?_) fun _ _ e=>e)
 refine aA (wpAny_standAt ?_);have hform:methodCallForm (args.length+([]:Li Keyword).length) (backTo pos (starEach args X.env)) (backToKw pos (keywordEach [] X.env))=true:=hfew;have hpos:methodCallPos true o X.env apos pos=pure pos:=by unfold methodCallPos;simp[hline]
 unfold methodCall;rw[hform];refine aA (wpAny_holding ?_);exact bK (h₁ _) (fun fx s₂ h₂=>aA (wpAny_of_eq hpos h₂)) fun _ _ e=>e
theorem ZeU{k:Nat}(h:(YF m k G).lookup i=some j):∃ x ms subs ds,G.lookup x=some (.cls i ms subs ds)/\ms.lookup m=some (j,k+1):=by
 have hm:(i,j)∈YF m k G:=by
  generalize YF m k G=l at h
  induction l with
  |nil=>exact Zb h
  |cons p l ih=>
   obtain⟨a,b⟩:=p;rw[bO]at h;split at h
   ·rename_i z
    cases h;rw[beq_iff_eq.mp z];exact lQ7
   ·exact lM7 _ (ih h)
 obtain⟨x,_,hx⟩:=List.mem_filterMap.mp hm;unfold ZcP at hx;split at hx
 ·rename_i i' ms subs ds q
  split at hx
  ·rename_i j' ps q2
   split at hx
   ·rename_i e
    subst e;cases hx;exact⟨x,ms,subs,ds,q,q2⟩
   ·exact Zb hx
  ·exact Zb hx
 ·exact Zb hx
section
open PySem.SeqAt PySem.MeetsSeq PySem.MeetsSeq2 PySem.MeetsSeq3 PySem.SeqRoads2
theorem Vx{prog:Program}{w:World}{A:Around}{E:vL->sH7->Prop}{s:sH7}{items:Array vL}{x:vL}{e:vL->Bool}{j:Nat}(hj:j < items.size)(hit:e items[j]=true)(hno:∀ m (hm:m < items.size),m < j->e items[m]=false)(he:∀ y,y∈items->EqAt A s y x (e y)):∀ (k i:Nat) (Q:Ot Fin×Unit->sH7->Prop),i<=j->i+k=items.size->Q (some (.done (.ret (.int j s.toks))),()) { s with toks:=s.toks+1 }->
  wpAny (model prog w) A (forIn (List.range' i k) ((none,()):Ot Fin×Unit) fun(i:Nat) __s=>
      match items[i]? with
      |some y=>do
       let __do_lift <-eqBool y x
       if __do_lift=true then do
         let __do_lift <-retInt (i:Int)
         pure (ForInStep.done (some __do_lift,()))
        else pure (ForInStep.yield (none,()))
      |x=>pure (ForInStep.yield (none,()))) Q E s
 |0,i,Q,h1,h2,_=>by omega
 |k+1,i,Q,h1,h2,hQ=>by
  have hlt:i < items.size:=by omega
  rw[dS,List.forIn_cons];refine aA ?_;rw[eA hlt];refine aA (he _ (Array.getElem_mem hlt) prog w _ _ ?_);by_cases hij:i=j
  ·subst hij
   rw[hit]
   wp_walk
   exact hQ
  ·rw[hno i hlt (by omega)]
   wp_walk
   exact Vx hj hit hno he k (i+1) Q (by omega) (by omega) hQ
theorem Wz(l:Ad)(items:Array vL)(n:Nat)(o:Obj)(x:vL)(e:vL->Bool)(j:Nat)(hj:j < items.size)(hit:e items[j]=true)(hno:∀ m (hm:m < items.size),m < j->e items[m]=false)(hd:o.data=.seq items n) :
  Meets (Builtin.«tuple.index» ⟨[.ref l,x],[]⟩)
   (fun A R s=>s.heap.get? l=some o/\(∀ y,y∈items->EqAt A.in1 s y x (e y))/\R (.ok (.ret (.int j s.toks))) { s with toks:=s.toks+1 }):=by
 refine .of_wp fun prog w A R s h=>?_
 obtain⟨hp,g,d,tk,os⟩:=s;obtain⟨hl,he,h⟩:=h;obtain⟨oc,od,dt,osl⟩:=o;cases hd;unfold Builtin.«tuple.index»
 simp only[Std.Legacy.Range.forIn_eq_forIn_range',Std.Legacy.Range.size,Nat.sub_zero,Nat.add_sub_cancel,Nat.div_one]
 wp_walk using wpAny_loadPart' hl
 refine Vx hj hit hno he (min items.size items.size - 0) 0 _ (aU _) (by simp) ?_
 exact aF ⟨_,rfl,h⟩
end
theorem JD{k:Str}{tk:Tok}{i:Nat}:∀ {ks:Li Str}{us:Li vL},Vals (ks.map V.str) us->JC k ks=some i->∃ h:i < us.length,(fun y:vL=>match y with
   |.str a _=>a==k
   |_=>false) us[i]=true/\∀ m (hm:m < us.length),m < i->(fun y:vL=>match y with
   |.str a _=>a==k
   |_=>false) us[m]=false:=by
 intro ks
 induction ks generalizing i with
 |nil=>intro us _ h;cases h
 |cons a ks ih=>
  intro us r h;cases r with
  |@cons v u vs us' r1 r2=>
   obtain⟨t,rfl⟩:=r1;have h:(if a=k then some 0 else (JC k ks).map (·+1))=some i:=h
   split at h
   ·rename_i e
    cases h;refine⟨by simp,by simpa using e,fun m _ hm=>absurd hm (Nat.not_lt_zero m)⟩
   ·rename_i e
    cases q:JC k ks with
    |none=>rw[q]at h;cases h
    |some i'=>
     rw[q]at h;cases h;obtain⟨h1,h2,h3⟩:=ih r2 q;refine⟨by simpa using h1,by simpa using h2,fun m hm hl=>?_⟩
     cases m with
     |zero=>simpa using e
     |succ m=>
      have hl:m+1 < i'+1:=hl;simpa using h3 m (by simpa using hm) (by omega)
theorem Jb{us:Li vL}(r:Vals (ks.map V.str) us):∀ y∈us,∃ a t,y=.str a t:=by
 induction ks generalizing us with
 |nil=>cases r;intro y hy;exact nomatch hy
 |cons a ks ih=>
  cases r with
  |@cons v u vs us' r1 r2=>
   intro y hy;rcases aG.mp hy with rfl|hy
   ·obtain⟨t,rfl⟩:=r1;exact⟨a,t,rfl⟩
   ·exact ih r2 y hy
theorem ZeI{y:Str}{yp:Pos}{x:CE}(K:Cxt X G F sc N)(hline:(ap.endLine==cp.line)=true)(hlen:as.length=1)(B:PE X (.Name y yp) (tE X.K (ev F x)))(A:PA X as (tA X.K (ev F cs))/\V5 cs/\as.all Zi=true/\(as=[]->cs=.aN)):PE X (.Call (.Attribute (.Name y yp) "index" ap) as [] cp) (tE X.K (ev F (.tix x cs))):=by
 obtain⟨PAs,_,hp,_⟩:=A;obtain⟨e0,rfl⟩:=ZfC hlen;intro pQ s σ H Q I h;obtain⟨ad,ρ,st,d,st',E,S,e,p⟩:=h;replace e:Zv (ev F x) (ev F cs) ZeV ρ st=some (d,st'):=e;unfold Zv at e;split at e
 ·rename_i dx st1 q1
  split at e
  ·rename_i dy st2 q2
   unfold ZeV at e;split at e
   ·rename_i ks k
    split at e
    ·rename_i i hi
     cases e;rw[bC,bA7]at hp;refine wpAny_Call_method_late rfl (WE (by rw[bC,hp.1];rfl) (by simp)) hline rfl (thn (B pQ s σ H (fun v H1=>∃ ad1,Ext ad H ad1 H1/\StOk X.K ad1 H1 st1/\Den X.K ad1 H1 v (.kt ks)) I ⟨ad,ρ,st,.kt ks,st1,E,S,q1,fun v ad1 H1 x1 S1 d1=>⟨ad1,x1,S1,d1⟩⟩) fun u s1 ⟨v,H1,I1,rv,ad1,x1,S1,d1⟩=>?_)
     obtain⟨a,o,its,n,rfl,h1,h2,h3,h4,h5⟩:=d1.ofKt;cases (show u=Value.ref a from rv)
     have ga:s1.heap.get? a=some o:=I1.kIn a o h1;refine⟨"tuple", "tuple.index",PySem.F.plainAttrs_tuple,PySem.F.slot_tuple_index,PySem.F.type_tuple_index,⟨o,ga,h2.1⟩,fun b eb=>by cases eb;exact⟨o,ga,h2.2⟩,?_⟩
     have hA:=PAs cp pQ s1 σ H1 (fun vs H2=>∃ ad2,Ext ad1 H1 ad2 H2/\StOk X.K ad2 H2 st'/\Dens X.K ad2 H2 vs [.str k]) I1 ⟨ad1,ρ,st1,[.str k],st',E.mono x1,S1,q2,fun vs ad2 H2 x2 S2 d2=>⟨ad2,x2,S2,d2⟩⟩
     rw[Zg hp.1]at hA ⊢;refine Calls.callWith_builtin rfl (Calls.evalArgs_plain (thn hA fun us s2 ⟨vs,H2,I2,r2,ad2,x2,S2,d2⟩=>?_))
     obtain⟨w,rfl,dw⟩:=Vr d2;cases dw;obtain⟨u1,rfl,tu,rfl⟩:=r2.one;have ga2:s2.heap.get? a=some o:=I2.kIn a o h1;obtain⟨hj,hit,hno⟩:=JD (k:=k) (tk:=tu) h5 hi;have sz:its.toList.length=its.size:=cY;refine call_meets PySem.F.slot_tuple_index ⟨o,ga2,h2.1⟩ PySem.F.entry_tuple_index (PySem.F.args_tuple_index_2 _ _) (Wz a its n o (.str k tu) (fun y:vL=>match y with
      |.str a _=>a==k
      |_=>false) i (by rw[<-sz];exact hj) (by simpa using hit) (fun m hm hl=>by
      have z:=hno m (by rw[sz];exact hm) hl
      simp only[Array.getElem_toList]at z;exact z) h3) ⟨ga2,fun y hy=>?_,?_⟩
     ·obtain⟨b,t,rfl⟩:=Jb h5 y (by simpa using hy)
      exact PySem.SeqAt.EqAt.str_str b t k tu
     ·exact⟨.int (i:Int),H2,I2.tok _,⟨_,rfl⟩,p.later (x1.trans x2) _ ad2 H2 (Ext.refl _ _) S2 (.int _)⟩
    ·exact Zb e
   ·exact Zb e
  ·exact Zb e
 ·exact Zb e
theorem Qe{x:CE}(K:Cxt X G F sc N)(hline:(ap.endLine==cp.line)=true)(hlen:as.length < 20)(hba:attributeBase ob m X.env (eval ob X.env)=eval ob X.env)(B:PE X ob (tE X.K (ev F x)))(A:PA X as (tA X.K (ev F cs))/\V5 cs/\as.all Zi=true/\(as=[]->cs=.aN)):PE X (.Call (.Attribute ob m ap) as [] cp) (tE X.K (ev F (.meth (YF m as.length G) x cs))):=by
 obtain⟨PAs,_,hp,hn⟩:=A;intro pQ s σ H Q I h;obtain⟨ad,ρ,st,d,st',E,S,e,p⟩:=h;replace e:Wn F (YF m as.length G) (ev F x) (ev F cs) ρ st=some (d,st'):=e;unfold Wn at e;split at e
 ·rename_i o st1 q1
  split at e
  ·rename_i j hj
   split at e
   ·rename_i xs st2 q2
    obtain⟨c,hc,hj⟩:=dJ.mp hj;obtain⟨cx,ms,subs,ds,hG,hl⟩:=ZeU hj;obtain⟨_,nw,_,hms,_⟩:=K.gl cx _ hG;obtain⟨k,f,fd,pn,Fk,hr,hme,hb,_⟩:=hms m j _ hl;have hr:=hr.mono (bU k);refine ZbN hba (WE hp hlen) hline (thn (B pQ s σ H (fun v H1=>∃ ad1,Ext ad H ad1 H1/\StOk X.K ad1 H1 st1/\Den X.K ad1 H1 v o) I ⟨ad,ρ,st,o,st1,E,S,q1,fun v ad1 H1 x1 S1 d1=>⟨ad1,x1,S1,d1⟩⟩) fun u s1 ⟨v,H1,I1,rv,ad1,x1,S1,d1⟩ pl=>?_)
    obtain⟨a,dx,kvs,rfl,ho,nf⟩:∃ a dx kvs,v=.ref a/\H1 a=some (.ins (ClsTab.ca c) dx kvs)/\kvs.lookup m=none:=by
     cases o with
     |obj i=>cases hc;obtain⟨a,dx,rfl,ha⟩:=d1.ofObj;exact⟨a,dx,[],rfl,ha,rfl⟩
     |dic i=>
      have hc:(match st1[i]? with
       |some (_,.int c :: _)=>some c.toNat
       |_=>none)=some c:=hc
      split at hc
      ·rename_i b c' es q0
       cases hc;obtain⟨a,rfl,hl1,n1⟩:=d1.ofDic;obtain⟨jc,dx,kvs,rfl,r,ho,_,oc,nf⟩:=S1.obj hl1 n1 q0;rw[aZ]at hme ⊢;have hmf:fldNames.contains m=false:=by
        cases z:fldNames.contains m with
        |false=>rfl
        |true=>have z1:=oc.na m z;have z2:=hme.at_;unfold NoAttr at z1;rw[z1]at z2;cases z2
       exact⟨a,dx,kvs,rfl,ho,nf m hmf⟩
      ·exact Zb hc
     |_=>exact Zb hc
    cases (show u=Value.ref a from rv)
    refine getmeth_ok I1 ho nw.cl hme nf ?_;cases as with
    |nil=>
     have hc:=hn rfl;subst hc;have q2:some (D.tup [],st1)=some (.tup xs,st2):=q2;cases q2;exact PySem.W.callWith_K0 (first:=[.ref a]) I1.kIn hme.kp (run_fn (us:=[.ref a]) (vs:=[.ref a]) (E:=E0) Fk hr hb .nil pass0 I1 (.cons rfl .nil) ⟨ad1,[o],st1,d,st',S1,.cons d1 .nil,e,p.later x1⟩)
    |cons e0 es=>
     rw[bC,bA7]at hp;refine PySem.W.callWith_K (first:=[.ref a]) (h₀:=X.base) I.ok.mod.kin hme.kp (thn (PAs cp pQ s1 σ H1 _ I1 ⟨ad1,ρ,st1,xs,st2,E.mono x1,S1,q2,fun vs ad2 H2 x2 S2 d2=>(show(fun vs H2=>∃ ad2,Ext ad1 H1 ad2 H2/\StOk X.K ad2 H2 st2/\Dens X.K ad2 H2 vs xs) vs H2 from⟨ad2,x2,S2,d2⟩)⟩) fun us s2 ⟨vs,H2,I2,r,ad2,x2,S2,d2⟩=>⟨I2.kIn,?_⟩) (Zg hp.1) (Yc hp.2)
     refine run_fn (us:=.ref a :: us) (vs:=.ref a :: vs) (E:=E0) Fk hr hb .nil pass0 I2 (.cons rfl r) ?_;rw[aW];exact⟨ad2,o :: xs,st2,d,st',S2,.cons (d1.mono x2) d2,e,p.later (x1.trans x2)⟩
   ·exact Zb e
  ·exact Zb e
 ·exact Zb e
theorem ZfS{np:Nat}{p:Pos}(K:Cxt X G F sc N)(hg:Zy sc f=true)(hG:G.lookup f=some (.cls i ms subs ds))(hl:ms.lookup ("__init__":Str)=some (j,np))(hle:as.length+1<=np/\np<=as.length+1+ds.length)(A:PA X as (tA X.K (ev F cs))/\V5 cs/\as.all Zi=true/\(as=[]->cs=.aN)):PE X (.Call (.Name f p) as [] pos) (tE X.K (ev F (.mk i j cs (ds.drop (as.length+1+ds.length - np))))):=by
 obtain⟨hm,nw,_,hms,_⟩:=K.gl f _ hG;obtain⟨k,fa,fd,pn,Fk,hr,hme,_,hin⟩:=hms _ j np hl;obtain⟨oc,hb⟩:=hin rfl;obtain⟨dvs,dus,hd,hv,hbn⟩:=hb (as.length+1+ds.length - np) (by omega)
 obtain⟨PAs,_,hp,hn⟩:=A;intro pQ s σ H Q I h;obtain⟨ad,ρ,st,d,st',E,S,e,q⟩:=h;replace e:Zo (ev F cs) (mkR F i j (ds.drop (as.length+1+ds.length - np))) ρ st=some (d,st'):=e;generalize ds.drop (as.length+1+ds.length - np)=dd at e hd;unfold Zo at e;split at e
 ·rename_i x st1 q1
  unfold mkR at e;split at e
  ·rename_i xs
   split at e
   ·rename_i st2 q2
    cases e;refine wpAny_Call_Name_kw (ld_glob I (K.glb f hg) hm ?_ (YC hg));have fin:∀ {vs:Li V}{H1:Hp}{ad1:Li Ad},Ext ad H ad1 H1->StOk X.K ad1 H1 st1->Dens X.K ad1 H1 vs xs->∀ x dx,H1 x=none->H1 dx=none->dx≠x->(∀ o,X.K.lookup x≠some o)->spD X.K (F j) (.ref x :: (vs++dvs)) (upd (upd H1 dx (.own x)) x (.ins (ClsTab.ca i) dx [])) (fun v H2=>v=.non/\Q (.ref x) H2) E0:=fun {vs H1 ad1} x1 S1 d1 x dx hx hdx hne hk=>by
     have hx2:upd H1 dx (.own x) x=none:=by rw[upd_ne hne.symm];exact hx
     have S2:=S1.laid (o:=.own x) hdx;have xt:=(Ext.laid (ad:=ad1) (o:=.own x) hdx).trans (S2.extD (o:=.ins (ClsTab.ca i) dx []) hx2 hk);have gl:(ad1++[x])[st1.length]?=some x:=by rw[<-S1.len];exact ZA
     exact⟨ad1++[x],.dic st1.length :: (xs++dd),_,.non,_,S2.pushO hx2 hk oc,.cons (.dic gl ⟨_,upd_same,rfl⟩) ((d1.mono xt).append (hd _ _)),q2,fun v ad2 H2 x2 S3 d2=>⟨d2.ofNon,q _ ad2 H2 (x1.trans (xt.trans x2)) S3 (.dic (x2.pre _ _ gl) ((x2.kd _ _ gl).mp ⟨_,upd_same,rfl⟩))⟩⟩
    cases as with
    |nil=>
     have hc:=hn rfl;subst hc;have q1:some (D.tup [],st)=some (.tup xs,st1):=q1;cases q1;exact PySem.W.callWith_K0 I.kIn nw.kp (run_make (us:=[]) (vs:=[]) (E:=E0) ⟨nw.makes,hme.at_,hme.fn,nw.kp⟩ Fk hr hbn hv pass0 I .nil (fin (.refl _ _) S .nil))
    |cons e0 es=>
     rw[bC,bA7]at hp;refine PySem.W.callWith_K (h₀:=X.base) I.ok.mod.kin nw.kp (thn (PAs pos pQ s σ H _ I ⟨ad,ρ,st,xs,st1,E,S,q1,fun vs ad2 H2 x2 S2 d2=>(show(fun vs H2=>∃ ad2,Ext ad H ad2 H2/\StOk X.K ad2 H2 st1/\Dens X.K ad2 H2 vs xs) vs H2 from⟨ad2,x2,S2,d2⟩)⟩) fun us s2 ⟨vs,H2,I2,r,ad2,x2,S2,d2⟩=>⟨I2.kIn,?_⟩) (Zg hp.1) (Yc hp.2)
     exact run_make (E:=E0) ⟨nw.makes,hme.at_,hme.fn,nw.kp⟩ Fk hr hbn hv pass0 I2 r (fin x2 S2 d2)
   ·exact Zb e
  ·exact Zb e
 ·exact Zb e
theorem Zbt{K:fG7}(hf:fldNames.contains f=true)(σ:L2.St)(H:Hp)(Q:VK)(h:tE K (Zo fa (ZdH f)) σ H Q):tFld K (tE K fa) f σ H Q:=by
 obtain⟨ad,ρ,st,d,st',E,S,e,p⟩:=h;unfold Zo at e;split at e
 ·rename_i x st1 q1
  unfold ZdH at e;split at e
  ·rename_i a
   split at e
   ·rename_i b c es q2
    split at e
    ·rename_i w q3
     cases e;refine⟨ad,ρ,st,.dic a,_,E,S,q1,fun v ad1 H1 x1 S1 d1=>?_⟩
     obtain⟨l,rfl,hl,n⟩:=d1.ofDic;obtain⟨j,dx,kvs,rfl,r,ho,_,oc,nf⟩:=S1.obj hl n q2;obtain⟨u,e1,e3⟩:=QK r q3;exact⟨l,_,dx,kvs,u,rfl,ho,oc.cl,oc.na f hf,e1,(p.later x1).at S1 e3⟩
    ·exact Zb e
   ·exact Zb e
  ·exact Zb e
 ·exact Zb e
theorem ZeC{c:Ot CE}{r:CE}(A:∀ x,c=some x->PE X o (tE X.K (ev F x)))(h:Zft o f c=some r):PE X (.Attribute o f pos) (tE X.K (ev F r)):=by
 cases o with
 |Name y yp=>exact Yv h fun hc h=>Wo (P:=fun r=>PE X _ (tE X.K (ev F r))) h fun x hx=>Zq (pe_fld (A x hx) rfl) (Zbt hc)
 |_=>exact Zb h
theorem UA{p:Ot Expr×Ot Expr}(q:X0 b=some p):∃ p2,b=.Slice p.1 p.2 none p2:=by
 unfold X0 at q;split at q
 ·cases q;exact⟨_,rfl⟩
 ·exact Zb q
theorem ZfT{op:UnaryOp}{o:Ot CE}{c:CE}(A:∀ x,o=some x->SE X F a x)(h:unC op o=some c):SE X F (.UnaryOp op a pos) c:=by
 cases op with
 |Not=>exact Wo (P:=SE X F _) (show o.map CE.not=some c from h) fun x hx=>⟨Zq (pe_not (A x hx).pe) JV,Ws (pt_not (A x hx).pt) JU⟩
 |USub=>exact Wo (P:=SE X F _) (show o.map CE.neg=some c from h) fun x hx=>.of (Zq (pe_un Zcv (A x hx).pe) ZdK)
 |_=>exact Zb h
section
variable {X:Cx}{sc:Scope}{N:Li Str}{n:Nat}{c:CE} (K:Cxt X G F sc N) (hf:∀ e c,cE G n sc N e=some c->SE X F e c)
include K hf
theorem ZeB{ops:Li CmpOp}{bs:Li Expr}(h:Zfh G sc (cE G n sc N) (cE G n sc N a) ops bs=some c):SE X F (.Compare a ops bs pos) c:=by
 cases ops with
 |nil=>exact Zb h
 |cons op ops=>cases bs with
  |nil=>cases ops with
   |nil=>exact Zb h
   |cons _ r=>cases r<;>cases h
  |cons b bs=>cases ops with
   |nil=>cases bs with
    |cons _ _=>exact Zb h
    |nil=>
     replace h:(match ZO G sc b with
      |some e=>o3 CE.inR (ZdL op) (cE G n sc N a) (cE G n sc N e)
      |none=>o2 (CE.cmp op) (cE G n sc N a) (cE G n sc N b))=some c:=h
     cases he:ZO G sc b with
     |some e=>
      rw[he]at h;exact Y8 (P:=SE X F _) h fun ng x y hg hx hy=>ZeD K he hg (Zf hy) (hf a x hx).pe (hf e y hy).pe
     |none=>
      rw[he]at h;exact ZU (P:=SE X F _) h fun x y hx hy=>⟨Zq (pe_cmpR (Qb K.hu) (hf a x hx).pe (hf b y hy).pe (XR (Zf hy))) WW,Ws (pt_cmpR (Qb K.hu) (hf a x hx).pe (hf b y hy).pe (XR (Zf hy))) fun σ H Q q=>WW σ H _ (JZ σ H Q q)⟩
   |cons op2 ops=>exact Zb h
omit K in
theorem Zb6{op:BoolOp}{vs:Li Expr}{pos:Pos}(h:ZcG (cE G n sc N) op pos vs=some c):SE X F (.BoolOp op vs pos) c:=by
 cases vs with
 |nil=>exact Zb h
 |cons a r=>cases r with
  |nil=>
   have A:=hf a c h;refine⟨pe_one A.pe,?_⟩;cases op with
   |And=>exact(pw_and1 A.pt).pt
   |Or=>exact(pw_or1 A.pt).pt
  |cons b r=>cases op with
   |And=>exact ZU (P:=SE X F _) (show o2 CE.and (cE G n sc N a) (cE G n sc N (.BoolOp .And (b :: r) pos))=some c from h) fun x y hx hy=>⟨Zq (pe_and (hf a x hx).pe (hf _ y hy).pe) JF,Ws (pw_and (hf a x hx).pt (VW (hf _ y hy).pt)).pt JE⟩
   |Or=>exact ZU (P:=SE X F _) (show o2 CE.or (cE G n sc N a) (cE G n sc N (.BoolOp .Or (b :: r) pos))=some c from h) fun x y hx hy=>⟨Zq (pe_or (hf a x hx).pe (hf _ y hy).pe) Zbz,Ws (pw_or (hf a x hx).pt (VW (hf _ y hy).pt)).pt Zby⟩
theorem ZeH(ihO:WO G F n)(h:ZeT G sc (cE G n sc N) (cO G n sc N) a b=some c):SE X F (.Subscript a b pos) c:=by
 unfold ZeT at h;cases q:X0 b with
 |some p=>
  obtain⟨lo,hi⟩:=p;rw[q]at h;obtain⟨p2,rfl⟩:=UA q;exact Y8 (P:=SE X F _) h fun x l u hx hl hu=>.of (Zq (pe_slice Zg3 (hf a x hx).pe (ihO X sc N K lo l hl) (ihO X sc N K hi u hu)) QQ)
 |none=>
  rw[q]at h;dsimp only at h;cases q':ZcX b with
  |some s=>
   cases q'
  |none=>
   rw[q']at h;dsimp only at h;cases hn:U5 G sc a with
   |some p=>
    obtain⟨ks,ds⟩:=p;rw[hn]at h;exact Wo (P:=SE X F _) h fun y hy=>.of (Zb9 K hn (Zf hy) (hf b y hy).pe)
   |none=>
    rw[hn]at h;exact ZU (P:=SE X F _) h fun x y hx hy=>.of (Zq (pe_ix (Zgi K.hu) (hf a x hx).pe (hf b y hy).pe (VG (Zf hy))) WW)
theorem Zax{p:Pos}(hg:Zy sc f=true)(hm:X.mg f=none)(h:Ji G sc f a (cE G n sc N)=some c):SE X F (.Call (.Name f p) [a] [] pos) c:=by
 unfold Ji at h;cases he:UE G sc f a with
 |some e=>
  rw[he]at h;exact ZeJ K hg hm he (fun c hc=>⟨Zf hc,(hf e c hc).pe⟩) h
 |none=>
  rw[he]at h;dsimp only at h;cases hl:Ur G sc f a with
  |some q=>
   obtain⟨u,v⟩:=q;rw[hl]at h;exact ZU (P:=SE X F _) h fun x y hx hy=>.of (Zca K hg hm hl (Zf hx) (Zf hy) (hf u x hx).pe (hf v y hy).pe)
  |none=>
   rw[hl]at h;exact j_e h fun h=>Wo (P:=fun o=>o=some c->SE X F _ c) h (fun x hx h=>.of (Zb4 K hg hm (Zf hx) (hf a x hx).pe h)) rfl
theorem Zay{p:Pos}(hg:Zy sc f=true)(hm:X.mg f=none)(h:Jj G sc f a b (cE G n sc N)=some c):SE X F (.Call (.Name f p) [a,b] [] pos) c:=by
 unfold Jj at h;by_cases ei:f = "isinstance"
 ·subst ei
  rw[if_pos rfl]at h;cases hl:Ug G sc b with
  |some l=>
   rw[hl]at h;exact Wo (P:=SE X F _) h fun x q=>.of (ZeE K hg hm (Zf q) (hf a x q).pe hl)
  |none=>
   rw[hl]at h;exact ZU (P:=SE X F _) h fun x T hx hT=>.of (ZeF K hg hm (Zf hx) (hf a x hx).pe hT)
 ·rw[if_neg ei]at h
  exact j_e h fun h=>ZU (P:=fun o=>o=some c->SE X F _ c) h (fun x y hx hy h=>.of (Zb5 K hg hm (Zf hx) (Zf hy) (hf a x hx).pe (hf b y hy).pe h)) rfl
theorem Zaz(ihA:Yr G F n){p:Pos}(h:Jk G sc f as (cEs G n sc N as) (cE G n sc N)=some c):SE X F (.Call (.Name f p) as [] pos) c:=by
 unfold Jk at h;cases hg:Zy sc f with
 |false=>rw[hg]at h;cases h
 |true=>
 rw[hg,if_pos rfl]at h;cases hG:G.lookup f with
 |none=>rw[hG]at h;cases h
 |some g=>
  rw[hG]at h;cases g with
  |fn i ps ds=>exact Yv h fun hl h=>Wo (P:=SE X F _) h fun cs hcs=>.of (Zb7 K hg hG hl (ihA X sc N K as cs hcs))
  |blt=>
   have hm:X.mg f=none:=K.gl f _ hG;cases as with
   |nil=>exact Zb h
   |cons a as=>cases as with
    |nil=>exact Zax K hf hg hm h
    |cons b as=>cases as with
     |nil=>exact Zay K hf hg hm h
     |cons _ _=>exact Zb h
  |cls i ms subs ds=>
   dsimp only at h;cases hi:ms.lookup ("__init__":Str) with
   |some q=>
    rw[hi]at h;exact Yv h fun hc h=>Wo (P:=SE X F _) h fun cs hcs=>.of (ZfS K hg hG hi hc (ihA X sc N K as cs hcs))
   |none=>
    rw[hi]at h;cases as with
    |cons _ _=>exact Zb h
    |nil=>cases h;exact .of (ZeG K hg hG hi)
  |_=>exact Zb h
theorem Zb3(ihA:Yr G F n)(h:ZcF G ob m ap as pos (cEs G n sc N as) (cE G n sc N)=some c):SE X F (.Call (.Attribute ob m ap) as [] pos) c:=by
 cases ob with
 |Dict ks vs dp=>cases as with
  |nil=>exact Zb h
  |cons a as=>cases as with
   |nil=>exact Zb h
   |cons b as=>cases as with
    |cons _ _=>exact Zb h
    |nil=>
     refine Yv h fun hc h=>Y8 (P:=SE X F _) h fun x y z hx hy hz=>?_
     obtain⟨rfl,hline⟩:=hc;exact .of (Zb8 K hline (Zf hy) (Zf hz) (hf _ x hx).pe (hf a y hy).pe (hf b z hz).pe)
 |Name y yp=>
  refine Yv h fun hc h=>?_
  by_cases hm:m = "index"
  ·subst hm
   rw[if_pos rfl]at h;exact Yv h fun h1 h=>ZU (P:=SE X F _) h fun x cs hx hcs=>.of (ZeI K hc.1 h1 (hf _ x hx).pe (ihA X sc N K as cs hcs))
  ·rw[if_neg hm]at h
   exact ZU (P:=SE X F _) h fun x cs hx hcs=>.of (Qe K hc.1 hc.2 rfl (hf _ x hx).pe (ihA X sc N K as cs hcs))
 |Subscript _ _ _=>exact Yv h fun hc h=>ZU (P:=SE X F _) h fun x cs hx hcs=>.of (Qe K hc.1 hc.2 rfl (hf _ x hx).pe (ihA X sc N K as cs hcs))
 |_=>exact Zb h
end
theorem UB(ihE:Zm G F n)(ihA:Yr G F n)(ihO:WO G F n)(hcomp:∀ X sc N,Cxt X G F sc N->∀ elt gens sc2 pos c,cE G (n+1) sc N (.ListComp elt gens sc2 pos)=some c->SE X F (.ListComp elt gens sc2 pos) c):Zm G F (n+1):=by
 intro X sc N K e c h;have hf:=ihE X sc N K;have no:∀ {P:Prop},(none:Ot CE)=some c->P:=fun z=>nomatch z
 cases e with
 |Constant v k pos=>exact ZaA h
 |Name x pos=>exact Zcb K h
 |BinOp a op b pos=>exact ZU (P:=SE X F _) (show o2 (CE.bin op) (cE G n sc N a) (cE G n sc N b)=some c from h) fun x y hx hy=>.of (Zq (pe_op ZbT (hf a x hx).pe (hf b y hy).pe) WW)
 |UnaryOp op a pos=>exact ZfT (hf a) h
 |Compare a ops bs pos=>exact ZeB K hf h
 |BoolOp op vs pos=>exact Zb6 hf h
 |IfExp t a b pos=>exact Y8 (P:=SE X F _) (show o3 CE.ife (cE G n sc N t) (cE G n sc N a) (cE G n sc N b)=some c from h) fun z x y hz hx hy=>⟨Zq (pe_ifExp (hf t z hz).pt (hf a x hx).pe (hf b y hy).pe) ZdJ,Zd9 (hf t z hz).pt (hf a x hx).pt (hf b y hy).pt⟩
 |Tuple es k pos=>
  refine Wo (P:=SE X F _) (show(cEs G n sc N es).map CE.tupE=some c from h) fun x q=>?_
  obtain⟨A,hA,_,_⟩:=ihA X sc N K es x q;exact .of (Zq (pe_tup A) (ZbD (fun ρ st ds st' e=>by obtain⟨ds',z,hz⟩:=WP hA e;cases z;exact hz) fun ρ st d st' e=>by obtain⟨ds',z,hz⟩:=WP hA e;exact⟨ds',z⟩))
 |List es pos=>
  refine Wo (P:=SE X F _) (show(cEs G n sc N es).map CE.lstE=some c from h) fun x q=>?_
  obtain⟨A,hA,_,_⟩:=ihA X sc N K es x q;exact .of (Zq (pe_lst A) (Zbw fun ρ st ds st' e=>by obtain⟨ds',z,hz⟩:=WP hA e;cases z;exact hz))
 |Dict keys vals pos=>cases keys with
  |nil=>cases vals with
   |nil=>cases h;exact .of (Zq Zar JJ)
   |cons _ _=>exact Zb h
  |cons k0 keys=>exact Zb h
 |Attribute o f pos=>exact .of (ZeC (fun x hx=>(hf o x hx).pe) h)
 |Subscript a b pos=>exact ZeH K hf ihO h
 |Call f as kws pos=>cases kws with
  |cons _ _=>exact no h
  |nil=>cases f with
   |Attribute ob m ap=>exact Zb3 K hf ihA h
   |Name f p=>exact Zaz K hf ihA h
   |_=>exact no h
 |ListComp elt gens sc2 pos=>exact hcomp X sc N K elt gens sc2 pos c h
 |_=>exact no h
theorem V0(ihE:Zm G F n)(ihA:Yr G F n):Yr G F (n+1):=by
 intro X sc N K es c h;cases es with
 |nil=>
  simp only[cEs]at h;cases h;exact⟨Zaq pa_nil Vy,trivial,rfl,fun _=>rfl⟩
 |cons e es=>
  refine ZU (P:=fun c=>PA X _ (tA X.K (ev F c))/\V5 c/\_/\(_->c=.aN)) (show o2 CE.aC (cE G n sc N e) (cEs G n sc N es)=some c from h) fun x r hx hr=>?_
  obtain⟨A,hA,hp,_⟩:=ihA X sc N K es r hr;exact⟨Zaq (pa_cons (ihE X sc N K e x hx).pe A (Zg (Zf hx))) QO,trivial,by rw[bC,hp,Zf hx];rfl,fun z=>nomatch z⟩
theorem V1(ihE:Zm G F n):WO G F (n+1):=by
 intro X sc N K e c h;cases e with
 |none=>
  simp only[cO]at h;cases h;exact Zas po_none Zbx
 |some e=>
  simp only[cO]at h;cases q:cE G n sc N e with
  |none=>rw[q]at h;cases h
  |some x=>
   rw[q]at h;cases h;refine Zas (po_some (ihE X sc N K e x q).pe) fun σ H Q hq=>?_
   obtain⟨ad,ρ,st,d,st',E,S,e1,p⟩:=hq;have e1:Zo (ev F x) VU ρ st=some (d,st'):=e1;unfold Zo at e1;split at e1
   ·rename_i y st1 q1
    cases y with
    |int i=>
     cases e1;rcases p with⟨z,_⟩|⟨j,z,p⟩
     ·cases z
     ·cases z
      exact⟨ad,ρ,st,.int i,_,E,S,q1,fun v ad' H' x S' d'=>⟨i,d'.ofInt,p ad' H' x S'⟩⟩
    |_=>simp[VU]at e1
   ·exact Zb e1
end
variable [ClsTab]
variable{α β:Type}
theorem b_e{P:Prop}{o:Ot α}{f:α->Ot β}{c:β}(h:o.bind f=some c)(k:∀ x,o=some x->f x=some c->P):P:=by
 cases o with
 |none=>exact Zb h
 |some x=>exact k x rfl h
theorem ZcV{s:Stmt}{t u:TS}(h1:PS X s t)(h2:PS X s u):PS X s (fun D σ H=>t D σ H\/u D σ H):=fun pQ s σ H D I q=>q.elim (h1 pQ s σ H D I) (h2 pQ s σ H D I)
variable{l:Nat}
theorem Y1{tg:Ot Expr}(h:Z3 e=false):swapsWith e tg l env=pure false:=by
 cases e<;>first|rfl|cases h
variable{tg:Expr}
theorem Z7(h:Z3 e=false):swapsWithSole [tg] e l env=pure false:=Y1 h
theorem Xc{k:Expr}{p:Pos}(h:Zi k=true):∀ v,assign (.Subscript o k p) env v=(do
   let ov <-holding [v] (eval o env)
   let iv <-holding [v,ov] (eval k env)
   standAt p
   holding [v,ov,iv] (setItem ov iv v)
   release [v,ov,iv] []):=by
 cases k<;>first | (intro _;rfl)|cases h
theorem Xj{k:Expr}{p:Pos}:swappedStores [.Subscript o k p] e env=pure none:=by
 cases e<;>rfl
theorem ZG(h:Zi e=true):∀ x,foldedSetIterable e env x=pure x:=by
 cases e<;>first | (intro _;rfl)|cases h
structure CxtS(X:Cx)(G:Gs)(F:Nat->Fn)(sc:Scope)(N:List Str):Prop extends Cxt X G F sc N where
 nd:N.Nodup
 loc:∀ x∈N,Loc X.env.scope x
 fn:∀ x,X.fn x=true
variable{it elt:Expr}{gens:Li Comprehension}{sc2:Scope}{tp p2 p3 q:Pos}{ctx t' kk:Nat}{z:Str}{h' h:Heap}{i1 i2:Ad}{elts:Li Expr}{fi:Ev}
section
variable {G:Gs}{F:Nat->Fn}
def V6(G:Gs)(F:Nat->Fn)(n:Nat):Prop:=∀ X sc N,CxtS X G F sc N->∀ s c,cS G n sc N s=some c->PS X s (tS X.K (ex F c))
def ZL(G:Gs)(F:Nat->Fn)(n:Nat):Prop:=∀ X sc N,CxtS X G F sc N->∀ s c,cSs G n sc N s=some c->PSs X s (tS X.K (ex F c))
theorem WV{x:Str}(h:N.idxOf? x=some i):x∈N:=aV (Xf h)
theorem ZV{x:Str}{p:Pos}(K:CxtS X G F sc N)(h:N.idxOf? x=some i):PG X (.Name x p) (gName i):=
 pg_name (by rw[K.hN];exact K.nd) (by rw[K.hN];exact Xf h) (K.loc x (WV h)) (.inl (K.fn x))
theorem YZ(K:CxtS X G F sc N):PassesOwn (model X.prog X.w) X.A X.env X.xe:=by
 rw[K.nx];exact PassesOwn.never
theorem VV{x:Str}{p:Pos}(K:Cxt X G F sc N)(hl:YW sc x=true)(hi:N.idxOf? x=some i):PE X (.Name x p) (tVar i):=
 pe_var (by rw[K.hN];exact Xf hi) (K.vis _ hl) (W1 hl).1 (W1 hl).2
theorem XT{x:CE}(K:Cxt X G F sc N)(h:ZO G sc it=some a)(hp:Zi a=true)(A:PE X a (tE X.K (ev F x))):Zi it=true/\PI X tg it (iRng1 (tCons (tE X.K (ev F x)) tNil)):=by
 obtain⟨_,_,rfl,hg,hm⟩:=Wy K h;exact⟨rfl,pi_range1 hg hm (pa1 hp A) (Zg hp)⟩
def X2(G:Gs)(F:Nat->Fn)(n:Nat):Prop:=∀ X sc N,CxtS X G F sc N->∀ (x:Str) (i:Nat) (p:Pos) elt gens sc2 epos (pos:Pos) c,N.idxOf? x=some i->cE G n sc N (.ListComp elt gens sc2 epos)=some c->
 swapsWith (.ListComp elt gens sc2 epos) (some (.Name x p)) pos.line X.env=pure true->PS X (.Assign [.Name x p] (.ListComp elt gens sc2 epos) pos) (tAsg (tE X.K (ev F c)) (gName i))
theorem UC{epos p:Pos}{x:Str}:∃ b:Bool,swapsWith (.ListComp elt gens sc2 epos) (some (.Name x p)) l env=pure b:=⟨_,rfl⟩
theorem Zaj{c:CE}(h:cE G n sc N e=some c):Z3 e=false\/∃ elt gens sc2 epos,e=.ListComp elt gens sc2 epos:=by
 cases n with
 |zero=>exact nomatch (show(none:Ot CE)=some c from h)
 |succ n=>cases e<;>first|exact .inl rfl|exact .inr ⟨_,_,_,_,rfl⟩|exact nomatch (show(none:Ot CE)=some c from h)
theorem ZeM(ihE:Zm G F n)(hA:X2 G F n)(K:CxtS X G F sc N){c:CS}{x:Str}{p:Pos}(h:o2 CS.set (N.idxOf? x) (cE G n sc N e)=some c):PS X (.Assign [.Name x p] e pos) (tS X.K (ex F c)):=by
 refine ZU (P:=fun c=>PS X _ (tS X.K (ex F c))) h fun i y hi hx=>?_
 have pl:∀ hs,PS X (.Assign [.Name x p] e pos) (tAsg (tE X.K (ev F y)) (gName i)):=fun hs=>ps_set (by rw[K.hN];exact K.nd) (by rw[K.hN];exact Xf hi) (K.loc _ (WV hi)) (ihE X sc N K.toCxt _ y hx).pe hs (.inl (K.fn _))
 rcases Zaj hx with hc|⟨elt,gens,sc2,epos,rfl⟩
 ·exact Zt (pl (Y1 hc)) WX
 ·obtain⟨b,hb⟩:=UC (elt:=elt) (gens:=gens) (sc2:=sc2) (epos:=epos) (p:=p) (x:=x) (l:=pos.line) (env:=X.env)
  cases b with
  |false=>exact Zt (pl hb) WX
  |true=>exact Zt (hA X sc N K _ i p elt gens sc2 epos pos y hi hx hb) WX
theorem Xk{ts:Li Expr}{k:Nat}(h:Wh e=false):swappedStores [.Tuple ts k tp] e env=pure none:=by
 cases e with
 |Tuple=>cases h
 |_=>rfl
theorem Zcp(ihE:Zm G F n)(K:CxtS X G F sc N){c:CS}{x y:Str}{p:Pos}(h:og ((Z3 e||Wh e)=false) (o3 (fun i j c=>og (i≠j) (some (CS.set2 i j c))) (N.idxOf? x) (N.idxOf? y) (cE G n sc N e)).join=some c):PS X (.Assign [.Tuple [.Name x p,.Name y p2] ctx tp] e pos) (tS X.K (ex F c)):=by
 refine Yv h fun hc h=>j_e h fun h=>Y8 (P:=fun o=>o=some c->PS X _ (tS X.K (ex F c))) h (fun i j ce hi hj hx h=>Yv h fun _ h=>?_) rfl
 cases h;rw[dQ]at hc;exact Zt (ps_asg (ihE X sc N K.toCxt _ ce hx).pe (pg_tup K.calm (pgs_cons (ZV K hi) (pgs_cons (ZV K hj) pgs_nil))) (Z7 hc.1) (Xk hc.2)) JW
theorem Zcq(ihE:Zm G F n)(K:CxtS X G F sc N){c:CS}{x y:Str}{p:Pos}(h:og ((Z3 e||Wh e)=false) (o3 (fun i j (p:Nat×CE)=>CS.set3 i j p.1 p.2) (N.idxOf? x) (N.idxOf? y) (o2 Prod.mk (N.idxOf? z) (cE G n sc N e)))=some c):PS X (.Assign [.Tuple [.Name x p,.Name y p2,.Name z p3] ctx tp] e pos) (tS X.K (ex F c)):=by
 refine Yv h fun hc h=>Y8 (P:=fun c=>PS X _ (tS X.K (ex F c))) h fun i j q hi hj hq=>ZU (P:=fun q=>PS X _ (tS X.K (ex F (.set3 i j q.1 q.2)))) hq fun l ce hl hx=>?_
 rw[dQ]at hc;exact Zt (ps_asg (ihE X sc N K.toCxt _ ce hx).pe (pg_tup K.calm (pgs_cons (ZV K hi) (pgs_cons (ZV K hj) (pgs_cons (ZV K hl) pgs_nil)))) (Z7 hc.1) (Xk hc.2)) JX
theorem Zcr(ihE:Zm G F n)(K:CxtS X G F sc N){c:CS}{x y w:Str}{p p4:Pos}(h:og ((Z3 e||Wh e)=false) (o3 (fun i j (p:Nat×Nat×CE)=>CS.set4 i j p.1 p.2.1 p.2.2) (N.idxOf? x) (N.idxOf? y) (o3 (fun l m c=>(l,m,c)) (N.idxOf? z) (N.idxOf? w) (cE G n sc N e)))=some c):PS X (.Assign [.Tuple [.Name x p,.Name y p2,.Name z p3,.Name w p4] ctx tp] e pos) (tS X.K (ex F c)):=by
 refine Yv h fun hc h=>Y8 (P:=fun c=>PS X _ (tS X.K (ex F c))) h fun i j q hi hj hq=>Y8 (P:=fun q=>PS X _ (tS X.K (ex F (.set4 i j q.1 q.2.1 q.2.2)))) hq fun l m ce hl hm hx=>?_
 rw[dQ]at hc;exact Zt (ps_asg (ihE X sc N K.toCxt _ ce hx).pe (Zd6 K.calm (pgs_cons (ZV K hi) (pgs_cons (ZV K hj) (pgs_cons (ZV K hl) (pgs_cons (ZV K hm) pgs_nil)))) rfl rfl) (Z7 hc.1) (Xk hc.2)) JY
theorem ZeK(ihE:Zm G F n)(K:CxtS X G F sc N){c:CS}{fp:Pos}{kw:Li Keyword}(h:(cE G n sc N (.Call (.Name f fp) as kw cp)).map CS.act=some c):PS X (.Expr (.Call (.Name f fp) as kw cp) pos) (tS X.K (ex F c)):=by
 obtain⟨ce,hx,rfl⟩:=dI.mp h;exact Zt (ps_expr (ihE X sc N K.toCxt _ ce hx).pe rfl) UY
theorem ZeN(ihE:Zm G F n)(K:CxtS X G F sc N){c:CS}{x:Str}{k:Expr}{p:Pos}(h:ZfM sc N x k e (cE G n sc N)=some c):PS X (.Assign [.Subscript (.Name x p) k q] e pos) (tS X.K (ex F c)):=
 Yv h fun hc h=>by
 exact Y8 (P:=fun c=>PS X _ (tS X.K (ex F c))) h fun _ ck y hi hck hx=>Zt (ZcV (ps_asg (ihE X sc N K.toCxt _ y hx).pe (pg_sub (VV K.toCxt hc.2.2 hi) (ihE X sc N K.toCxt _ ck hck).pe set_list (Xc (Zf hck))) (Z7 hc.1) Xj) (Zt (ps_asg (ihE X sc N K.toCxt _ y hx).pe (pg_sub (Zq (VV K.toCxt hc.2.2 hi) UZ) (ihE X sc N K.toCxt _ ck hck).pe (ZaF (by have:=K.toCxt.hu;omega)) (Xc (Zf hck))) (Z7 hc.1) Xj) VC)) ZbA
theorem Zcf(ihE:Zm G F n)(K:CxtS X G F sc N){c:CS}{k:Expr}(h:og (Z3 e=false/\ZdO k=false) (o3 (CS.dput 0) (cE G n sc N o) (cE G n sc N k) (cE G n sc N e))=some c):PS X (.Assign [.Subscript o k q] e pos) (tS X.K (ex F c)):=
 Yv h fun hc h=>Y8 (P:=fun c=>PS X _ (tS X.K (ex F c))) h fun co ck ce ho hk he=>Zt (ps_asg (ihE X sc N K.toCxt _ ce he).pe (pg_sub (ihE X sc N K.toCxt _ co ho).pe (ihE X sc N K.toCxt _ ck hk).pe (ZaF (by have:=K.toCxt.hu;omega)) (Xc (Zf hk))) (Z7 hc.1) Xj) VC
theorem Zco(ihE:Zm G F n)(K:CxtS X G F sc N){c:CS}{x:Str}{p:Pos}(h:og (Z3 e=false/\YW sc x=true/\fldNames.contains f=true) (o2 (fun i c=>CS.fset i f c) (N.idxOf? x) (cE G n sc N e))=some c):PS X (.Assign [.Attribute (.Name x p) f q] e pos) (tS X.K (ex F c)):=
 Yv h fun hc h=>ZU (P:=fun c=>PS X _ (tS X.K (ex F c))) h fun i ce hi he=>Zt (ps_fld (VV K.toCxt hc.2.1 hi) (ihE X sc N K.toCxt _ ce he).pe (Y1 hc.1)) (JS hc.2.2)
theorem ZeO(ihE:Zm G F n)(K:CxtS X G F sc N){c:CS}(h:(cE G n sc N e).map CS.ret=some c):PS X (.Return (some e) pos) (tS X.K (ex F c)):=
 Wo (P:=fun c=>PS X _ (tS X.K (ex F c))) h fun x q=>Zt (ps_ret (ihE X sc N K.toCxt _ x q).pe) ZbB
theorem ZfU(ihE:Zm G F n)(ihS:ZL G F n)(K:CxtS X G F sc N){c:CS}{a b:Li Stmt}(h:o3 CS.ite (cE G n sc N e) (cSs G n sc N a) (cSs G n sc N b)=some c):PS X (.If e a b pos) (tS X.K (ex F c)):=
 Y8 (P:=fun c=>PS X _ (tS X.K (ex F c))) h fun cc ca cb hc ha hb=>Zt (ps_if (ihE X sc N K.toCxt _ cc hc).pt (ihS X sc N K _ ca ha) (ihS X sc N K _ cb hb)) Zbv
theorem Zci(ihA:Yr G F n)(ihS:ZL G F n)(K:CxtS X G F sc N){c:CS}{x:Str}{b:Li Stmt}{p:Pos}(hr:XM G sc it=some as)(h:o3 CS.for3 (N.idxOf? x) (cEs G n sc N as) (cSs G n sc N b)=some c):PS X (.For (.Name x p) it b [] pos) (tS X.K (ex F c)):=by cases hr
theorem Zcg(ihE:Zm G F n)(ihS:ZL G F n)(K:CxtS X G F sc N){c:CS}{x:Str}{b:Li Stmt}{p:Pos}(h:(match ZO G sc it with
   |some a=>o3 (fun i c b=>CS.for1 i true c b) (N.idxOf? x) (cE G n sc N a) (cSs G n sc N b)
   |none=>o3 (fun i c b=>CS.for1 i false c b) (N.idxOf? x) (cE G n sc N it) (cSs G n sc N b))=some c):PS X (.For (.Name x p) it b [] pos) (tS X.K (ex F c)):=by
 cases ha:ZO G sc it with
 |some a=>
  rw[ha]at h;refine Y8 (P:=fun c=>PS X _ (tS X.K (ex F c))) h fun i ci cb hi q hb=>?_
  obtain⟨hp,pi⟩:=XT K.toCxt ha (Zf q) (ihE X sc N K.toCxt a _ q).pe;exact Zt (ps_for (YZ K) K.calm pi (ZV K hi) (ihS X sc N K _ cb hb) (ZG hp)) JQ
 |none=>
  rw[ha]at h;refine Y8 (P:=fun c=>PS X _ (tS X.K (ex F c))) h fun i ci cb hi q hb=>?_
  have A:=(ihE X sc N K.toCxt _ _ q).pe;have hf:=ZG (env:=X.env) (Zf q);exact Zt (ZcV (ps_for (YZ K) K.calm (pi_tup A) (ZV K hi) (ihS X sc N K _ cb hb) hf) (ps_for (YZ K) K.calm (pi_list A) (ZV K hi) (ihS X sc N K _ cb hb) hf)) JO
theorem YV{s:sH7}{wr:Li Ad}(I:L2.Inv X pQ σ H s)(hf:∀ b∈wr,FpOk X pQ H b)(k:∀ b o,b∉wr->s.heap.get? b=some o->h'.get? b=some o):L2.Inv X pQ σ H { s with heap:=h',toks:=t' }:=by
 have nw:∀ b u,H b=some u->b∉wr:=fun b u e hb=>by have:=(hf b hb).1;rw[e]at this;cases this
 refine I.step (g':=s.gens) (d':=s.drawn) (ch:=wr) (fun b hb=>⟨(hf b hb).2.2.2.1,(hf b hb).2.1,(hf b hb).2.2.2.2.1,(hf b hb).2.2.2.2.2⟩) (fun b o _ _ hc e _=>k b o hc e) (fun b o _ _ hc e _=>⟨o.slots,k b o hc e⟩)
  (fun b o _ e n=>n) (fun b o hc e=>⟨o,k b o hc e⟩) (fun b ys e=>e) (fun b o u e=>e) (fun b ps e=>⟨#[],by rw[e];simp⟩) (fun m hm=>?_) (fun b u e=>?_) I.bare
 ·obtain⟨o,es,ep,ho,r⟩:=hm
  exact⟨o,es,ep,k _ o (fun z=>(hf _ z).2.1 rfl) ho,r⟩
 ·refine(I.hok b u e).stay (fun c v hc q=>k c v ?_ q) (fun c q=>q) fun c ys q=>q
  rcases hc with z|z
  ·rw[z];exact nw b u e
  ·exact nw c _ z
theorem Yu{s:sH7}{wr:Li Ad}{T:Ad}{xs:Li V}(I:L2.Inv X pQ σ H s)(hf:∀ b∈wr,FpOk X pQ H b)(k:∀ b o,b∉wr->s.heap.get? b=some o->h'.get? b=some o)(hT:s.heap.objs.size<=T)(new:ObjOk X.prog X.w (upd H T (.tup xs)) h' T (.tup xs)):L2.Inv X pQ σ (upd H T (.tup xs)) { s with heap:=h',toks:=t' }:=by
 have hn:H T=none:=I.hok.fresh hT;have nT:∀ b u,s.heap.get? b=some u->b≠T:=fun b u e=>aX (aS (aK e) hT)
 have nw:∀ b u,H b=some u->b∉wr:=fun b u e hb=>by have:=(hf b hb).1;rw[e]at this;cases this
 refine I.step (g':=s.gens) (d':=s.drawn) (ch:=wr) (fun b hb=>⟨(hf b hb).2.2.2.1,(hf b hb).2.1,(hf b hb).2.2.2.2.1,(hf b hb).2.2.2.2.2⟩) (fun b o _ _ hc e _=>k b o hc e) (fun b o _ _ hc e _=>⟨o.slots,k b o hc e⟩)
  (fun b o _ e n=>by rw[upd_ne (nT b o e)];exact n) (fun b o hc e=>⟨o,k b o hc e⟩) (fun b ys e=>by rw[upd_ne (ne_of_none e hn)];exact e) (fun b o u e=>by rw[upd_ne (ne_of_none e hn)];exact e) (fun b ps e=>⟨#[],by rw[upd_ne (ne_of_none e hn),e];simp⟩) (fun m hm=>?_) (fun b u e=>?_) I.bare
 ·obtain⟨o,es,ep,ho,r⟩:=hm
  exact⟨o,es,ep,k _ o (fun z=>(hf _ z).2.1 rfl) ho,r⟩
 ·by_cases hb:b=T
  ·subst hb;rw[upd_same]at e;cases e;exact new
  ·rw[upd_ne hb]at e
   refine(I.hok b u e).stay (fun c v hc q=>k c v ?_ q) (fun c q=>by rw[upd_ne (ne_of_none q hn)];exact q) fun c ys q=>by rw[upd_ne (ne_of_none q hn)];exact q
   rcases hc with z|z
   ·rw[z];exact nw b u e
   ·exact nw c _ z
theorem Vd{s:sH7}{a:Ad}{xs:Li V}(I:L2.Inv X pQ σ H s)(h1:SqL X.K H a xs)(h2:SqL X.K H a ys):ys=xs:=by
 obtain⟨i1,r1,⟨o1,n1,g1,_,_,d1⟩,_⟩:=I.list h1;obtain⟨i2,r2,⟨o2,n2,g2,_,_,d2⟩,_⟩:=I.list h2;rw[g1]at g2;cases g2;rw[d1]at d2;have e:i1.toArray=i2.toArray:=by injection d2
 have e:i1=i2:=by simpa using e
 subst e;exact Vals.inj r2 r1
theorem XL{a b:String}{p:Prop}(h:Value.type a=Value.type b)(n:¬a=b):p:=by
 injection h with h
 exact absurd h n
structure ZD(z TI TO i1 i2:Addr):Prop where
 a:TI≠z
 b:TO≠z
 c:i1≠z
 d:i2≠z
 e:TI≠TO
 f:TI≠i1
 g:TI≠i2
 h:TO≠i1
 i:TO≠i2
 j:i1≠i2
structure ZSt(z TI TO i1 i2 a b:Addr)(i:Nat)(h:Heap):Prop where
 hz:IsZip h z TI TO .none
 hI:IsPair h TI (.ref i1) (.ref i2)
 hO:∃ u v,IsPair h TO u v
 h1:h.IsListIter i1 a i
 h2:h.IsListIter i2 b i
theorem Yp{z TI TO a b l c:Ad}{its:Array vL}(st:ZSt z TI TO i1 i2 a b i h)(hl:h.IsList l its)(hc:c∈[z,TO,i1,i2]):l≠c:=by
 rintro rfl
 obtain⟨o,g,cl,_⟩:=hl;simp only[aG,aT,or_false]at hc;rcases hc with rfl|rfl|rfl|rfl
 ·have hz:h.get? l=some _:=st.hz
  rw[g]at hz;cases hz;exact XL cl (by decide)
 ·obtain⟨u,v,hO⟩:=st.hO
  have hO:h.get? l=some _:=hO;rw[g]at hO;cases hO;exact XL cl (by decide)
 ·obtain⟨o1,g1,c1,_⟩:=st.h1
  rw[g]at g1;cases g1;rw[cl]at c1;exact XL c1 (by decide)
 ·obtain⟨o1,g1,c1,_⟩:=st.h2
  rw[g]at g1;cases g1;rw[cl]at c1;exact XL c1 (by decide)
theorem WM{z TI TO a b:Ad}{its its':Array vL}(d:ZD z TI TO i1 i2)(st:ZSt z TI TO i1 i2 a b i h)(p1:h.IsList a its)(p2:h.IsList b its'):ZipApart z TI TO i1 i2 a b:=
 have m:z∈[z,TO,i1,i2]/\TO∈[z,TO,i1,i2]/\i1∈[z,TO,i1,i2]/\i2∈[z,TO,i1,i2]:=⟨.head _,.tail _ (.head _),.tail _ (.tail _ (.head _)),.tail _ (.tail _ (.tail _ (.head _)))⟩
 ⟨d.a,d.b,d.c,d.d,d.e,d.f,d.g,d.h,d.i,d.j,Yp st p1 m.1,Yp st p1 m.2.1,Yp st p1 m.2.2.1,Yp st p1 m.2.2.2,Yp st p2 m.1,Yp st p2 m.2.1,Yp st p2 m.2.2.1,Yp st p2 m.2.2.2⟩
theorem Qn{z TI TO c:Ad}(h:c∈[z,TO,i1,i2]):c∈[z,TI,TO,i1,i2]:=by
 rcases aG.mp h with rfl|h
 ·exact .head _
 ·exact .tail _ (.tail _ h)
theorem Qo{z TI TO a b c:Ad}(st:ZSt z TI TO i1 i2 a b i h)(hc:c∈[z,TI,TO,i1,i2]):∃ o,h.get? c=some o/\∀ v,o.data≠.cell v:=by
 obtain⟨hz,hI,⟨u,v,hO⟩,⟨o1,g1,_,f1⟩,⟨o2,g2,_,f2⟩⟩:=st;simp only[aG,aT,or_false]at hc;rcases hc with rfl|rfl|rfl|rfl|rfl
 ·exact⟨_,hz,fun v q=>by cases (show Data.fields _=Data.cell v from q)⟩
 ·exact⟨_,hI,fun v q=>by cases (show Data.seq _ _=Data.cell v from q)⟩
 ·exact⟨_,hO,fun v q=>by cases (show Data.seq _ _=Data.cell v from q)⟩
 ·exact⟨_,g1,fun v q=>by rw[f1]at q;cases q⟩
 ·exact⟨_,g2,fun v q=>by rw[f2]at q;cases q⟩
theorem Zav{xs:Li V}{its:Li vL}{x:V}(r:Vals xs its)(ex:xs[i]?=some x)(eu:its.toArray[i]?=some u):RelV x u:=by
 obtain⟨u',e1,e2⟩:=r.get ex;rw[eD,e1]at eu;cases eu;exact e2
theorem ZaT{z TI TO a b:Ad}(d:ZD z TI TO i1 i2)(hc:X.calm=true){s:sH7}(I:L2.Inv X pQ σ H s)(hf:∀ c∈[z,TI,TO,i1,i2],FpOk X pQ H c)(st:ZSt z TI TO i1 i2 a b i s.heap)(hg:(Itz X.K a b).go i H) :
  wpAny (model X.prog X.w) X.A (pyNext (.ref z)) (fun r s1=>∃ u,r=some u/\wpAny (model X.prog X.w) X.A (letOwnedTupleGo (.Tuple elts kk pos) (.ref z) u) (fun _ s2=>∃ x H',L2.Inv X pQ σ H' s2/\RelV x u/\(Itz X.K a b).yld i H x H'/\ZSt z TI TO i1 i2 a b (i+1) s2.heap/\∀ c∈[z,TI,TO,i1,i2],H' c=none) E s1) E s:=by
 obtain⟨xs,ys,x,y,sq1,sq2,ex,ey⟩:=hg;obtain⟨its1,r1,p1,_⟩:=I.list sq1;obtain⟨its2,r2,p2,_⟩:=I.list sq2;have W:=WalksT.zip2 (prog:=X.prog) (w:=X.w) (A:=X.A) (I.ok.hd hc) z TI TO i1 i2 a b (WM d st p1.isList p2.isList) its1.toArray its2.toArray;have l1:=r1.length;have l2:=r2.length;have ix:i < xs.length:=(bE.mp ex).1;have iy:i < ys.length:=(bE.mp ey).1
 refine W.item i s _ _ (by rw[aJ,aJ];omega) ⟨st.hz,st.hI,st.hO,st.h1,st.h2,p1.isList,p2.isList⟩ fun T vals h' tk hv hT tup mid k1=>?_
 obtain⟨u,v,eu,ev,rfl⟩:=hv;refine⟨.ref T,rfl,W.go elts kk pos i T _ _ _ mid fun h2' st2 k2=>?_⟩
 have I2:L2.Inv X pQ σ (upd H T (.tup [x,y])) { s with heap:=h2',toks:=tk }:=Yu (wr:=[z,TO,i1,i2]) I (fun c hcm=>hf c (Qn hcm)) (fun c o hcn e=>k2 c o hcn (k1 c o hcn e)) hT ⟨show 2<=sizeLine by decide,[u,v],.cons (Zav r1 ex eu) (.cons (Zav r2 ey ev) .nil),tup.at fun o e=>k2 T o (W.apart i T h' mid) e⟩
 refine⟨.ref T,upd H T (.tup [x,y]),I2,rfl,⟨T,x,y,rfl,I.hok.fresh hT,rfl,fun xs' q=>by rw[Vd I sq1 q];exact ex,fun ys' q=>by rw[Vd I sq2 q];exact ey⟩,⟨st2.1,st2.2.1,st2.2.2.1,st2.2.2.2.1,st2.2.2.2.2.1⟩,fun c hcm=>?_⟩
 obtain⟨o,e,_⟩:=Qo st hcm;rw[upd_ne fun q=>absurd (aK e) (Nat.not_lt.mpr (by rw[q];exact hT))]
 exact(hf c hcm).1
theorem ZaS{z TI TO a b:Ad}(d:ZD z TI TO i1 i2)(hc:X.calm=true){s:sH7}(I:L2.Inv X pQ σ H s)(hf:∀ c∈[z,TI,TO,i1,i2],FpOk X pQ H c)(st:ZSt z TI TO i1 i2 a b i s.heap)(hg:(Itz X.K a b).stop i H) :
  wpAny (model X.prog X.w) X.A (pyNext (.ref z)) (fun r s1=>r=none/\L2.Inv X pQ σ H s1) E s:=by
 obtain⟨xs,ys,sq1,sq2,hle⟩:=hg;obtain⟨its1,r1,p1,_⟩:=I.list sq1;obtain⟨its2,r2,p2,_⟩:=I.list sq2;obtain⟨u,v,hO⟩:=st.hO;have l1:=r1.length;have l2:=r2.length;have hend:its1.toArray[i]?=none\/its2.toArray[i]?=none:=by
  rw[eD,eD,cU,cU];omega
 refine wpAny_pyNext_zip_end (I.ok.hd hc) (WM d st p1.isList p2.isList) st.hz st.hI hO st.h1 st.h2 p1.isList p2.isList hend fun h' k=>⟨rfl,YV (wr:=[z,TO,i1,i2]) I (fun c hcm=>hf c (Qn hcm)) fun c o hcn e=>?_⟩
 exact k c o (fun q=>hcn (by rw[q];exact .head _)) (fun q=>hcn (by rw[q];exact .tail _ (.head _))) (fun q=>hcn (by rw[q];exact .tail _ (.tail _ (.head _)))) (fun q=>hcn (by rw[q];exact .tail _ (.tail _ (.tail _ (.head _))))) e
theorem ZaN{P:Program}{K:fG7}(z TI TO i1 i2 a b:Ad)(d:ZD z TI TO i1 i2):Turn P w K (.Tuple elts kk pos) (Itz K a b) [z,TI,TO,i1,i2] z (ZSt z TI TO i1 i2 a b) where
 mem:=.head _
 obj:=fun i h st c hc=>Qo st hc
 keep:=fun i h h' st k=>by
  obtain⟨hz,hI,⟨u,v,hO⟩,h1,h2⟩:=st;exact⟨k z (.head _) _ hz,k TI (.tail _ (.head _)) _ hI,⟨u,v,k TO (.tail _ (.tail _ (.head _))) _ hO⟩,h1.at fun o e=>k i1 (.tail _ (.tail _ (.tail _ (.head _)))) o e,h2.at fun o e=>k i2 (.tail _ (.tail _ (.tail _ (.tail _ (.head _))))) o e⟩
 item:=fun X hP hw hK hc i pQ s σ H E I hf st hg=>by
  subst hP hw hK;exact ZaT d hc I hf st hg
 done:=fun X hP hw hK hc i pQ s σ H E I hf st hg=>by
  subst hP hw hK;exact ZaS d hc I hf st hg
 self:=fun _ _ _ _ _ st h=>wpAny_pyIter_zip st.hz h
theorem Zdu:bootBuiltins "zip"=some (.type "zip"):=by decide +kernel
theorem Zd8{x y:Expr}{ta:TA}{p:Pos}(hg:Gl X "zip")(hm:X.mg "zip"=none)(ha:PA X [x,y] ta)(hp:[x,y].all Zi=true):PI X (.Tuple elts kk tp) (.Call (.Name "zip" p) [x,y] [] pos) (Zfw X.K ta):=by
 intro pQ s σ H R I h;rw[bC,bC,bA7,bA7]at hp;have hs2:starEach [y] X.env=[(false,eval y X.env)]:=Zg hp.2.1;have hs:starEach [x,y] X.env=[(false,eval x X.env),(false,eval y X.env)]:=by rw[Zg hp.1,hs2]
 refine Call_ (ld_blt I hg hm Zdu (PyProof.Rows.callWith_type1 (thn (ha pos pQ s σ H _ I h) fun us s1 ⟨vs,H1,I1,r1,q1⟩=>?_) (by rw[hs,hs2]) (by rw[hs2];rfl)))
 obtain⟨a,b,rfl,⟨xs,sq1⟩,⟨ys,sq2⟩,q⟩:=q1;cases r1 with
 |cons r rr=>
  cases rr with
  |cons r' rr=>
   cases rr;cases r;cases r';obtain⟨its1,_,p1,_⟩:=I1.list sq1;obtain⟨its2,_,p2,_⟩:=I1.list sq2;have ne:∀ {i j:Nat},i≠j->(s1.heap.objs.size+i:Nat)≠s1.heap.objs.size+j:=fun h z=>h (Nat.add_left_cancel z)
   refine call_zip_2 p1.isList p2.isList fun h' hz hI hO h1 h2 hsz k=>wpAny_pyIter_zip hz ?_
   refine⟨s1.heap.objs.size+4,[s1.heap.objs.size+4,s1.heap.objs.size+2,s1.heap.objs.size+3,s1.heap.objs.size,s1.heap.objs.size+1],_,_,H1,rfl,I1.kept (t':=s1.toks) k,ZaN _ _ _ _ _ a b ⟨ne (i:=2) (j:=4) (by decide),ne (i:=3) (j:=4) (by decide),ne (i:=0) (j:=4) (by decide),ne (i:=1) (j:=4) (by decide),ne (i:=2) (j:=3) (by decide),ne (i:=2) (j:=0) (by decide),ne (i:=2) (j:=1) (by decide),ne (i:=3) (j:=0) (by decide),ne (i:=3) (j:=1) (by decide),ne (i:=0) (j:=1) (by decide)⟩,⟨hz,hI,⟨_,_,hO⟩,h1,h2⟩,fun c hcm=>?_,q⟩
   have hc:s1.heap.objs.size<=c:=by
    simp only[aG,aT,or_false]at hcm;rcases hcm with rfl|rfl|rfl|rfl|rfl
    ·exact dL _ _
    ·exact dL _ _
    ·exact dL _ _
    ·exact aD _
    ·exact dL _ _
   exact I1.fpOk hc (I1.hok.fresh hc)
section
variable {prog:Program}{w:World}{A:Around}{E:vL->sH7->Prop}{s:sH7}
open Sem (wp)
open AutoSeq1 (wpAny_loadPart')
theorem VP{it l:Ad}{Q:vL->sH7->Prop}(hh:A.handled=none)(hit:s.heap.IsTupleIter it l i)(hl:s.heap.IsTuple l items)(hQ:∀ x h',items[i]?=some x->h'.IsTupleIter it l (i+1)->Heap.SameBut it s.heap h'->Q x { s with heap:=h' })(hE:items[i]?=none->∀ h' e,Heap.ExtBut it s.heap h'->(∃ o,h'.get? e=some o/\o.cls=.type "StopIteration")->E (.ref e) { s with heap:=h' }) :
  wpAny (model prog w) A (Builtin.SmallTypes.nextOf (.ref it)) Q E s:=by
 obtain⟨o,ho,hc,hd⟩:=id hit;obtain⟨ol,hol,_,nl,hdl⟩:=hl;unfold Builtin.SmallTypes.nextOf;refine aA (wpAny_callSpecial?_slot (name:=Str.ofString "__next__") hit.typeIs PySem.F.slot_tuple_iterator_next
  (wpAny_call_entry PySem.F.slot_tuple_iterator_next hit.typeIs PySem.F.entry_tuple_iterator_next ?_ (PySem.F.args_tuple_iterator_next_1 _)))
 show wpAny _ _ (field (.ref it) 0 >>= _) _ _ s;refine aA (wpAny_field ho hd (x:=.ref l) rfl ?_);show wpAny _ _ (if (Value.ref l==Value.none)=true then _ else _) _ _ s
 rw[if_neg (show ¬((Value.ref l==Value.none)=true) from bF7)];show wpAny _ _ (field (.ref it) 1 >>= _) _ _ s;refine aA (wpAny_field ho hd (x:=.int i 0) rfl ?_);show wpAny _ _ (seqItems? (.ref l) >>= _) _ _ s;refine aA (wpAny_seqItems hol hdl ?_);cases hx:items[i]? with
 |some x=>
  simp only[aZ,hx];refine aA (wpAny_setField ho hd (by simp) (aF ⟨x,rfl,aF (hQ _ _ hx ?_ (Heap.SameBut.update ..))⟩))
  exact⟨_,Heap.get?_update_self _ ho (Obj.isFreed_of_fields (Obj.data_mapFields hd _)),(Obj.cls_mapFields ..).trans hc,by
   rw[Obj.data_mapFields hd];simp[rawInt]⟩
 |none=>
  simp only[aZ,hx];refine aA (wpAny_rule (aA (wpAny_setField ho hd (by simp) ?_)))
  show wpAny _ _ (newExc (.type "StopIteration") [] >>= _) _ _ _;refine aA ?_;simp only[newExc,newTuple];refine aA (wpAny_newObj_type ?_ (by size_fits))
  refine aA (m:=firstArgMember _ _) (wpAny_of_eq (a:=Value.none) (by first|rfl | (simp only[firstArgMember];rfl)) ?_)
  refine wpAny_newObj_type ?_ (by size_fits)
  simp only[raiseNew];refine aA (wpAny_handled ?_)
  first|rw[show A.in1.handled=none from hh]|rw[hh]
  refine aA (aF (wpAny_throw ?_));exact hE hx _ _ (((Heap.SameBut.update ..).extBut.push _).push _) ⟨_,bA _ rfl,rfl⟩
theorem QH(hh:A.handled=none)(it l:Ad)(hne:l≠it)(items:Array vL) :
  Draws prog w A it [it,l] items.size (fun i v=>items[i]?=some v) (fun i h=>h.IsTupleIter it l i/\h.IsTuple l items) where
 live:=fun _ _ st=>let ⟨o,ho,_⟩:=st.1;⟨o,ho⟩
 frame:=fun _ _ _ st hk=>⟨st.1.at fun o e=>hk it (by simp) o e,st.2.at fun o e=>hk l (by simp) o e⟩
 item:=fun i s Q E hi st hQ=>VP hh st.1 st.2 (fun x h' e hit' hs'=>hQ x h' s.toks e ⟨hit',st.2.extBut hs'.extBut hne⟩ hs') fun e=>absurd e (by simp[hi])
 done:=fun s Q E st hE=>VP hh st.1 st.2 (fun x h' e=>absurd e (by simp)) fun _=>hE
theorem Wm(l:Ad)(items:Array vL)(n:Nat)(dct:Ot Ad)(sl:Array (Ot vL)) :
  Meets (Builtin.«enumerate.__new__» ⟨[.type "enumerate",.ref l],[]⟩) (fun _ R s=>s.heap.get? l=some { cls:=.type "tuple",dict:=dct,data:=.seq items n,slots:=sl } /\
   R (.ok (.ret (.ref (s.heap.push { cls:=.type "tuple_iterator",data:=.fields #[.ref l,.int 0 0] }).objs.size)))
    { s with heap:=(s.heap.push { cls:=.type "tuple_iterator",data:=.fields #[.ref l,.int 0 0] }).push { cls:=.type "enumerate",data:=.fields #[.none,.bool false,.ref s.heap.objs.size,rawInt 0,.none,.none] } }):=
 .of_wp fun prog w A R s h=>by
  obtain⟨hp,g,d,tk,os⟩:=s;obtain⟨hl,h⟩:=h;have hsub:=sub_enumerate;have hL:Heap.IsTuple (Shared.heap ⟨hp,g,d,tk,os⟩) l items:=⟨_,hl,rfl,n,rfl⟩
  wp_walk using wpAny_loadPart' hl
  refine wpAny_stack_any fun st=>aF ?_
  split
  ·rename_i c _ _ _ _ _
   cases (c==Value.type "enumerate")
   ·wp_walk using wpAny_loadPart' hl,wpAny_pyIter_tuple hL
    exact⟨_,rfl,h⟩
   ·wp_walk using wpAny_loadPart' hl,wpAny_pyIter_tuple hL
    exact⟨_,rfl,h⟩
  ·wp_walk using wpAny_loadPart' hl,wpAny_pyIter_tuple hL
   exact⟨_,rfl,h⟩
theorem Wv{l:Ad}{Q:vL->sH7->Prop}(hL:s.heap.IsTuple l items)(h:∀ h',IsEnum h' (s.heap.objs.size+1) s.heap.objs.size 0 .none->h'.IsTupleIter s.heap.objs.size l 0->h'.objs.size=s.heap.objs.size+2->
   (∀ b o,s.heap.get? b=some o->h'.get? b=some o)->Q (.ref (s.heap.objs.size+1)) { s with heap:=h' }) :
  wpAny (model prog w) A (call (.type "enumerate") [.ref l]) Q E s:=by
 obtain⟨⟨c,dct,dt,sl⟩,hl,hc,n,hd⟩:=hL;replace hc:c=.type "tuple":=hc;replace hd:dt=.seq items n:=hd;subst hc hd;refine callType_new PySem.F.called_enumerate (by decide) (PySem.F.typeCall_enumerate_1 _) (PySem.F.newCall_enumerate_1 _) (fun obj=>PySem.F.args_object_init_2 obj _) PySem.F.entry_enumerate_new
  (Wm l items n dct sl) ⟨hl,?_⟩
 have hz:(s.heap.push { cls:=.type "tuple_iterator",data:=.fields #[.ref l,.int 0 0] }).objs.size=s.heap.objs.size+1:=Heap.size_push ..;show _/\_;rw[hz];have he:IsEnum ((s.heap.push { cls:=.type "tuple_iterator",data:=.fields #[.ref l,.int 0 0] }).push
   { cls:=.type "enumerate",data:=.fields #[.none,.bool false,.ref s.heap.objs.size,rawInt 0,.none,.none] }) (s.heap.objs.size+1) s.heap.objs.size 0 .none:=by
  have:=bA (s.heap.push { cls:=.type "tuple_iterator",data:=.fields #[.ref l,.int 0 0] })
   (o:={ cls:=.type "enumerate",data:=.fields #[.none,.bool false,.ref s.heap.objs.size,rawInt 0,.none,.none] }) rfl
  rw[hz]at this;exact this
 refine⟨⟨_,he,rfl⟩,h _ he ⟨_,aQ _ (bA _ rfl),rfl,rfl⟩ (by rw[Heap.size_push,hz]) fun b o x=>aQ _ (aQ _ x)⟩
end
noncomputable def Ite(sq:Hp->Li V->Prop):It:=
 ⟨fun i H=>∃ xs x,sq H xs/\xs[i]?=some x,fun i H v H'=>∃ T x,v=.ref T/\H T=none/\H'=upd H T (.tup [.int (i:Int),x])/\∀ xs,sq H xs->xs[i]?=some x,fun i H=>∃ xs,sq H xs/\xs.length=i⟩
noncomputable def UX(K:fG7)(ta:TA):TI:=fun σ H R=>ta σ H fun vs H1=>∃ a,vs=[.ref a]/\(((∃ xs,SqL K H1 a xs)/\R (Ite fun H=>SqL K H a) H1)\/((∃ xs,SqT K H1 a xs)/\R (Ite fun H=>SqT K H a) H1))
theorem WJ{P:Program}{K:fG7}{sq:Hp->Li V->Prop}{it1:Nat->Heap->Prop}(e it a:Ad)(d:e≠it)(hi:∀ i h,it1 i h->∃ o,h.get? it=some o/\∀ v,o.data≠.cell v)(hk:∀ i h h',it1 i h->(∀ o,h.get? it=some o->h'.get? it=some o)->it1 i h')(hD:∀ (X:Cx),X.prog=P->X.w=w->X.K=K->X.calm=true->∀ (pQ:Li (Ad×Obj)) (s:sH7) (σ:L2.St) (H:Hp) (i:Nat) (xs:Li V),L2.Inv X pQ σ H s->(∃ old,IsEnum s.heap e it i old)->it1 i s.heap->sq H xs->
   (∀ ys,sq H ys->ys=xs)/\∃ (its:Li vL) (ob:Heap->Prop),Vals xs its/\a≠e/\ob s.heap/\Draws P w X.A.in1 it [it,a] its.toArray.size (fun i v=>its.toArray[i]?=some v) (fun i h=>it1 i h/\ob h)) :
  Turn P w K (.Tuple elts kk pos) (Ite sq) [e,it] e (fun i h=>(∃ old,IsEnum h e it i old)/\it1 i h) where
 mem:=by simp
 obj:=fun i h st c hc=>by
  obtain⟨⟨old,he⟩,h1⟩:=st;simp only[aG,aT,or_false]at hc;rcases hc with rfl|rfl
  ·exact⟨_,he,fun v q=>by cases (show Data.fields _=Data.cell v from q)⟩
  ·exact hi i h h1
 keep:=fun i h h' st k=>by
  obtain⟨⟨old,he⟩,h1⟩:=st;exact⟨⟨old,k e (by simp) _ he⟩,hk i h h' h1 fun o g=>k it (by simp) o g⟩
 item:=by
  intro X hP hw hK hc i pQ s σ H E I hf st hg;obtain⟨xs,x,hs,ex⟩:=hg;obtain⟨hone,its,ob,r,ne,o0,D⟩:=hD X hP hw hK hc pQ s σ H i xs I st.1 st.2 hs;subst hP hw hK;have W:=WalksT.enumerateD D e d (by simp only[aG,aT,or_false];exact fun q=>q.elim d fun q=>ne q.symm) (by simp)
  have l1:=r.length;have ix:i < xs.length:=(bE.mp ex).1;refine W.item i s _ _ (by simp;omega) ⟨st.1,st.2,o0⟩ fun T vals h' tk hv hT tup mid k1=>?_
  obtain⟨t,u,eu,rfl⟩:=hv;refine⟨.ref T,rfl,W.go elts kk pos i T _ _ _ mid fun h2' st2 k2=>?_⟩
  have nT:=W.apart i T h' mid;have ru:RelV x u:=by
   obtain⟨u',e1,e2⟩:=r.get ex;have:its[i]?=some u:=by simpa using eu
   rw[this]at e1;cases e1;exact e2
  have tup2:h2'.IsTuple T #[.int i t,u]:=tup.at fun o g=>k2 T o nT g
  have I2:L2.Inv X pQ σ (upd H T (.tup [.int (i:Int),x])) { s with heap:=h2',toks:=tk }:=Yu (wr:=[e,it]) I hf (fun c o hcn g=>k2 c o hcn (k1 c o hcn g)) hT ⟨show 2<=sizeLine by decide,[.int i t,u],.cons ⟨t,rfl⟩ (.cons ru .nil),tup2⟩
  refine⟨.ref T,_,I2,rfl,⟨T,x,rfl,I.hok.fresh hT,rfl,fun xs' q=>by rw[hone _ q];exact ex⟩,⟨st2.1,st2.2.1⟩,fun c hcm=>?_⟩
  have:c≠T:=fun q=>by
   have lt:∀ {o},s.heap.get? c=some o->False:=fun g=>absurd (aK g) (Nat.not_lt.mpr (by rw[q];exact hT))
   obtain⟨⟨_,he⟩,h1⟩:=st;obtain⟨_,g,_⟩:=hi _ _ h1;simp only[aG,aT,or_false]at hcm;rcases hcm with rfl|rfl
   ·exact lt he
   ·exact lt g
  rw[upd_ne this];exact(hf c hcm).1
 done:=by
  intro X hP hw hK hc i pQ s σ H E I hf st hg;obtain⟨xs,hs,hle⟩:=hg;obtain⟨hone,its,ob,r,ne,o0,D⟩:=hD X hP hw hK hc pQ s σ H i xs I st.1 st.2 hs;subst hP hw hK;have W:=WalksT.enumerateD D e d (by simp only[aG,aT,or_false];exact fun q=>q.elim d fun q=>ne q.symm) (by simp)
  have l1:=r.length;have e1:i=its.toArray.size:=by simp;omega
  subst e1;exact W.done s _ _ ⟨st.1,st.2,o0⟩ fun h' tk k=>⟨rfl,YV (wr:=[e,it]) I hf k⟩
 self:=fun _ _ _ _ _ st h=>let ⟨⟨_,he⟩,_⟩:=st;wpAny_pyIter_enum he h
theorem VQ{e it:Ad}{i:Int}{old:vL}{a:Ad}{o:Obj}{n:String}(he:IsEnum h e it i old)(g:h.get? a=some o)(c:o.cls=.type n)(hn:¬n = "enumerate"):a≠e:=fun q=>by
 subst q;have he:h.get? a=some _:=he;rw[g]at he;cases he;exact XL c fun z=>hn z.symm
theorem VR{a b:Ad}{o u:Obj}{n m:String}(g:h.get? a=some o)(c:o.cls=.type n)(g2:h.get? b=some u)(c2:u.cls=.type m)(hn:¬n=m):a≠b:=fun q=>by
 subst q;rw[g]at g2;cases g2;rw[c]at c2;exact XL c2 hn
theorem Zba:bootBuiltins "enumerate"=some (.type "enumerate"):=by decide +kernel
theorem ZbV{x:Expr}{ta:TA}{p:Pos}(hg:Gl X "enumerate")(hm:X.mg "enumerate"=none)(ha:PA X [x] ta)(hs:starEach [x] X.env=[(false,eval x X.env)]):PI X (.Tuple elts kk tp) (.Call (.Name "enumerate" p) [x] [] pos) (UX X.K ta):=by
 intro pQ s σ H R I h;refine Call_ (ld_blt I hg hm Zba (PyProof.Rows.callWith_type1 (thn (ha pos pQ s σ H _ I h) fun us s1 ⟨vs,H1,I1,r1,q1⟩=>?_) hs rfl))
 obtain⟨a,rfl,q⟩:=q1;have fo:∀ c∈[s1.heap.objs.size+1,s1.heap.objs.size],FpOk X pQ H1 c:=fun c hcm=>by
  have hc:s1.heap.objs.size<=c:=by
   simp only[aG,aT,or_false]at hcm;rcases hcm with rfl|rfl
   ·exact dL _ _
   ·exact aD _
  exact I1.fpOk hc (I1.hok.fresh hc)
 cases r1 with
 |cons r rr=>
  cases rr;cases r;rcases q with⟨⟨xs,sq⟩,q⟩|⟨⟨xs,sq⟩,q⟩
  ·obtain⟨its,_,p1,_⟩:=I1.list sq
   refine call_enumerate_list p1.isList fun h' he h1 hsz k=>wpAny_pyIter_enum he ?_
   refine⟨s1.heap.objs.size+1,[s1.heap.objs.size+1,s1.heap.objs.size],_,_,H1,rfl,I1.kept (t':=s1.toks) k,WJ (it1:=fun i h=>h.IsListIter _ a i) _ _ a (Nat.succ_ne_self _) (fun i h st=>?_) (fun i h h' st k=>st.at k) (fun X hP hw hK hc pQ s σ H i xs I he h1 sq=>?_),⟨⟨_,he⟩,h1⟩,fo,q⟩
   ·obtain⟨o,g,_,f⟩:=st
    exact⟨o,g,fun v q=>by rw[f]at q;cases q⟩
   ·rw[<-hP,<-hw]
    rw[<-hK]at sq ⊢;obtain⟨its,r,p,_⟩:=I.list sq;obtain⟨⟨_,he⟩,⟨o2,g2,c2,_⟩⟩:=And.intro he h1;obtain⟨o,g,c,_⟩:=p.isList;exact⟨fun ys hy=>Vd I sq hy,its,fun h=>h.IsList a its.toArray,r,VQ he g c (by decide),p.isList,Draws.list (show X.A.in1.handled=none from I.ok.hd hc) _ a (VR g c g2 c2 (by decide)) its.toArray⟩
  ·obtain⟨its,_,p1,_⟩:=I1.tuple sq
   refine Wv (show s1.heap.IsTuple a its.toArray from p1) fun h' he h1 hsz k=>wpAny_pyIter_enum he ?_
   refine⟨s1.heap.objs.size+1,[s1.heap.objs.size+1,s1.heap.objs.size],_,_,H1,rfl,I1.kept (t':=s1.toks) k,WJ (it1:=fun i h=>h.IsTupleIter _ a i) _ _ a (Nat.succ_ne_self _) (fun i h st=>?_) (fun i h h' st k=>st.at k) (fun X hP hw hK hc pQ s σ H i xs I he h1 sq=>?_),⟨⟨_,he⟩,h1⟩,fo,q⟩
   ·obtain⟨o,g,_,f⟩:=st
    exact⟨o,g,fun v q=>by rw[f]at q;cases q⟩
   ·rw[<-hP,<-hw]
    rw[<-hK]at sq ⊢;obtain⟨its,r,p,_⟩:=I.tuple sq;have p:s.heap.IsTuple a its.toArray:=p;obtain⟨⟨_,he⟩,⟨o2,g2,c2,_⟩⟩:=And.intro he h1;obtain⟨o,g,c,_⟩:=id p;exact⟨fun ys hy=>I.tuple_inj hy sq,its,fun h=>h.IsTuple a its.toArray,r,VQ he g c (by decide),p,QH (show X.A.in1.handled=none from I.ok.hd hc) _ a (VR g c g2 c2 (by decide)) its.toArray⟩
theorem WD:∀ {xs:Li D}{k i:Nat}{x:D},xs[i]?=some x->(Wa k xs)[i]?=some (.int ((k+i:Nat):Int),x)
 |[],_,_,_,h=>nomatch h
 |x :: xs,k,0,_,h=>by cases h;rfl
 |x :: xs,k,i+1,y,h=>by
  show(Wa (k+1) xs)[i]?=_;rw[WD (show xs[i]?=some y from h),show k+1+i=k+(i+1) by omega]
theorem XI:∀ {xs:Li D}{k:Nat},(Wa k xs).length=xs.length
 |[],_=>rfl
 |x :: xs,k=>congrArg (·+1) XI
theorem JL{K:fG7}{f:Ex}(E:Ends)(σ:L2.St)(H:Hp)(h:tS K (JA i j fi f) E σ H):tFor (UX K (tCons (tE K fi) tNil)) (gTup K 2 (gCons (gName i) (gCons (gName j) gNil))) (tS K f) E σ H:=by
 obtain⟨ad,ρ,st,r,st',En,S,e,p⟩:=ZF h;unfold JA at e;split at e
 ·rename_i x st1 q1
  split at e
  ·rename_i xs ok hw
   have core:∀ {sq:Hp->Li V->Prop}{ad1:Li Ad}{H1:Hp} (Good:Li Ad->Hp->Prop),(∀ ad H ad' H',Ext ad H ad' H'->Good ad H->Good ad' H')->Good ad1 H1->
     (∀ ad H st,Good ad H->StOk K ad H st->ok st->∃ vs,Dens K ad H vs xs/\sq H vs)->Ext ad H ad1 H1->StOk K ad1 H1 st1->Zfa K f i j (Ite sq) E σ H1:=fun Good gm g1 hv x1 S1=>
    ⟨_,⟨_,.mk (bD _) (En.mono x1) S1 g1 e (p.later x1)⟩,Xg gm (fun ad H st g S o=>by
      obtain⟨vs,rv,sv⟩:=hv ad H st g S o;exact⟨vs,sv,by rw[rv.length,XI]⟩) fun k ad H st q g S o hq=>by
      obtain⟨vs,rv,sv⟩:=hv ad H st g S o;have hk:k < xs.length:=by rw[<-XI (k:=0)];exact(bE.mp hq).1
      have hg:=lG7 hk;rw[WD (k:=0) hg,bD]at hq;cases hq;obtain⟨w,ew,dw⟩:=rv.get hg;exact⟨_,w,⟨vs,w,sv,ew⟩,.int _,dw,fun x H' ⟨pt,y1,e1,e2,e3,hy⟩=>⟨pt,e1,e2,by have z:=hy vs sv;rw[ew]at z;cases z;exact e3⟩⟩⟩
   refine⟨ad,ρ,st,x,st1,En,S,q1,fun v ad1 H1 x1 S1 d1=>?_⟩
   cases x with
   |tup ys=>
    cases hw;obtain⟨a,vs,rfl,ha,rv⟩:=d1.ofTup;exact⟨a,rfl,.inr ⟨⟨vs,ha.sq⟩,core (fun ad H=>TupAt K H a vs/\Dens K ad H vs xs) (fun _ _ _ _ x g=>⟨g.1.mono x,g.2.mono x⟩) ⟨ha,rv⟩ (fun ad H st g _ _=>⟨vs,g.2,g.1.sq⟩) x1 S1⟩⟩
   |lst l=>
    have hw:(match st1[l]? with
     |some c=>some (c.2,fun s=>s[l]?=some c)
     |none=>none)=some (xs,ok):=hw
    cases hc:st1[l]? with
    |none=>rw[hc]at hw;cases hw
    |some c=>
     rw[hc]at hw;cases hw;obtain⟨a,rfl,ha⟩:=d1.ofLst;obtain⟨vs,rv,sq⟩:=S1.list ha (show st1[l]?=some (c.1,c.2) from hc);exact⟨a,rfl,.inl ⟨⟨vs,sq⟩,core (fun ad H=>LA ad H l a) (fun _ _ _ _ x g=>g.mono x) ha (fun ad H st g S e=>S.list g (show st[l]?=some (c.1,c.2) from e)) x1 S1⟩⟩
   |_=>exact Zb hw
  ·exact Zb e
 ·exact Zb e
theorem X9{x:CE}(K:Cxt X G F sc N)(h:Y3 G sc it=some a)(hp:Zi a=true)(A:PE X a (tE X.K (ev F x))):Zi it=true/\PI X (.Tuple elts kk tp) it (UX X.K (tCons (tE X.K (ev F x)) tNil)):=by
 obtain⟨as,h1,h2⟩:=dJ.mp h;rw[Qa h2]at h1;obtain⟨_,_,rfl,hg,hm⟩:=Uj K h1;exact⟨rfl,ZbV hg hm (pa1 hp A) (Zg hp)⟩
theorem WA(K:Cxt X G F sc N)(h:Xz G sc it=some as):∃ p pos a b,it=.Call (.Name "zip" p) [a,b] [] pos/\as=[a,b]/\Gl X "zip"/\X.mg "zip"=none:=by
 obtain⟨bs,h1,h2⟩:=dJ.mp h;obtain⟨p,pos,rfl,hg,hm⟩:=Uj K h1;refine Yv h2 fun hl h3=>?_
 cases h3;cases as with
 |nil=>cases hl
 |cons a as=>cases as with
  |nil=>cases hl
  |cons b as=>cases as with
   |nil=>exact⟨p,pos,_,_,rfl,rfl,hg,hm⟩
   |cons _ _=>cases hl
theorem ZaB(ihE:Zm G F n)(ihS:ZL G F n)(K:CxtS X G F sc N){c:CS}{b:Li Stmt}(h:o2 CS.whl (cE G n sc N e) (cSs G n sc N b)=some c):PS X (.While e b [] pos) (tS X.K (ex F c)):=
 ZU (P:=fun c=>PS X _ (tS X.K (ex F c))) h fun cc cb hc hb=>Zt (ps_while (YZ K) (ihE X sc N K.toCxt _ cc hc).pt (ihS X sc N K _ cb hb)) QR
theorem Zcn(ihA:Yr G F n)(ihS:ZL G F n)(K:CxtS X G F sc N){c:CS}{x y:Str}{b:Li Stmt}{p:Pos}(hi:N.idxOf? x=some i)(hj:N.idxOf? y=some j)(hz:Xz G sc it=some as)(h:o2 (CS.forP i j) (cEs G n sc N as) (cSs G n sc N b)=some c):PS X (.For (.Tuple [.Name x p,.Name y p2] ctx tp) it b [] pos) (tS X.K (ex F c)):=by
 refine ZU (P:=fun c=>PS X _ (tS X.K (ex F c))) h fun ci cb hc hb=>?_
 obtain⟨p1,p3,a,b',rfl,rfl,hg,hm⟩:=WA K.toCxt hz;obtain⟨A,_,pl,_⟩:=ihA X sc N K.toCxt _ ci hc;exact Zt (ps_for (YZ K) K.calm (Zd8 hg hm A pl) (pg_tup K.calm (pgs_cons (ZV K hi) (pgs_cons (ZV K hj) pgs_nil))) (ihS X sc N K _ cb hb) (ZG rfl)) JP
noncomputable def Itd(a:Ad)(n:Nat):It:=
 ⟨fun i H=>i < n/\∃ xs,H a=some (.dN (Yj xs))/\xs.length=n,fun i H v H'=>∃ T,∃ e:Ad×Ad,v=.ref T/\H T=none/\H'=upd H T (.tup [.ref e.1,.ref e.2])/\∀ xs:Li (D×Ad×Ad),H a=some (.dN (Yj xs))->xs.length=n->∃ k,xs[i]?=some (k,e),fun i H=>i=n/\∃ xs,H a=some (.dN (Yj xs))/\xs.length=n⟩
theorem Uw{s:sH7}{a:Ad}{xs:Li (D×Ad×Ad)}(I:L2.Inv X pQ σ H s)(e:H a=some (.dN (Yj xs))):(a==sysModules)=false/\∃ es:Array DictEntry,Raw s.heap a es es.size/\es.toList=Yj xs X.w:=by
 obtain⟨hd,o,es,ho,hc,hdat,he⟩:=(show ObjOk X.prog X.w H s.heap a (.dN (Yj xs)) from I.hok a _ e);exact⟨hd,es,⟨o,ho,hc,hdat⟩,he⟩
theorem XG{xs:Li (D×Ad×Ad)}(h:es.toList=Yj xs w):es.size=xs.length:=by
 rw[<-cY,h];unfold Yj;rw[aB]
theorem ZaM{P:Program}{K:fG7}(a it:Ad)(n:Nat):Turn P w K (.Tuple elts kk pos) (Itd a n) [it] it (fun i h=>∃ ok ov,IsItemIter h it a i n n ok ov) where
 mem:=lQ7
 obj:=fun i h st b hb=>by
  rw[aP.mp hb];obtain⟨ok,ov,e⟩:=st;exact⟨_,e,fun v z=>by cases (show Data.fields _=Data.cell v from z)⟩
 keep:=fun i h h' st k=>let ⟨ok,ov,e⟩:=st;⟨ok,ov,k it lQ7 _ e⟩
 item:=by
  intro X hP hw hK hc i pQ s σ H E I hf st hg;subst hP hw hK;obtain⟨hi,xs,hq,hl⟩:=hg;obtain⟨hd,es,raw,he⟩:=Uw I hq;have hs:=XG he;obtain rfl:es.size=n:=hs.trans hl;obtain⟨ok,ov,st⟩:=st;have hx:i < xs.length:=by omega
  have z:es.toList[i]?=some es[i]:=by rw[Array.getElem?_toList,eA hi]
  rw[he]at z;unfold Yj at z;rw[aR,lG7 hx]at z;have z:=Option.some.inj z;have z1:es[i].key=.ref xs[i].2.1:=by rw[<-z]
  have z2:es[i].val=.ref xs[i].2.2:=by rw[<-z]
  refine ZbR st raw hi fun h' out tup kp=>?_
  refine⟨.ref s.heap.objs.size,rfl,wpAny_letOwnedTupleGo_items (s:={ s with heap:=h' }) out fun h2 st2 sb=>?_⟩
  have ne:s.heap.objs.size≠it:=cZ (aK st);have I2:L2.Inv X pQ σ (upd H s.heap.objs.size (.tup [.ref xs[i].2.1,.ref xs[i].2.2])) { s with heap:=h2,toks:=s.toks }:=Yu (wr:=[it]) I hf (fun c o hcn g=>sb.extBut c o (fun q=>hcn (aP.mpr q)) (kp c o (fun q=>hcn (aP.mpr q)) g)) (aD _) ⟨show 2<=sizeLine by decide,[.ref xs[i].2.1,.ref xs[i].2.2],.cons rfl (.cons rfl .nil),⟨_,sb.extBut _ _ ne tup,rfl,0,by rw[z1,z2]⟩⟩
  refine⟨.ref s.heap.objs.size,_,I2,rfl,⟨_,xs[i].2,rfl,I.hok.fresh (aD _),rfl,fun ys hy hly=>?_⟩,⟨_,_,st2⟩,fun b hb=>?_⟩
  ·rw[hq]at hy
   have z:=congrFun (HO.dN.inj (Option.some.inj hy)) X.w;unfold Yj at z;have hy':i < ys.length:=by omega
   have z3:=congrArg (fun l=>l[i]?) z
   simp only[aR,lG7 hx,lG7 hy',Option.map_some]at z3
   injection Option.some.inj z3 with _ z4 z5
   refine⟨ys[i].1,?_⟩;rw[lG7 hy']
   injection z4 with z4
   injection z5 with z5
   exact congrArg some (Prod.ext rfl (Prod.ext z4.symm z5.symm))
  ·rw[aP.mp hb,upd_ne ne.symm]
   exact(hf it lQ7).1
 done:=by
  intro X hP hw hK hc i pQ s σ H E I hf st hg;subst hP hw hK;obtain⟨hi,xs,hq,hl⟩:=hg;obtain⟨hd,es,raw,he⟩:=Uw I hq;obtain rfl:es.size=n:=(XG he).trans hl;subst hi;obtain⟨ok,ov,st⟩:=st;exact ZdB (I.ok.hd hc) st raw fun h' eb=>⟨rfl,YV (wr:=[it]) (t':=s.toks) I hf fun b o hb e=>eb b o (fun q=>hb (aP.mpr q)) e⟩
 self:=fun _ _ _ _ _ st h=>let ⟨_,_,e⟩:=st;PySem.W.kcp_self e h
noncomputable def Zfv(td:TE):TI:=fun σ H R=>td σ H fun x H1=>∃ a xs,x=.ref a/\H1 a=some (.dN (Yj xs))/\R (Itd a xs.length) H1
theorem Zd7{tl:TE}(ho:PE X o tl)(hbase:attributeBase o "items" X.env (eval o X.env)=eval o X.env)(hline:(ap.endLine==cp.line)=true):PI X (.Tuple elts kk tp) (.Call (.Attribute o "items" ap) [] [] cp) (Zfv tl):=by
 intro pQ s σ H R I h;refine wpAny_Call_method0_late hbase hline (thn (ho pQ s σ H _ I h) fun v s1 ⟨x,H1,I1,r1,q1⟩=>?_)
 obtain⟨a,xs,rfl,e,q⟩:=q1;cases r1;obtain⟨hd,es,raw,he⟩:=Uw I1 e;have hs:=XG he;obtain⟨o',h1,h2,h3⟩:=id raw;refine⟨"dict", "dict.items",PySem.F.plainAttrs_dict,PySem.F.slot_dict_items,PySem.F.type_dict_items,raw.typeIs,fun b z=>by cases z;exact⟨o',h1,h2.2.1⟩,Calls.callWith_builtin rfl (PySem.evalArgs_none ?_)⟩
 refine call_meetsIn PySem.F.slot_dict_items raw.typeIs PySem.F.entry_dict_items (PySem.F.args_dict_items_1 _) (QV a hd) ⟨⟨es,es.size,raw⟩,?_⟩;have I2:L2.Inv X pQ σ H1 { s1 with heap:=s1.heap.push { cls:=.type "dict_items",data:=.fields #[.ref a] } }:=I1.kept (t':=s1.toks) fun b o e=>aQ _ e
 refine J6 (s:={ s1 with heap:=s1.heap.push { cls:=.type "dict_items",data:=.fields #[.ref a] } }) (es:=es) (ep:=es.size) ⟨_,bA _ rfl,rfl,rfl⟩ ⟨o',aQ _ h1,h2,h3⟩ ?_
 refine⟨_,[_],_,_,H1,rfl,I2.kept (t':=s1.toks) fun b o e=>aQ _ e,ZaM a _ _,⟨_,_,by rw[<-hs];exact bA _ rfl⟩,fun b hb=>?_,q⟩
 rw[aP.mp hb];exact I2.fpOk (aD _) (I2.hok.fresh (aD _))
theorem EntN.its{K:fG7}{ad:Li Ad}{xs:Li (D×Ad×Ad)}(r:EntN K ad H xs ds):(ds.filterMap itQ).length=xs.length/\∀ (k:Nat) (q:D×D),(ds.filterMap itQ)[k]?=some q->∃ x:D×Ad×Ad,xs[k]?=some x/\Den K ad H (.ref x.2.1) q.1/\Den K ad H (.ref x.2.2) q.2:=by
 induction r with
 |nil=>exact⟨rfl,fun k q h=>nomatch h⟩
 |@cons k0 d0 ka va xs ds h ok v r ih=>
  have e:(D.tup [k0,d0] :: ds).filterMap itQ=(k0,d0) :: ds.filterMap itQ:=rfl;rw[e];refine⟨by rw[aO,aO,ih.1],fun k q hq=>?_⟩
  cases k with
  |zero=>cases hq;exact⟨_,rfl,h,v⟩
  |succ k=>exact ih.2 k q hq
theorem JM{K:fG7}{f:Ex}(E:Ends)(σ:L2.St)(H:Hp)(h:tS K (Vv i j fi f) E σ H):tFor (Zfv (tE K fi)) (gTup K 2 (gCons (gName i) (gCons (gName j) gNil))) (tS K f) E σ H:=by
 obtain⟨ad,ρ,st,r,st',En,S,e,p⟩:=ZF h;unfold Vv at e;split at e
 ·rename_i a st1 q1
  split at e
  ·rename_i c hc
   split at e
   ·rename_i ob
    refine⟨ad,ρ,st,_,st1,En,S,q1,fun v ad1 H1 x1 S1 d1=>?_⟩
    obtain⟨l,rfl,hl,dt⟩:=d1.ofDic;have dct:∀ {ad2:Li Ad}{H2:Hp}{st2:Za},(ad2[a]?=some l/\Z0 H2 l)->StOk K ad2 H2 st2->st2[a]?=some c->∃ xs,EntN K ad2 H2 xs c.2/\H2 l=some (.dN (Yj xs)):=fun g S2 o=>by
     obtain⟨xs,⟨r,_⟩,ho,_⟩:=S2.dict g.1 g.2 (show _=some (c.1,c.2) from o) ob;exact⟨xs,r,ho⟩
    obtain⟨xs,r1,ho⟩:=dct ⟨hl,dt⟩ S1 hc;refine⟨l,xs,rfl,ho,_,⟨_,.mk (Good:=fun ad H=>ad[a]?=some l/\Z0 H l) (bD _) (En.mono x1) S1 ⟨hl,dt⟩ e (p.later x1)⟩,Xg (fun _ _ _ _ x g=>⟨x.pre _ _ g.1,(x.kd _ _ g.1).mp g.2⟩) (fun ad2 H2 st2 g S2 o=>?_) fun k ad2 H2 st2 q g S2 o hq=>?_⟩
    ·obtain⟨ys,r2,hy⟩:=dct g S2 o
     exact⟨by rw[r1.its.1],ys,hy,by rw[<-r2.its.1,r1.its.1]⟩
    ·obtain⟨ys,r2,hy⟩:=dct g S2 o
     have hl2:ys.length=xs.length:=by rw[<-r2.its.1,r1.its.1]
     obtain⟨x,hx,dk,dv⟩:=r2.its.2 k q hq;refine⟨_,_,⟨by rw[<-hl2];exact(bE.mp hx).1,ys,hy,hl2⟩,dk,dv,fun z H' ⟨T,e2,z1,z2,z3,z4⟩=>⟨T,z1,z2,?_⟩⟩
     obtain⟨k',z5⟩:=z4 ys hy hl2;rw[hx]at z5;cases z5;exact z3
   ·exact Zb e
  ·exact Zb e
 ·exact Zb e
theorem Zcm(ihE:Zm G F n)(ihS:ZL G F n)(K:CxtS X G F sc N){c:CS}{x y:Str}{b:Li Stmt}{p:Pos}(hi:N.idxOf? x=some i)(hj:N.idxOf? y=some j)(hz:Xu it=some e)(h:o2 (CS.forI i j) (cE G n sc N e) (cSs G n sc N b)=some c):PS X (.For (.Tuple [.Name x p,.Name y p2] ctx tp) it b [] pos) (tS X.K (ex F c)):=by
 refine ZU (P:=fun c=>PS X _ (tS X.K (ex F c))) h fun ci cb hc hb=>?_
 unfold Xu at hz;split at hz
 ·rename_i o f q m ap cp
  refine Yv hz fun hm hz2=>?_
  obtain⟨rfl,hl⟩:=hm;cases hz2;exact Zt (ps_for (YZ K) K.calm (Zd7 (ihE X sc N K.toCxt _ ci hc).pe rfl hl) (pg_tup K.calm (pgs_cons (ZV K hi) (pgs_cons (ZV K hj) pgs_nil))) (ihS X sc N K _ cb hb) (ZG rfl)) JM
 ·exact Zb hz
theorem Zcl(ihE:Zm G F n)(ihS:ZL G F n)(K:CxtS X G F sc N){c:CS}{x y:Str}{b:Li Stmt}{p:Pos}(hi:N.idxOf? x=some i)(hj:N.idxOf? y=some j)(hz:XY G sc it=some e)(h:o2 (CS.forE i j) (cE G n sc N e) (cSs G n sc N b)=some c):PS X (.For (.Tuple [.Name x p,.Name y p2] ctx tp) it b [] pos) (tS X.K (ex F c)):=by
 refine ZU (P:=fun c=>PS X _ (tS X.K (ex F c))) h fun ci cb hc hb=>?_
 obtain⟨pl,A⟩:=X9 (elts:=[.Name x p,.Name y p2]) (kk:=ctx) (tp:=tp) K.toCxt hz (Zf hc) (ihE X sc N K.toCxt _ ci hc).pe;exact Zt (ps_for (YZ K) K.calm A (pg_tup K.calm (pgs_cons (ZV K hi) (pgs_cons (ZV K hj) pgs_nil))) (ihS X sc N K _ cb hb) (ZG pl)) JL
theorem Zcj(ihE:Zm G F n)(ihS:ZL G F n)(K:CxtS X G F sc N){c:CS}{x y:Str}{b:Li Stmt}{p:Pos}(h:o3 (fun(p:Nat×Nat) (q:Nat×CE) b=>CS.for4 p.1 p.2 q.1 q.2 b) (o2 Prod.mk (N.idxOf? x) (N.idxOf? y)) (o2 Prod.mk (N.idxOf? z) (cE G n sc N it)) (cSs G n sc N b)=some c):PS X (.For (.Tuple [.Name x p,.Name y p2,.Name z p3] ctx tp) it b [] pos) (tS X.K (ex F c)):=
 Y8 (P:=fun c=>PS X _ (tS X.K (ex F c))) h fun u v cb hu hv hb=>ZU (P:=fun u:Nat×Nat=>PS X _ (tS X.K (ex F (.for4 u.1 u.2 v.1 v.2 cb)))) hu fun i j hi hj=>ZU (P:=fun v:Nat×CE=>PS X _ (tS X.K (ex F (.for4 i j v.1 v.2 cb)))) hv fun l ci hl hc=>
  Zt (ps_for (YZ K) K.calm (pi_tup (ihE X sc N K.toCxt _ ci hc).pe) (pg_tup K.calm (pgs_cons (ZV K hi) (pgs_cons (ZV K hj) (pgs_cons (ZV K hl) pgs_nil)))) (ihS X sc N K _ cb hb) (ZG (Zf hc))) JK
theorem Zch(ihE:Zm G F n)(ihS:ZL G F n)(K:CxtS X G F sc N){c:CS}{x y:Str}{b:Li Stmt}{p:Pos}(hi:N.idxOf? x=some i)(hj:N.idxOf? y=some j)(h:o2 (CS.for2 i j) (cE G n sc N it) (cSs G n sc N b)=some c):PS X (.For (.Tuple [.Name x p,.Name y p2] ctx tp) it b [] pos) (tS X.K (ex F c)):=by
 refine ZU (P:=fun c=>PS X _ (tS X.K (ex F c))) h fun ci cb hc hb=>?_
 exact fun pQ s σ H D I q=>by
  obtain⟨_,_,_,_,_,_,_,e,_⟩:=ZF q;cases e
theorem ZeL(ihE:Zm G F n)(K:CxtS X G F sc N){c:CS}{x:Str}{p:Pos}(h:Zdm sc N x m ap cp (cE G n sc N e)=some c):PS X (.Expr (.Call (.Attribute (.Name x p) m ap) [e] [] cp) pos) (tS X.K (ex F c)):=by
 refine Yv h fun hc h=>?_
 by_cases e1:m = "append"
 ·subst e1
  rw[if_pos rfl]at h;exact ZU (P:=fun c=>PS X _ (tS X.K (ex F c))) h fun i y hi hx=>Zt (ps_expr (pe_bm PySem.F.plainAttrs_list PySem.F.slot_list_append PySem.F.type_list_append mt_append (VV K.toCxt hc.1 hi) (pa1 (Zf hx) (ihE X sc N K.toCxt _ y hx).pe) rfl (by rw[Zg (Zf hx)];rfl) hc.2 (Zg (Zf hx)) rfl) rfl) Zbq
 ·rw[if_neg e1]at h
  by_cases e2:m = "extend"
  ·subst e2
   rw[if_pos rfl]at h;exact ZU (P:=fun c=>PS X _ (tS X.K (ex F c))) h fun i y hi hx=>Zt (ps_expr (pe_bm PySem.F.plainAttrs_list PySem.F.slot_list_extend PySem.F.type_list_extend mt_extend (VV K.toCxt hc.1 hi) (pa1 (Zf hx) (ihE X sc N K.toCxt _ y hx).pe) rfl (by rw[Zg (Zf hx)];rfl) hc.2 (Zg (Zf hx)) rfl) rfl) Zbs
  ·rw[if_neg e2]at h;cases h
theorem Zce(ihE:Zm G F n)(hA:X2 G F n)(K:CxtS X G F sc N){c:CS}(h:Zfe N tg e (cE G n sc N e)=some c):PS X (.Assign [tg] e pos) (tS X.K (ex F c)):=by
 have no:∀ {P:Prop},(none:Ot CS)=some c->P:=fun z=>nomatch z
 cases tg with
 |Name x p=>exact ZeM ihE hA K h
 |Tuple es ctx tp=>cases es with
  |nil=>exact no h
  |cons a es=>cases a with
   |Name _ _=>cases es with
    |nil=>exact no h
    |cons b es=>cases b with
     |Name _ _=>cases es with
      |nil=>exact Zcp ihE K h
      |cons c2 es=>cases c2 with
       |Name _ _=>cases es with
        |nil=>exact Zcq ihE K h
        |cons c3 es=>cases c3 with
         |Name _ _=>cases es with
          |nil=>exact Zcr ihE K h
          |cons _ _=>exact no h
         |_=>exact no h
       |_=>exact no h
     |_=>exact no h
   |_=>exact no h
 |_=>exact no h
theorem Zck(ihE:Zm G F n)(ihA:Yr G F n)(ihS:ZL G F n)(K:CxtS X G F sc N){c:CS}{b:Li Stmt}(h:ZdI G sc N (cE G n sc N) (cEs G n sc N) tg it (cSs G n sc N b)=some c):PS X (.For tg it b [] pos) (tS X.K (ex F c)):=by
 have no:∀ {P:Prop},(none:Ot CS)=some c->P:=fun z=>nomatch z
 cases tg with
 |Name x p=>
  unfold ZdI at h;cases hr:XM G sc it with
  |some as=>
   rw[hr]at h;exact Zci ihA ihS K hr h
  |none=>
   rw[hr]at h;exact Zcg ihE ihS K h
 |Tuple es ctx tp=>cases es with
  |nil=>exact no h
  |cons a es=>cases a with
   |Name x p=>cases es with
    |nil=>exact no h
    |cons b2 es=>cases b2 with
     |Name y p2=>cases es with
      |nil=>
       replace h:((o2 (fun i j=>og (i≠j) (some (i,j))) (N.idxOf? x) (N.idxOf? y)).join.bind fun p=>(match Xz G sc it with
        |some as=>o2 (CS.forP p.1 p.2) (cEs G n sc N as) (cSs G n sc N b)
        |none=>match XY G sc it with
         |some e=>o2 (CS.forE p.1 p.2) (cE G n sc N e) (cSs G n sc N b)
         |none=>match Xu it with
          |some e=>o2 (CS.forI p.1 p.2) (cE G n sc N e) (cSs G n sc N b)
          |none=>o2 (CS.for2 p.1 p.2) (cE G n sc N it) (cSs G n sc N b)))=some c:=h
       refine b_e h fun q hq h=>j_e hq fun hq=>ZU (P:=fun o=>o=some q->PS X _ (tS X.K (ex F c))) hq (fun i j hi hj e=>Yv e fun _ e=>?_) rfl
       cases e;cases hz:Xz G sc it with
       |some as=>
        rw[hz]at h;exact Zcn ihA ihS K hi hj hz h
       |none=>
        rw[hz]at h;dsimp only at h;cases he:XY G sc it with
        |some e=>
         rw[he]at h;exact Zcl ihE ihS K hi hj he h
        |none=>
         rw[he]at h;dsimp only at h;cases hi2:Xu it with
         |some e=>
          rw[hi2]at h;exact Zcm ihE ihS K hi hj hi2 h
         |none=>
          rw[hi2]at h;exact Zch ihE ihS K hi hj h
      |cons c2 es=>cases c2 with
       |Name _ _=>cases es with
        |nil=>exact Zcj ihE ihS K h
        |cons _ _=>exact no h
       |_=>exact no h
     |_=>exact no h
   |_=>exact no h
 |_=>exact no h
theorem Zcd(ihE:Zm G F n)(K:CxtS X G F sc N){c:CS}{k:Expr}{p:Pos}(h:og (m = "append"/\(ap.endLine==cp.line)=true) (o2 CS.app2 (cE G n sc N (.Subscript o k p)) (cE G n sc N e))=some c):PS X (.Expr (.Call (.Attribute (.Subscript o k p) m ap) [e] [] cp) pos) (tS X.K (ex F c)):=by
 refine Yv h fun hc h'=>?_
 obtain⟨e1,hl⟩:=hc;subst e1;exact ZU (P:=fun c=>PS X _ (tS X.K (ex F c))) h' fun z y hz hx=>Zt (ps_expr (pe_bm PySem.F.plainAttrs_list PySem.F.slot_list_append PySem.F.type_list_append mt_append (ihE X sc N K.toCxt _ z hz).pe (pa1 (Zf hx) (ihE X sc N K.toCxt _ y hx).pe) rfl (by rw[Zg (Zf hx)];rfl) hl (Zg (Zf hx)) rfl) rfl) JG
theorem Zcc(ihE:Zm G F n)(K:CxtS X G F sc N){c:CS}{v:Expr}(h:Zfb sc N (cE G n sc N) v=some c):PS X (.Expr v pos) (tS X.K (ex F c)):=by
 have no:∀ {P:Prop},(none:Ot CS)=some c->P:=fun z=>nomatch z
 cases v with
 |Call f as kw cp=>cases f with
  |Attribute o m ap=>cases o with
   |Name x p=>
    replace h:(if m = "append"\/m = "extend" then (match (generalizing:=false) as,kw with
     |[e],[]=>Zdm sc N x m ap cp (cE G n sc N e)
     |_,_=>none) else (cE G n sc N (.Call (.Attribute (.Name x p) m ap) as kw cp)).map CS.act)=some c:=h
    by_cases hm:m = "append"\/m = "extend"
    ·rw[if_pos hm]at h
     cases as with
     |nil=>exact no h
     |cons e es=>cases es with
      |nil=>cases kw with
       |nil=>exact ZeL ihE K h
       |cons _ _=>exact no h
      |cons _ _=>exact no h
    ·rw[if_neg hm]at h
     obtain⟨ce,hx,rfl⟩:=dI.mp h;exact Zt (ps_expr (ihE X sc N K.toCxt _ ce hx).pe rfl) UY
   |Subscript o k p=>cases as with
    |nil=>exact no h
    |cons e es=>cases es with
     |nil=>cases kw with
      |nil=>exact Zcd ihE K h
      |cons _ _=>exact no h
     |cons _ _=>exact no h
   |_=>exact no h
  |Name f fp=>exact ZeK ihE K h
  |_=>exact no h
 |_=>exact no h
theorem V2(ihE:Zm G F n)(ihA:Yr G F n)(ihS:ZL G F n)(hA:X2 G F n):V6 G F (n+1):=by
 intro X sc N K s c h;have no:∀ {P:Prop},(none:Ot CS)=some c->P:=fun z=>nomatch z
 cases s with
 |Assign tgs e pos=>cases tgs with
  |nil=>exact no h
  |cons t ts=>cases ts with
   |cons _ _=>cases t with
    |Subscript o k p=>cases o<;>exact no h
    |Attribute o k p=>cases o<;>exact no h
    |_=>exact no h
   |nil=>cases t with
    |Subscript o k p=>cases o with
     |Name x q=>exact ZeN ihE K h
     |Attribute o f q=>exact Zcf ihE K h
     |_=>exact no h
    |Attribute o k p=>cases o with
     |Name x q=>exact Zco ihE K h
     |_=>exact no h
    |_=>exact Zce ihE hA K h
 |Return e pos=>cases e with
  |none=>exact no h
  |some e=>exact ZeO ihE K h
 |If e a b pos=>exact ZfU ihE ihS K h
 |While e b oe pos=>cases oe with
  |cons _ _=>exact no h
  |nil=>exact ZaB ihE ihS K h
 |For t it b oe pos=>cases oe with
  |cons _ _=>exact no h
  |nil=>exact Zck ihE ihA ihS K h
 |Expr v pos=>exact Zcc ihE K h
 |Pass pos=>
  cases (show some CS.skip=some c from h)
  exact Zt ps_pass VD
 |Break pos=>
  cases (show some CS.brk=some c from h)
  exact Zt ps_break Zbr
 |Raise a b pos=>
  cases (show some CS.stop=some c from h)
  exact fun pQ s σ H D I q=>by
   obtain⟨_,_,_,_,_,_,_,e,_⟩:=ZF q;cases e
 |Continue pos=>
  cases (show some CS.cont=some c from h)
  exact Zt ps_continue JH
 |_=>exact no h
theorem Vc(ihS:V6 G F n)(ihSs:ZL G F n):ZL G F (n+1):=by
 intro X sc N K s c h;cases s with
 |nil=>
  simp only[cSs]at h;cases h;exact Qd pss_nil VD
 |cons s r=>
  exact ZU (P:=fun c=>PSs X _ (tS X.K (ex F c))) (show o2 CS.seq (cS G n sc N s) (cSs G n sc N r)=some c from h) fun a b ha hb=>Qd (pss_cons (ihS X sc N K s a ha) (ihSs X sc N K r b hb)) ZbC
end
variable [ClsTab]
def YL(G:Gs)(F:Nat->Fn):Prop:=∀ n,Zm G F n->(∀ X sc N,Cxt X G F sc N->∀ elt gens sc2 pos c,cE G (n+1) sc N (.ListComp elt gens sc2 pos)=some c->SE X F (.ListComp elt gens sc2 pos) c)/\X2 G F (n+1)
theorem WH{G:Gs}{F:Nat->Fn}(hc:YL G F):∀ n,(Zm G F n/\Yr G F n/\WO G F n)/\V6 G F n/\ZL G F n/\X2 G F n
 |0=>⟨⟨fun X sc N K e c h=>(nomatch (show(none:Ot CE)=some c from h)),fun X sc N K e c h=>(nomatch (show(none:Ot CE)=some c from h)),fun X sc N K e c h=>(nomatch (show(none:Ot CE)=some c from h))⟩,fun X sc N K e c h=>(nomatch (show(none:Ot CS)=some c from h)),fun X sc N K e c h=>(nomatch (show(none:Ot CS)=some c from h)),fun X sc N K x i p elt gens sc2 epos pos c _ h=>(nomatch (show(none:Ot CE)=some c from h))⟩
 |n+1=>by
  obtain⟨⟨hE,hA,hO⟩,hS,hSs,hCA⟩:=WH hc n;exact⟨⟨UB hE hA hO (hc n hE).1,V0 hE hA,V1 hE⟩,V2 hE hA hSs hCA,Vc hS hSs,(hc n hE).2⟩
def Qq(K:fG7)(G:Gs)(T:Nat->Ot FD)(x y:Str)(i:Nat)(f:Ad)(fd:FuncData)(pn N:Li Str):Prop:=∃ (st:Stmt) (oc:vL) (od:Ot Ad) (dV kV doc pm:vL) (an:Ot Ad) (cdv ct:vL) (osl:Array (Ot vL)) (code:CS),
  fd=PySem.W.fnOf x y (defArgs st) (defBody st) (defScope st) dV kV doc pm an cdv ct/\K.lookup f=some ⟨oc,od,.func fd,osl⟩/\PySem.W.codeIn K cdv y=true/\FnScope N pn (defScope st)/\(∀ y∈N,Loc (defScope st) y) /\
  cSs G 60 (defScope st) N (defBody st)=some code/\T i=some ⟨pn.length,N.length,code⟩
def Za2(K:fG7)(mg:Str->Ot vL)(G:Gs)(T:Nat->Ot FD)(i:Nat)(f:Ad)(fd:FuncData)(pn:Li Str):Prop:=∀ (P:Program) (w:World) (base:Heap) (n:Nat),(∀ m,m<=n->∀ A,Room (2 * m+1) A->∀ y g,G.lookup y=some g->GOk P w K mg base A (run T m) y g)->FnOk P w K mg base CX0 (2 * (n+1)) f fd pn (spD K (run T (n+1) i))
structure DefOk(K:fG7)(mg:Str->Option Value)(G:Gs)(T:Nat->Option FD)(x:Str)(i:Nat)(ds:List D)(f:Addr)(fd:FuncData)(pn N:List Str):Prop where
 ob:Qq K G T x x i f fd pn N\/Za2 K mg G T i f fd pn
 kp:PySem.W.keepIn K (.ref f)=true
 at_:mg x=some (.ref f)
 bn:∀ m,m<=ds.length->∃ dvs us,(∀ ad H,Dens K ad H dvs (ds.drop m))/\Vals dvs us/\Binds K fd pn us
structure MethOk(K:fG7)(G:Gs)(T:Nat->Option FD)(C:Addr)(x y:Str)(i:Nat)(f:Addr)(fd:FuncData)(pn N:List Str):Prop where
 ob:Qq K G T x y i f fd pn N
 mt:Meth K C x f
 bn:Binds K fd pn []
structure Text(Pm:Params)(K:fG7)(mg:Str->Option Value)(G:Gs)(T:Nat->Option FD):Prop where
 cst:∀ x d,G.lookup x=some (.c d)->∃ v u,mg x=some u/\RelV v u/\∀ ad H,Den K ad H v d
 blt:∀ x,G.lookup x=some .blt->mg x=none
 dct:∀ x ks ds,G.lookup x=some (.dct ks ds)->UK Pm K mg x ks ds
 fn:∀ x i ps ds,G.lookup x=some (.fn i ps ds)->∃ f fd pn N,DefOk K mg G T x i ds f fd pn N
 cls:∀ x i ms subs ds,G.lookup x=some (.cls i ms subs ds)->(mg x=some (.ref (ClsTab.ca i))/\NewOk K (ClsTab.ca i)/\∀ i',subs.contains i'=true->SubOk K (ClsTab.ca i') (ClsTab.ca i)) /\
  (∀ m j ps,ms.lookup m=some (j,ps)->∃ y f fd pn N,MethOk K G T (ClsTab.ca i) m y j f fd pn N/\(m = "__init__"->ObC K (ClsTab.ca i)/\∀ n,n<=ds.length->∃ dvs us,(∀ ad H,Dens K ad H dvs (ds.drop n))/\Vals dvs us/\Binds K fd pn us)) /\
  (ms.lookup ("__init__":Str)=none->PySem.W.findIn K (.ref (ClsTab.ca i)) "__init__"=some (some (.builtin "object.__init__")))
variable{pn:Li Str}
section
variable {P:Program}{w:World}{K:fG7}{mg:Str->Ot vL}{base:Heap}{G:Gs}{T:Nat->Ot FD}
theorem ZaP{x:Str}(h:YW sc x=true):Vis sc x:=by
 unfold YW at h;rw[bA7]at h;have h:=h.2;split at h
 ·rename_i q;exact .inl q
 ·rename_i q;exact .inr (.inl q)
 ·rename_i q;exact .inr (.inr q)
 ·cases h
theorem UW{x:Str}(h:Zy sc x=true):sc.names.lookup x=some .globalImplicit:=by
 unfold Zy at h;rw[bA7]at h;have h:=h.2;split at h
 ·rename_i q;exact q
 ·cases h
theorem UR{x:Str}(h:Wg sc x=true):sc.names.lookup x=some .cell\/sc.names.lookup x=some .free:=by
 unfold Wg at h;split at h
 ·rename_i q;exact .inl q
 ·rename_i q;exact .inr q
 ·cases h
theorem QL{ad:Li Ad}(h:Dens K ad H vs ds)(hl:ds.length<=N.length):EnvOk K ad H (L2.start N vs) (ds.map some++List.replicate (N.length - ds.length) none):=by
 have e:=h.length;refine⟨by unfold L2.start;simp[e],fun i d q=>?_⟩
 by_cases hi:i < ds.length
 ·rw[bS (by simpa using hi),aR,lG7 hi]at q
  have q':ds[i]=d:=by simpa using q
  have g:ds[i]?=some d:=by rw[lG7 hi,q']
  obtain⟨v,e1,e2⟩:=h.get g;refine⟨v,?_,e2⟩;unfold L2.start;rw[bS (by simpa[e] using hi),aR,e1]
  rfl
 ·rw[cB (by simpa using hi),dY]at q
  split at q<;>cases q
theorem Zd5{n:Nat}(hc:∀ n,YL G (run T n))(gl:∀ A,Room (2 * n+1) A->∀ y g,G.lookup y=some g->GOk P w K mg base A (run T n) y g){x y:Str}{f:Ad}{fd:FuncData}(ob:Qq K G T x y i f fd pn N):FnOk P w K mg base CX0 (2 * (n+1)) f fd pn (spD K (run T (n+1) i)):=by
 obtain⟨st,oc,od,dV,kV,doc,pm,an,cdv,ct,osl,code,rfl,lk,hcd,S,hloc,hcode,hT⟩:=ob;have hrun:run T (n+1) i=fnD (run T n) ⟨pn.length,N.length,code⟩:=by
  show(match T i with|some f=>fnD (run T n) f|none=>fun _ _=>none)=_
  rw[hT]
 refine fn_of (k:=2 * n+1) lk hcd S (fun vs H Q E h=>?_) (fun A outer s H vs Q E hr h=>?_)
 ·obtain⟨ad,es,st,d,st',_,hd,e,_⟩:=h
  rw[hrun]at e;unfold fnD at e;split at e
  ·rename_i hl
   rw[hd.length];exact hl
  ·exact Zb e
 ·obtain⟨ad,es,s0,d,st',S0,hd,e,p⟩:=h
  rw[hrun]at e;unfold fnD at e;split at e
  ·rename_i hl
   have C:CxtS (cxOf CX0 P w K mg base N y (defScope st) f cdv A outer s H E).nox G (run T n) (defScope st) N:={
    hN:=rfl
    vis:=fun y hy=>ZaP hy
    glb:=fun y hy=>UW hy
    calm:=rfl
    hu:=hr.units
    gl:=gl _ hr
    cel:=fun y hy=>UR hy
    nx:=rfl
    nd:=S.nd
    loc:=hloc
    fn:=fun _=>rfl }
   have B:=(WH (hc n) 60).2.2.1 _ _ _ C _ _ hcode;have hpl:pn.length<=N.length:=by have:=congrArg List.length S.pre;rw[bH]at this;omega
   have E0':=QL (N:=N) hd (by rw[show es.length=pn.length from hl];exact hpl)
   refine⟨_,B.nox,?_⟩;split at e
   ·rename_i d' st1 q
    cases e;exact ZP E0' S0 q p
   ·rename_i ρ st1 q
    cases e;exact ZP E0' S0 q fun σ1 ad1 H1 x1 S1 E1=>(p.later x1).at S1 .non
   ·exact Zb e
  ·exact Zb e
theorem Zcw{f:Ad}{fd:FuncData}:FnOk P w K mg base CX0 0 f fd pn (spD K (run T 0 i)):=by
 refine⟨fun vs H Q E h=>?_,fun A outer s H args us vs Q E _ _ _ _ h=>?_⟩
 ·obtain⟨_,_,_,_,_,_,_,e,_⟩:=h;cases e
 ·obtain⟨_,_,_,_,_,_,_,e,_⟩:=h;cases e
theorem ZcL(X:Text w.params K mg G T)(F1:∀ {x y:Str}{i:Nat}{f:Ad}{fd:FuncData}{pn N:Li Str},Qq K G T x y i f fd pn N\/Za2 K mg G T i f fd pn->FnOk P w K mg base CX0 (2 * n) f fd pn (spD K (run T n i)))(A:Around)(hr:Room (2 * n+1) A):∀ y g,G.lookup y=some g->GOk P w K mg base A (run T n) y g:=fun y g hg=>by
 cases g with
 |c d=>exact X.cst y d hg
 |blt=>exact X.blt y hg
 |dct ks ds=>exact X.dct y ks ds hg
 |fn j qs es=>
  obtain⟨f,fd,pn,N,Dk⟩:=X.fn y j qs es hg;exact⟨2 * n,f,fd,pn,F1 Dk.ob,hr.mono (bU _),Dk.at_,Dk.kp,Dk.bn⟩
 |cls i ms subs ds=>
  obtain⟨⟨h1,h2,h3⟩,h4,h5⟩:=X.cls y i ms subs ds hg;refine⟨h1,h2,h3,fun m j ps hm=>?_,h5⟩
  obtain⟨z,f,fd,pn,N,Mk,hb⟩:=h4 m j ps hm;exact⟨2 * n,f,fd,pn,F1 (.inl Mk.ob),hr,Mk.mt,Mk.bn,hb⟩
theorem V8(hc:∀ n,YL G (run T n))(X:Text w.params K mg G T):∀ (n m:Nat),m<=n->∀ {x y:Str}{i:Nat}{f:Ad}{fd:FuncData}{pn N:Li Str},Qq K G T x y i f fd pn N\/Za2 K mg G T i f fd pn->FnOk P w K mg base CX0 (2 * m) f fd pn (spD K (run T m i))
 |n,0,_,_,_,_,_,_,_,_,_=>Zcw
 |n+1,m+1,h,_,_,_,_,_,_,_,.inl ob=>Zd5 hc (fun A hr=>ZcL X (fun ob=>V8 hc X n m (Nat.le_of_succ_le_succ h) ob) A hr) ob
 |n+1,m+1,h,_,_,_,_,_,_,_,.inr hd=>hd P w base m fun l hl A hr=>ZcL X (fun ob=>V8 hc X n l (aM hl (Nat.le_of_succ_le_succ h)) ob) A hr
theorem Zdl(hc:∀ n,YL G (run T n))(X:Text w.params K mg G T)(n:Nat){x y:Str}{f:Ad}{fd:FuncData}(h:Qq K G T x y i f fd pn N\/Za2 K mg G T i f fd pn):FnOk P w K mg base CX0 (2 * n) f fd pn (spD K (run T n i)):=V8 hc X n n (aD _) h
end
variable [ClsTab]
section
variable {ad:Li Ad}{H:Hp}{p:Ad}{xs ys:Li V}
theorem W3(hp:H p=some (.lst xs)){a:Ad}:Z0 H a↔Z0 (upd H p (.lst ys)) a:=UF (W6 hp rfl) rfl
theorem Uo{K:fG7}(hp:H p=some (.lst xs)):Keeps K ad ad H (upd H p (.lst ys)):=⟨fun h=>h.upd hp (by intro xs z;cases z),fun h=>⟨h,W3 hp⟩,fun h n=>⟨by rw[upd_ne (ne_of h hp (by intro z;cases z))];exact h,n⟩⟩
theorem Den.wr{K:fG7}(hp:H p=some (.lst xs)){v:V}(h:Den K ad H v d):Den K ad (upd H p (.lst ys)) v d:=h.map (Uo hp)
theorem Dens.wr{K:fG7}(hp:H p=some (.lst xs))(h:Dens K ad H vs ds):Dens K ad (upd H p (.lst ys)) vs ds:=h.map (Uo hp)
theorem EnvOk.wr{K:fG7}(hp:H p=some (.lst xs))(h:EnvOk K ad H σ ρ):EnvOk K ad (upd H p (.lst ys)) σ ρ:=⟨h.len,fun i d e=>let ⟨v,e1,e2⟩:=h.at_ i d e;⟨v,e1,e2.wr hp⟩⟩
theorem StOk.wr{K:fG7}(S:StOk K ad H st)(hp:H p=some (.lst xs))(hn:p∉ad):StOk K ad (upd H p (.lst ys)) st:=
 S.wrG (Uo hp) hn
theorem Ext.wr{ad0:Li Ad}{H0:Hp}(x:Ext ad0 H0 ad H)(hp:H p=some (.lst xs))(h0:H0 p=none):Ext ad0 H0 ad (upd H p (.lst ys)):=by
 refine⟨x.pre,fun b zs h=>?_,fun b o h n=>?_,x.new,fun i a h=>(x.kd i a h).trans (W3 hp)⟩
 ·rw[upd_ne (ne_of_none h h0)];exact x.tup b zs h
 ·rw[upd_ne (ne_of_none h h0)];exact x.keep b o h n
end
theorem Wj{c:Str->NameKind->Bool}:∀ {l:Li (Str×NameKind)}{y:Str},(l.map fun(n,k)=>if c n k=true then (n,NameKind.cell) else (n,k)).lookup y=(l.lookup y).map fun k=>if c y k=true then NameKind.cell else k
 |[],_=>rfl
 | (n,k) :: r,y=>by
  have ih:=@Wj c r y;rw[aL];have e:(if c n k=true then (n,NameKind.cell) else (n,k))=(n,if c n k=true then NameKind.cell else k):=by split<;>rfl
  show List.lookup y ((if c n k=true then (n,NameKind.cell) else (n,k)) :: _)=_
  rw[e,bO,bO];cases q:y==n with
  |true=>rw[beq_iff_eq.mp q];rfl
  |false=>exact ih
theorem Yf{env:PySem.Env}{y:Str}:(relabel sc env).names.lookup y=(sc.names.lookup y).map fun k=>if (k==NameKind.free&&env.scope.kind==.function&&env.kindOf y==some .cell)=true then NameKind.cell else k:=
 Wj (c:=fun n k=>k==NameKind.free&&env.scope.kind==.function&&env.kindOf n==some .cell)
theorem Yw{y:Str}{k:NameKind}(h:sc.names.lookup y=some k)(hk:k≠.free):(relabel sc env).names.lookup y=some k:=by
 rw[Yf,h];have:(k==NameKind.free)=false:=by simpa using hk
 show some (if (k==NameKind.free&&_&&_)=true then NameKind.cell else k)=some k
 rw[this,Bool.false_and,Bool.false_and,if_neg bF7]
theorem YG{y:Str}(h:sc.names.lookup y=some .free):(relabel sc env).names.lookup y=some .cell\/(relabel sc env).names.lookup y=some .free:=by
 rw[Yf,h];show(some (if _ then NameKind.cell else NameKind.free))=_\/(some (if _ then NameKind.cell else NameKind.free))=_
 split
 ·exact .inl rfl
 ·exact .inr rfl
theorem W7{sc:Scope}{y:Str}(hc:∀ p∈sc.names,p.2≠.cell)(h:(relabel sc env).names.lookup y=some .cell\/(relabel sc env).names.lookup y=some .free):sc.names.lookup y=some .free:=by
 rw[Yf]at h;cases q:sc.names.lookup y with
 |none=>rw[q]at h;rcases h with h|h<;>cases h
 |some k=>
  rw[q]at h;cases k with
  |free=>rfl
  |cell=>
   have:∀ {l:Li (Str×NameKind)},l.lookup y=some .cell->∃ p∈l,p.2=.cell:=fun {l} e=>by
    induction l with
    |nil=>exact Zb e
    |cons a l ih=>
     obtain⟨n,k⟩:=a;rw[bO]at e;split at e
     ·cases e;exact⟨_,lQ7,rfl⟩
     ·obtain⟨p,hp,e'⟩:=ih e;exact⟨p,lM7 _ hp,e'⟩
   obtain⟨p,hp,e⟩:=this q;exact absurd e (hc p hp)
  |_=>rcases h with h|h<;>simp at h
theorem Xe{env:PySem.Env}:∀ (l:Li (Str×NameKind)) (acc:Li (Str×Ad)),(∀ p∈l,p.2=.free->∃ c,env.cells.lookup p.1=some c)->
  ∃ cl,(forIn l acc fun(x:Str×NameKind) (r:Li (Str×Ad))=>(do
   if (x.2==NameKind.free)=true then
    let a <-cellOf env x.1
    pure (ForInStep.yield ((x.1,a) :: r))
   else pure (ForInStep.yield r):Sem (ForInStep (Li (Str×Ad)))))=pure cl /\
   (∀ y c,cl.lookup y=some c->acc.lookup y=some c\/((y,NameKind.free)∈l/\env.cells.lookup y=some c))/\(∀ y,(y,NameKind.free)∈l\/(acc.lookup y).isSome->(cl.lookup y).isSome)
 |[],acc,_=>⟨acc,by simp only[List.forIn_nil],fun y c h=>.inl h,fun y h=>by simpa using h⟩
 | (n,k) :: l,acc,h=>by
  by_cases hk:k=.free
  ·subst hk
   obtain⟨c0,hc0⟩:=h (n,.free) lQ7 rfl;obtain⟨cl,e,h1,h2⟩:=Xe (env:=env) l ((n,c0) :: acc) fun p hp=>h p (lM7 _ hp)
   refine⟨cl,?_,fun y c q=>?_,fun y q=>?_⟩
   ·rw[List.forIn_cons]
    simp only[beq_self_eq_true,if_true];have:cellOf env n=pure c0:=by unfold cellOf;rw[hc0]
    simp only[this,pure_bind];exact e
   ·rcases h1 y c q with z|⟨z1,z2⟩
    ·rw[bO]at z
     split at z
     ·rename_i hy
      cases z;rw[beq_iff_eq.mp hy];exact .inr ⟨lQ7,hc0⟩
     ·exact .inl z
    ·exact .inr ⟨lM7 _ z1,z2⟩
   ·refine h2 y ?_
    rcases q with q|q
    ·rcases aG.mp q with z|z
     ·cases z
      exact .inr (by rw[bO];simp)
     ·exact .inl z
    ·refine .inr ?_
     rw[bO];split
     ·rfl
     ·exact q
  ·obtain⟨cl,e,h1,h2⟩:=Xe (env:=env) l acc fun p hp=>h p (lM7 _ hp)
   refine⟨cl,?_,fun y c q=>?_,fun y q=>?_⟩
   ·rw[List.forIn_cons]
    have:(k==NameKind.free)=false:=by simpa using hk
    simp only[this,cH,if_false,pure_bind];exact e
   ·rcases h1 y c q with z|⟨z1,z2⟩
    ·exact .inl z
    ·exact .inr ⟨lM7 _ z1,z2⟩
   ·refine h2 y ?_
    rcases q with q|q
    ·rcases aG.mp q with z|z
     ·cases z;exact absurd rfl hk
     ·exact .inl z
    ·exact .inr q
theorem Vp{sc:Scope}(h:∀ p∈sc.names,p.2=.free->∃ c,env.cells.lookup p.1=some c):∃ cl,closureFor sc env=pure cl/\(∀ y c,cl.lookup y=some c->env.cells.lookup y=some c)/\∀ y,(y,NameKind.free)∈sc.names->(cl.lookup y).isSome:=by
 obtain⟨cl,e,h1,h2⟩:=Xe (env:=env) sc.names [] h;refine⟨cl,?_,fun y c q=>?_,fun y q=>h2 y (.inl q)⟩
 ·unfold closureFor
  rw[show(fun(x:Str×NameKind) (r:Li (Str×Ad))=>_)=_ from rfl]at e
  first|exact(by simp only[e,pure_bind]) | (simp only[bind_pure]at *;exact e)|exact e
 ·rcases h1 y c q with z|⟨_,z⟩
  ·exact Zb z
  ·exact z
variable [ClsTab]
variable{iter:Expr}{ifs:Li Expr}
theorem Vq{R:Result->sH7->Prop}{s:sH7}{target:Expr}{scope:Scope}{it acc:vL}(I:Nat->sH7->Prop)(turn:∀ n s,I n s->wpAny (model prog w) A (pyNext it) (fun r s₁=>match r with
   |none=>R (.ok .next) s₁
   |some v=>wpAny (model prog w) A (letOwnedTupleGo target it v) (fun _ s₁'=>wpAny (model prog w) A (assign target env v) (fun _ s₂=>
     wpAny (model prog w) A (forIn ifs true fun c r=>if r=true then do let ok <-isTrue c env (eval c env);pure (ForInStep.yield ok) else pure (ForInStep.yield r)) (fun ok s₃=>
      if ok=true then wpAny (model prog w) A (eval elt env) (fun x s₄=>
       wpAny (model prog w) A (call (.builtin "list.append") [acc,x]) (fun _ s₅=>∃ m,m < n/\I m s₅) (notedBy (model prog w) A env fun e s'=>R (.error e) s') s₄) (notedBy (model prog w) A env fun e s'=>R (.error e) s') s₃
      else ∃ m,m < n/\I m s₃) (notedBy (model prog w) A env fun e s'=>R (.error e) s') s₂) (notedBy (model prog w) A env fun e s'=>R (.error e) s') s₁') (notedBy (model prog w) A env fun e s'=>R (.error e) s') s₁) (notedBy (model prog w) A env fun e s'=>R (.error e) s') s)(n:Nat)(h:I n s):codeAny (model prog w) A (.compLoop (.ListComp elt [⟨target,iter,ifs,0⟩] scope pos) 0 it acc env) R s:=by
 refine codeAny_loop rfl I (fun n s hI=>?_) n h
 show wpAny _ A ((compTurn (.ListComp elt [⟨target,iter,ifs,0⟩] scope pos) 0 it acc env).onRaise (fun x=>do noteFrame x env;theTreesLotGoes x)) _ _ s
 refine wpAny_noted ?_;rw[compTurn_list];refine aA (wpAny_standAt (aA (bK (turn n s hI) (fun r s₁ h₁=>?_) fun _ _ h'=>h')))
 cases r with
 |none=>exact aF h₁
 |some v=>
  refine aA (bK h₁ (fun _ s₁' h₁=>?_) fun _ _ h'=>h')
  refine aA (bK h₁ (fun _ s₂ h₂=>aA (bK h₂ (fun ok s₃ h₃=>?_) fun _ _ h'=>h')) fun _ _ h'=>h')
  cases ok with
  |false=>exact aF ⟨rfl,h₃⟩
  |true=>
   exact aA (aA (bK h₃ (fun x s₄ h₄=>aA (bK h₄ (fun _ s₅ h₅=>aF (aF ⟨rfl,h₅⟩)) fun _ _ h'=>h')) fun _ _ h'=>h'))
noncomputable def cxC(X:Cx)(N:Li Str)(env:PySem.Env)(s3:sH7)(H3:Hp)(fp:Li Ad)(pQ:Li (Ad×Obj)):Cx:=
 { X with N:=N,s₀:=s3,H₀:=H3,env:=env,outer:=X.stack,ex:=fp,fn:=fun _=>false,pn:=X.pn++pQ,xe:=fun _ _=>False }
variable{m0:Str->Ot vL}{tk:Nat}{σ':L2.St}
section
variable {X:Cx}{pQ:Li (Ad×Obj)}{σ:L2.St}{H H3:Hp}{s3:sH7}{sc2:Scope}{cl:Li (Str×Ad)}{fp:Li Ad}{N:Li Str}
theorem J2(I3:L2.Inv X pQ σ H3 s3){h4:Heap}(hk:sc2.kind=.function)(hcell:∀ p∈sc2.names,p.2≠.cell)(hns:h4.Ns s3.heap.objs.size m0)(up:∀ b u,s3.heap.get? b=some u->h4.get? b=some u)(c1:∀ y c,cl.lookup y=some c->X.env.cells.lookup y=some c)(c2:∀ y,sc2.names.lookup y=some .free->(cl.lookup y).isSome)(f3:∀ b∈fp,FpOk X pQ H3 b)(fb:∀ b∈fp,b < s3.heap.objs.size)(hσ:∀ (i:Nat) (y:Str) (v:V),N[i]?=some y->σ'[i]?=some (some v)->∃ j:Nat,X.N[j]?=some y/\σ[j]?=some (some v)/\sc2.names.lookup y=some .free/\(X.env.scope.names.lookup y=some .cell\/X.env.scope.names.lookup y=some .free))(hl:σ'.length=N.length) :
  L2.Inv (cxC X N (compEnvC sc2 cl s3.heap.objs.size X.env) s3 H3 fp pQ) [] σ' H3 { s3 with heap:=h4,toks:=tk } where
 ok:={
  mod:=I3.ok.mod
  kind:=hk
  glob:=I3.ok.glob
  blt:=I3.ok.blt
  above:=aD _
  inj:=fun x y c e e'=>I3.ok.inj x y c (c1 _ _ e) (c1 _ _ e')
  has:=fun x h=>by
   have e:=W7 (env:=X.env) hcell h;have:=c2 x e;cases q:cl.lookup x with
   |none=>rw[q]at this;cases this
   |some c=>exact⟨c,q⟩
  cab:=fun x c h=>nomatch h
  hd:=I3.ok.hd
  frames:=I3.ok.frames
  stk:=.inl rfl
  exf:=fun b hb=>⟨aX (fb b hb),fun x c e=>(f3 b hb).2.2.2.2.1 x c (c1 _ _ e)⟩
  bs:=I3.bs
  bsz:=aM I3.ok.bsz I3.sz
  noex:=fun b o e hb=>by
   rcases (f3 b hb).2.2.2.1 with z|z
   ·exact I3.ok.noex b o e z
   ·exact absurd (aS (aK e) (aM I3.ok.bsz z)) (bZ _)
  exfs:=fun b hb hs=>by
   rcases aG.mp (I3.stkSub b hs) with z|z
   ·exact(f3 b hb).2.1 z
   ·exact(f3 b hb).2.2.1 z
  funs:=I3.stack
  frf:=I3.stkFree }
 os:=rfl
 bare:=I3.bare
 base:=Un.kept up
 loc:=⟨m0,hns,fun i y v e1 e2 e3=>by
  obtain⟨j,g1,g2,g3,g4⟩:=hσ i y v e1 e2;obtain⟨m,hn,hl'⟩:=I3.loc;obtain⟨u,r,l⟩:=hl' j y v g1 g2 (.inr g4);refine⟨u,r,.inr ⟨YG g3,?_⟩⟩;rcases l with⟨z,_⟩|⟨_,c,e,z⟩
  ·have z':X.env.scope.names.lookup y=some .local:=z
   rcases g4 with w|w<;>(rw[z']at w;cases w)
  ·have q:=c2 y g3
   cases q':cl.lookup y with
   |none=>rw[q']at q;cases q
   |some c'=>
    have:=c1 _ _ q';rw[e]at this;cases this
    obtain⟨o,ho,hd⟩:=z;exact⟨c,q',o,up c o ho,hd⟩⟩
 cell:=fun y c e=>by
  obtain⟨v,o,ho,hd⟩:=I3.cell y c (c1 _ _ e);exact⟨v,o,up c o ho,hd⟩
 free:=I3.hok.fresh (aD _)
 freeC:=fun y c e=>I3.freeC y c (c1 _ _ e)
 pin:=fun p hp=>by
  have hp':p∈X.pn++pQ:=by simpa[cxC] using hp
  obtain⟨e,n,ne,nf,d⟩:=I3.pin p hp';refine⟨up _ _ e,n,aX (aK e),fun hs=>?_,d⟩
  rcases aG.mp (I3.stkSub _ hs) with z|z
  ·exact ne z
  ·exact nf z
 hok:=I3.hok.kept up
 len:=hl
theorem J1(I3:L2.Inv X pQ σ H3 s3){pins':Li (Ad×Obj)}{H':Hp}{s':sH7}(hC:env.locals=s3.heap.objs.size)(I':L2.Inv (cxC X N env s3 H3 fp pQ) pins' σ' H' s')(sb:Heap.SameBut s3.heap.objs.size s'.heap h')(f3:∀ b∈fp,FpOk X pQ H3 b):L2.Inv X pQ σ H' { s' with heap:=h' }:=by
 have u:Un (frs X.stack) fp H3 H' s3.heap s'.heap:=I'.base;have ne:∀ b o,s3.heap.get? b=some o->b≠s3.heap.objs.size:=fun b o e=>aX (aK e)
 have fr:H' s3.heap.objs.size=none:=by have:=I'.free;rw[show(cxC X N env s3 H3 fp pQ).env.locals=s3.heap.objs.size from hC]at this;exact this
 refine I3.call' (s':={ s' with heap:=h' }) (ch:=fp) I'.os ⟨fun b o e n hb hx=>?_,fun b o e n hb hx=>?_,u.free,fun b o e hx=>?_,u.tups,u.frzs,u.tbls⟩ (fun b ob e=>?_) I'.bare (fun b hb=>?_)
 ·exact(sb.2 b (ne b o e)).trans (u.keep b o e n hb hx)
 ·obtain⟨sl,e1⟩:=u.slot b o e n hb hx
  exact⟨sl,(sb.2 b (ne b o e)).trans e1⟩
 ·obtain⟨o',e1⟩:=u.there b o e hx
  exact⟨o',(sb.2 b (ne b o e)).trans e1⟩
 ·refine(I'.hok b ob e).stay (fun c w' hc q=>(sb.2 c ?_).trans q) (fun _ q=>q) fun _ _ q=>q
  rintro rfl
  rcases hc with rfl|hc
  ·rw[fr]at e;cases e
  ·rw[fr]at hc;cases hc
 ·exact⟨(f3 b hb).2.2.2.1,(f3 b hb).2.1,(f3 b hb).2.2.2.2.1,(f3 b hb).2.2.2.2.2⟩
end
variable [ClsTab]
theorem Wr{N:Li Str}:∀ {l:Li Str}{fr:Li Nat},YY N l=some fr->fr.length=l.length/\∀ (i:Nat) (k:Nat),fr[i]?=some k->∃ y,l[i]?=some y/\N[k]?=some y
 |[],fr,h=>by cases h;exact⟨rfl,fun i k e=>by simp at e⟩
 |x :: r,fr,h=>by
  unfold YY at h;split at h
  ·rename_i a as e1 e2
   cases h;obtain⟨h1,h2⟩:=Wr e2;refine⟨by simp[h1],fun i k e=>?_⟩
   cases i with
   |zero=>simp at e;subst e;exact⟨x,rfl,Xf e1⟩
   |succ i=>exact h2 i k (by simpa using e)
  ·exact Zb h
theorem StOk.lt{s:sH7}{ad:Li Ad}{a:Ad}(I:L2.Inv X pQ σ H s)(S:StOk X.K ad H st)(h:a∈ad):a < s.heap.objs.size:=by
 obtain⟨i,hi,e⟩:=List.getElem_of_mem h;rcases S.has (show ad[i]?=some a by rw[lG7 hi,e]) with⟨o,q⟩|⟨o,q⟩
 ·exact I.hok.lt q
 ·exact aK (I.kIn a o q)
variable{fr:Li Nat}
theorem Jx{K:fG7}{ad:Li Ad}{bs:L2.St}{b:D->Li (Ot D)}(E:EnvOk K ad H σ ρ)(hd:EnvOk K ad H bs (b d)):EnvOk K ad H (bs++fr.map fun i=>(σ[i]?).join) (ZK b ρ fr d):=by
 refine⟨by simp[ZK,hd.len],fun i e h=>?_⟩
 unfold ZK at h;by_cases hi:i < (b d).length
 ·rw[bS hi]at h
  rw[bS (by rw[hd.len];exact hi)]
  exact hd.at_ i e h
 ·have hi:(b d).length<=i:=dP hi
  rw[cB hi,aR]at h;rw[cB (by rw[hd.len];exact hi),aR,hd.len]
  cases q:fr[i - (b d).length]? with
  |none=>rw[q]at h;cases h
  |some k=>
   rw[q]at h;have h:(ρ[k]?).join=some e:=by simpa using h
   have h2:ρ[k]?=some (some e):=by
    cases z:ρ[k]? with
    |none=>rw[z]at h;cases h
    |some o=>rw[z]at h;rw[show o=some e from h]
   obtain⟨w,e1,e2⟩:=E.at_ k e h2;exact⟨w,by simp[e1],e2⟩
def Xb(K:fG7)(tg:Expr)(xs:Li Str)(b:D->Li (Ot D))(ds:Li D):Prop:=
 ∀ X:Cx,X.K=K->X.calm=true->X.N.Nodup->(∀ (i:Nat) x,xs[i]?=some x->X.N[i]?=some x)->(∀ y∈xs,X.env.scope.names.lookup y=some .local)->∀ (pQ:Li (Ad×Obj)) (s:sH7) (os fv:L2.St) (H:Hp) (ad:Li Ad) (v:V) (u:vL) (d:D),os.length=xs.length->L2.Inv X pQ (os++fv) H s->RelV v u->Den K ad H v d->d∈ds->
  wpAny (model X.prog X.w) X.A (assign tg X.env u) (fun _ s'=>∃ bs,bs.length=xs.length/\EnvOk K ad H bs (b d)/\L2.Inv X pQ (bs++fv) H s') X.xe s
variable{px:Pos}
theorem Vl{K:fG7}{x:Str}:Xb K (.Name x px) [x] one ds:=by
 intro X hK hc hN hx hl pQ s os fv H ad v u d ho I r dv _;obtain⟨o,rfl⟩:∃ o,os=[o]:=by match os,ho with|[o],_=>exact⟨o,rfl⟩
 have lx:=hl x lQ7;have pg:PG X (.Name x px) (gName 0):=pg_name hN (hx 0 x rfl) (.inl lx) (.inr lx);refine thn (pg pQ s _ H v u (fun σ' H'=>σ'=[some v]++fv/\H'=H) I r ⟨rfl,rfl⟩) fun _ s' ⟨σ',H',I',e,e'⟩=>?_
 subst e;subst e'
 exact⟨[some v],rfl,⟨rfl,fun i e h=>by
  cases i with
  |zero=>cases h;exact⟨v,rfl,dv⟩
  |succ i=>exact nomatch (show(none:Ot (Ot D))=some (some e) from h)⟩,I'⟩
variable{py:Pos}
theorem X4{K:fG7}{x y:Str}{k:Nat}{ds:Li D}(hds:∀ d∈ds,∃ a b,d=.tup [a,b]):Xb K (.Tuple [.Name x px,.Name y py] k tp) [x,y] two ds:=by
 intro X hK hc hN hx hl pQ s os fv H ad v u d ho I r dv hd;obtain⟨o,o',rfl⟩:∃ o o',os=[o,o']:=by match os,ho with|[o,o'],_=>exact⟨o,o',rfl⟩
 obtain⟨a,b,rfl⟩:=hds d hd;have lx:=hl x lQ7;have ly:=hl y (lM7 _ lQ7);have g1:PG X (.Name x px) (gName 0):=pg_name hN (hx 0 x rfl) (.inl lx) (.inr lx);have g2:PG X (.Name y py) (gName 1):=pg_name hN (hx 1 y rfl) (.inl ly) (.inr ly);have pg:PG X (.Tuple [.Name x px,.Name y py] k tp) _:=pg_tup hc (pgs_cons g1 (pgs_cons g2 pgs_nil))
 obtain⟨p,vs,rfl,ha,rv⟩:=dv.ofTup;cases rv with
 |cons da rv=>cases rv with
  |cons db rv=>
   cases rv;rename_i va vb;refine thn (pg pQ s _ H _ u (fun σ' H'=>σ'=[some va,some vb]++fv/\H'=H) I r ⟨p,[va,vb],rfl,by rw[hK];exact ha.sq,rfl,va,[vb],rfl,vb,[],rfl,rfl,rfl,rfl⟩) fun _ s' ⟨σ',H',I',e,e'⟩=>?_
   subst e;subst e'
   exact⟨[some va,some vb],rfl,⟨rfl,fun i e h=>by
    cases i with
    |zero=>cases h;exact⟨va,rfl,da⟩
    |succ i=>cases i with
     |zero=>cases h;exact⟨vb,rfl,db⟩
     |succ i=>exact nomatch (show(none:Ot (Ot D))=some (some e) from h)⟩,I'⟩
theorem Ue{K:fG7}{x y:Str}{pz:Pos}{k:Nat}{ds:Li D}(hds:∀ d∈ds,∃ a b c,d=.tup [a,b,c]):Xb K (.Tuple [.Name x px,.Name y py,.Name z pz] k tp) [x,y,z] Qi ds:=by
 intro X hK hc hN hx hl pQ s os fv H ad v u d ho I r dv hd;obtain⟨o,o',o2,rfl⟩:∃ o o' o2,os=[o,o',o2]:=by match os,ho with|[o,o',o2],_=>exact⟨o,o',o2,rfl⟩
 obtain⟨a,b,c,rfl⟩:=hds d hd;have lx:=hl x lQ7;have ly:=hl y (lM7 _ lQ7);have lz:=hl z (lM7 _ (lM7 _ lQ7));have g1:PG X (.Name x px) (gName 0):=pg_name hN (hx 0 x rfl) (.inl lx) (.inr lx);have g2:PG X (.Name y py) (gName 1):=pg_name hN (hx 1 y rfl) (.inl ly) (.inr ly);have g3:PG X (.Name z pz) (gName 2):=pg_name hN (hx 2 z rfl) (.inl lz) (.inr lz)
 have pg:PG X (.Tuple [.Name x px,.Name y py,.Name z pz] k tp) _:=pg_tup hc (pgs_cons g1 (pgs_cons g2 (pgs_cons g3 pgs_nil)));obtain⟨p,vs,rfl,ha,rv⟩:=dv.ofTup;cases rv with
 |cons da rv=>cases rv with
  |cons db rv=>cases rv with
   |cons dc rv=>
    cases rv;rename_i va vb vc;refine thn (pg pQ s _ H _ u (fun σ' H'=>σ'=[some va,some vb,some vc]++fv/\H'=H) I r ⟨p,[va,vb,vc],rfl,by rw[hK];exact ha.sq,rfl,va,[vb,vc],rfl,vb,[vc],rfl,vc,[],rfl,rfl,rfl,rfl⟩) fun _ s' ⟨σ',H',I',e,e'⟩=>?_
    subst e;subst e'
    exact⟨[some va,some vb,some vc],rfl,⟨rfl,fun i e h=>by
     cases i with
     |zero=>cases h;exact⟨va,rfl,da⟩
     |succ i=>cases i with
      |zero=>cases h;exact⟨vb,rfl,db⟩
      |succ i=>cases i with
       |zero=>cases h;exact⟨vc,rfl,dc⟩
       |succ i=>exact nomatch (show(none:Ot (Ot D))=some (some e) from h)⟩,I'⟩
variable{s3 s2:sH7}{ce cc:CE}{bd:D->Li (Ot D)}{J:It}{tn:Nat->Heap->Prop}{Good:Li Ad->Hp->Prop}{ad2:Li Ad}{H2:Hp}{use:Ot (vL->Sem Unit)}{R0:vL->sH7->Prop}{st1:Za}
section
variable {X:Cx}{G:Gs}{F:Nat->Fn}{sc sc2:Scope}{N xs:Li Str}
theorem Yb(h:YO sc sc2 xs=true):sc2.kind=.function/\(∀ p∈sc2.names,p.2≠.cell)/\(∀ x∈xs,sc2.names.lookup x=some .local)/\(∀ p∈sc2.names,p.2=.local->sc2.names.lookup p.1=some .local)/\(xs++ZH sc2).Nodup/\∀ y∈ZH sc2,Wg sc y=true/\sc2.names.lookup y=some .free:=by
 unfold YO at h;simp only[bA7,decide_eq_true_eq,cC,bW,cT,decide_eq_false_iff_not]at h;obtain⟨⟨⟨⟨⟨h1,h2⟩,h3⟩,h4⟩,h5⟩,h6⟩:=h;exact⟨h1,h2,h3,fun p hp e=>(h4 p hp).elim (fun z=>absurd e z) id,h5,h6⟩
theorem mem_frees{y:Str}:y∈ZH sc2↔(y,NameKind.free)∈sc2.names:=by
 unfold ZH;rw[bB];constructor
 ·rintro⟨⟨n,k⟩,h,rfl⟩
  rw[cW]at h;have:k=.free:=of_decide_eq_true h.2;rw[<-this];exact h.1
 ·intro h
  exact⟨(y,.free),cW.mpr ⟨h,by simp⟩,rfl⟩
theorem mem_of_lookup{y:Str}{k:NameKind}:∀ {l:Li (Str×NameKind)},l.lookup y=some k->(y,k)∈l
 |[],h=>by cases h
 | (n,q) :: l,h=>by
  rw[bO]at h;split at h
  ·rename_i e
   cases h;rw[beq_iff_eq.mp e];exact lQ7
  ·exact lM7 _ (mem_of_lookup h)
theorem Jt(Kx:Cxt X G F sc N)(hsc:YO sc sc2 xs=true){cl:Li (Str×Ad)}{C:Ad}{H3:Hp}{fp:Li Ad}:Cxt (cxC X (xs++ZH sc2) (compEnvC sc2 cl C X.env) s3 H3 fp pQ) G F sc2 (xs++ZH sc2):=by
 obtain⟨h1,h2,h3,h4,h5,h6⟩:=Yb hsc;exact {
  hN:=rfl
  vis:=fun y hy=>by
   rcases ZaP hy with z|z|z
   ·exact .inl (Yw z (by intro q;cases q))
   ·exact absurd rfl (h2 _ (mem_of_lookup z))
   ·rcases YG (env:=X.env) z with w|w
    ·exact .inr (.inl w)
    ·exact .inr (.inr w)
  glb:=fun y hy=>Yw (UW hy) (by intro q;cases q)
  calm:=Kx.calm
  hu:=Kx.hu
  gl:=Kx.gl
  cel:=fun y hy=>by
   rcases UR hy with z|z
   ·exact absurd rfl (h2 _ (mem_of_lookup z))
   ·exact YG z
  nx:=rfl }
theorem Jo{ok:Za->Prop}{f c:D->Za->Res}{xs:Li D}{r:Li D×Za}(h:ZM ok f c xs st=some r):ok st:=by
 unfold ZM at h;split at h
 ·split at h
  ·assumption
  ·exact Zb h
 ·split at h
  ·assumption
  ·exact Zb h
noncomputable def evB(F:Nat->Fn)(c:CE)(b:D->Li (Ot D))(ρ:Env)(fr:Li Nat):D->Za->Res:=fun d s=>ev F c (ZK b ρ fr d) s
inductive CI(X:Cx)(tn:Nat->Heap->Prop)(fp:List Addr)(fv σ:L2.St)(ρ:Env)(w:Nat)(ds:List D)(go:List D->Za->Option (List D×Za))(Good:List Addr->Hp->Prop)(dd:Addr)(ad2:List Addr)(H2:Hp)(st':Za)(ys:List D)(m:Nat)(s:Shared):Prop
 |mk (i:Nat) (o0:L2.St) (H:Hp) (ad:List Addr) (st:Za) (vs:List V) (es zs:List D) (him:i+m=ds.length) (hol:o0.length=w) (I:L2.Inv X [] (o0++fv) H s) (ti:tn i s.heap) (fi:∀ b∈fp,H b=none) (En:EnvOk X.K ad H σ ρ) (S:StOk X.K ad H st) (Gd:Good ad H) (nd:dd∉ad) (hv:H dd=some (.lst vs)) (rv:Dens X.K ad H vs es) (hel:es.length<=i)
  (hcp:go (ds.drop i) st=some (zs,st')) (hys:es++zs=ys) (ex:Ext ad2 H2 ad H):CI X tn fp fv σ ρ w ds go Good dd ad2 H2 st' ys m s
theorem QE(Kx:Cxt X G F sc2 N)(ihE:Zm G F n)(hce:cE G n sc2 N elt=some ce)(hcc:(ifs=[]/\cc=.c (.bl true))\/∃ e,ifs=[e]/\cE G n sc2 N e=some cc){fp:Li Ad}{it:Ad}{ok:Za->Prop}(gm:∀ ad H ad' H',Ext ad H ad' H'->Good ad H->Good ad' H')(gw:∀ ad H p xs ys,H p=some (.lst xs)->Good ad H->Good ad (upd H p (.lst ys)))(go:∀ i ad H st,Good ad H->StOk X.K ad H st->ok st->i < ds.length->J.go i H)(stop:∀ i ad H st,Good ad H->StOk X.K ad H st->ok st->ds.length=i->J.stop i H)(yl:∀ i ad H st v H',Good ad H->StOk X.K ad H st->ok st->J.yld i H v H'->i < ds.length->Ext ad H ad H'/\StOk X.K ad H' st/\∃ d,ds[i]?=some d/\Den X.K ad H' v d)(T:Turn X.prog X.w X.K tg J fp it tn)(B:Xb X.K tg xs bd ds)(hN:X.N.Nodup)(hx:∀ (i:Nat) x,xs[i]?=some x->X.N[i]?=some x)(hl:∀ y∈xs,X.env.scope.names.lookup y=some .local)(exx:X.xe=fun _ _=>False)(fpk:∀ {H:Hp},(∀ b∈fp,H b=none)->∀ b∈fp,FpOk X [] H b){fv:L2.St}(ec:∀ {ad H bs d},EnvOk X.K ad H σ ρ->EnvOk X.K ad H bs (bd d)->EnvOk X.K ad H (bs++fv) (ZK bd ρ fr d)){dd:Ad}{ys:Li D}(D0:H2 dd=none)(hz:ds.length<=1000){R:Result->sH7->Prop}(done:∀ s5 σ5 H ad vs,L2.Inv X [] σ5 H s5->StOk X.K ad H st'->dd∉ad->H dd=some (.lst vs)->Dens X.K ad H vs ys->Ext ad2 H2 ad H->R (.ok .next) s5){s:sH7}{m:Nat}(h0:CI X tn fp fv σ ρ xs.length ds (ZM ok (evB F ce bd ρ fr) (evB F cc bd ρ fr)) Good dd ad2 H2 st' ys m s) :
  codeAny (model X.prog X.w) X.A (.compLoop (.ListComp elt [⟨tg,iter,ifs,0⟩] sc2 pos) 0 (.ref it) (.ref dd) X.env) R s:=by
 refine Vq _ (fun m s h=>?_) m h0
 cases h with
 |mk i o0 H ad st vs es zs him hol I ti fi En S Gd nd hv rv hel hcp hys ex=>
 have oks:=Jo hcp;have none_of:∀ {E:vL->sH7->Prop}{α:Type}{t:Sem α}{R:α->sH7->Prop}{s0:sH7},wpAny (model X.prog X.w) X.A t R X.xe s0->wpAny (model X.prog X.w) X.A t R E s0:=fun h=>by
  rw[exx]at h;exact bK h (fun _ _ q=>q) fun _ _ q=>q.elim
 by_cases hi:i < ds.length
 ·refine thn (T.item X rfl rfl rfl Kx.calm i [] s _ H _ I (fpk fi) ti (go i ad H st Gd S oks hi)) fun r s5 ⟨u,hr,h5'⟩=>?_
  subst hr;refine thn h5' fun _ s6 ⟨v,H',I6,r6,y6,t6,f6⟩=>?_
  obtain⟨x6,S6,d,ed,dv⟩:=yl i ad H st v H' Gd S oks y6 hi;have hd:ds.drop i=d :: ds.drop (i+1):=by
   rw[cI hi];rw[lG7 hi]at ed;cases ed;rfl
  refine thn (none_of (B X rfl Kx.calm hN hx hl _ s6 o0 _ H' ad v u _ hol (I6.pinned (fpk f6) (T.obj _ _ t6)) r6 dv (aV ed))) fun _ s7 ⟨bs,lb,Eb,I7⟩=>?_
  have En6:=En.mono x6;have En7:=ec En6 Eb
  -- behind the item's turn
  have again:∀ {H9:Hp}{s9:sH7}{ad9:Li Ad}{st9:Za}{vs9:Li V}{es9 zs9:Li D},L2.Inv X ([]++pinsAt fp s6.heap) (bs++fv) H9 s9->StOk X.K ad9 H9 st9->Good ad9 H9->dd∉ad9->H9 dd=some (.lst vs9)->Dens X.K ad9 H9 vs9 es9->es9.length<=i+1->
    ZM ok (evB F ce bd ρ fr) (evB F cc bd ρ fr) (ds.drop (i+1)) st9=some (zs9,st')->es9++zs9=ys->Ext ad2 H2 ad9 H9->EnvOk X.K ad9 H9 σ ρ->
    ∃ m',m' < m/\CI X tn fp fv σ ρ xs.length ds (ZM ok (evB F ce bd ρ fr) (evB F cc bd ρ fr)) Good dd ad2 H2 st' ys m' s9:=
   fun I9 S9 G9 n9 v9 r9 l9 c9 y9 x9 e9=>
    have pk:=fun b hb o e=>I9.pin (b,o) (cA _ (cA _ (mem_pinsAt hb e)))
    ⟨m - 1,by omega,.mk (i+1) bs _ _ _ _ _ _ (by omega) lb I9.unpinned (T.keep _ _ _ t6 fun b hb o e=>(pk b hb o e).1) (fun b hb=>let ⟨o,e,_⟩:=T.obj _ _ t6 b hb;(pk b hb o e).2.1) e9 S9 G9 n9 v9 r9 l9 c9 y9 x9⟩
  -- the tests
  have tests:∀ {k:Bool}{st2:Za},evB F cc bd ρ fr d st=some (.bl k,st2)->∀ {R:Bool->sH7->Prop}{E:vL->sH7->Prop},(∀ s8 H8 ad8,L2.Inv X ([]++pinsAt fp s6.heap) (bs++fv) H8 s8->Ext ad H' ad8 H8->StOk X.K ad8 H8 st2->R k s8)->
    wpAny (model X.prog X.w) X.A (forIn ifs true fun c r=>if r=true then do let ok <-isTrue c X.env (eval c X.env);pure (ForInStep.yield ok) else pure (ForInStep.yield r)) R E s7:=fun {k st2} q {R E} hR=>by
   rcases hcc with⟨rfl,rfl⟩|⟨e,rfl,he⟩
   ·cases q
    exact wpAny_tests_nil (hR s7 H' ad I7 (Ext.refl _ _) S6)
   ·refine wpAny_tests_one (thn (none_of ((ihE X sc2 _ Kx e cc he).pt _ s7 _ H' (fun k' H8=>k'=k/\∃ ad8,Ext ad H' ad8 H8/\StOk X.K ad8 H8 st2) I7 ⟨ad,ZK bd ρ fr d,st,k,st2,En7,S6,q,fun ad' H' x S'=>⟨rfl,ad',x,S'⟩⟩)) fun k' s8 ⟨H8,I8,e8,ad8,x8,S8⟩=>?_)
    subst e8;exact hR s8 H8 ad8 I8 x8 S8
  have n8:∀ {ad8 H8},Ext ad H' ad8 H8->dd∉ad8:=fun x8 z=>((x6.trans x8).new dd z).elim nd fun w=>by rw[hv]at w;cases w
  have v8:∀ {ad8 H8},Ext ad H' ad8 H8->H8 dd=some (.lst vs):=fun x8=>(x6.trans x8).keep dd _ hv nd
  have rv6:=rv.mono x6;have ex6:=ex.trans x6;have G6:=gm _ _ _ _ x6 Gd;clear x6 En Eb ex Gd S I hv rv;rw[hd]at hcp;unfold ZM at hcp;rw[if_pos oks]at hcp;split at hcp
  ·rename_i st2 q1
   split at hcp
   ·rename_i y st3 q2
    split at hcp
    ·rename_i zs' st4 q3
     cases hcp;refine tests q1 fun s8 H8 ad8 I8 x8 S8=>?_
     rw[if_pos rfl];refine thn (none_of ((ihE X sc2 _ Kx elt ce hce).pe _ s8 _ H8 (fun v8 H9=>∃ ad9,Ext ad8 H8 ad9 H9/\StOk X.K ad9 H9 st3/\Den X.K ad9 H9 v8 y) I8 ⟨ad8,ZK bd ρ fr d,st2,y,st3,En7.mono x8,S8,q2,fun v8 ad' H' x S' dn=>⟨ad',x,S',dn⟩⟩)) fun u9 s9 ⟨v9,H9,I9,r9,ad9,x9,S9,d9⟩=>?_
     have x89:=x8.trans x9;have hv9:=v8 x89;have hlen:vs.length=es.length:=rv6.length;refine thn (none_of (mt_append (X:=X) _ s9 _ H9 (.ref dd) [v9] (.ref dd) [u9] (fun _ H10=>H10=upd H9 dd (.lst (vs++[v9]))) I9 rfl (.cons r9 .nil) ⟨dd,vs,v9,rfl,rfl,hv9,Nat.lt_of_le_of_lt (show vs.length<=1000 by omega) (by decide),rfl⟩)) fun u10 s10 ⟨v10,H10,I10,r10,e10⟩=>?_
     subst e10;have nd9:=n8 x89;exact again (vs9:=vs++[v9]) (es9:=es++[y]) (zs9:=zs') I10 (S9.wr hv9 nd9) (gw _ _ _ _ _ hv9 (gm _ _ _ _ x89 G6)) nd9 upd_same (((rv6.mono x89).append (.cons d9 .nil)).wr hv9) (by rw[aI,dZ];omega) q3 (by rw[<-hys,bF];rfl) ((ex6.trans x89).wr hv9 D0) ((En6.mono x89).wr hv9)
    ·exact Zb hcp
   ·exact Zb hcp
  ·rename_i st2 q1
   refine tests q1 fun s8 H8 ad8 I8 x8 S8=>?_
   rw[if_neg bF7];exact again I8 S8 (gm _ _ _ _ x8 G6) (n8 x8) (v8 x8) (rv6.mono x8) (by omega) hcp hys (ex6.trans x8) (En6.mono x8)
  ·exact Zb hcp
 ·refine thn (T.done X rfl rfl rfl Kx.calm i [] s _ H _ I (fpk fi) ti (stop i ad H st Gd S oks (by omega))) fun r s5 ⟨hr,I5⟩=>?_
  subst hr;rw[List.drop_eq_nil_of_le (dP hi)]at hcp;unfold ZM at hcp;rw[if_pos oks]at hcp;cases hcp;rw[aW]at hys;subst hys;exact done s5 _ H ad vs I5 S nd hv rv ex
theorem Uh(Kx:Cxt X G F sc N)(ihE:Zm G F n)(hsc:YO sc sc2 xs=true)(hfr:YY N (ZH sc2)=some fr)(hce:cE G n sc2 (xs++ZH sc2) elt=some ce)(hcc:(ifs=[]/\cc=.c (.bl true))\/∃ e,ifs=[e]/\cE G n sc2 (xs++ZH sc2) e=some cc){cl:Li (Str×Ad)}(c1:∀ y c,cl.lookup y=some c->X.env.cells.lookup y=some c)(c2:∀ y,(y,NameKind.free)∈sc2.names->(cl.lookup y).isSome){fp:Li Ad}{it:Ad}{ok:Za->Prop}(gm:∀ ad H ad' H',Ext ad H ad' H'->Good ad H->Good ad' H')(gw:∀ ad H p xs ys,H p=some (.lst xs)->Good ad H->Good ad (upd H p (.lst ys)))(go:∀ i ad H st,Good ad H->StOk X.K ad H st->ok st->i < ds.length->J.go i H)(stop:∀ i ad H st,Good ad H->StOk X.K ad H st->ok st->ds.length=i->J.stop i H)(yl:∀ i ad H st v H',Good ad H->StOk X.K ad H st->ok st->J.yld i H v H'->i < ds.length->Ext ad H ad H'/\StOk X.K ad H' st/\∃ d,ds[i]?=some d/\Den X.K ad H' v d){dd:Ad}{h₁:Heap}{ys:Li D}(B:Xb X.K tg xs bd ds)(T:Turn X.prog X.w X.K tg J fp it tn)(t2:tn 0 s2.heap)(f2:∀ b∈fp,FpOk X pQ H2 b)(fb:∀ b∈fp,b < dd)(E2:EnvOk X.K ad2 H2 σ ρ)(S2:StOk X.K ad2 H2 st1)(g2:Good ad2 H2)(hcomp:ZM ok (fun d s=>ev F ce (ZK bd ρ fr d) s) (fun d s=>ev F cc (ZK bd ρ fr d) s) ds st1=some (ys,st'))(hz:ds.length<=1000)(hp:Post X.K ad2 H2 (.lst st'.length) (st'++[(true,ys)]) Q)(hend:∀ C dd s5 H5 m',s5.heap.Ns C m'->(∀ h',Heap.SameBut C s5.heap h'->L2.Inv X pQ σ H5 { s5 with heap:=h' })->FpOk X pQ H5 C->Q (.ref dd) H5->compPost (model X.prog X.w) X.A X.xe use R0 (.ref dd) C (.ok .next) s5)  (D0:H2 dd=none) (I3:L2.Inv X pQ σ (upd H2 dd (.lst [])) s3) (z3:s3.heap.objs.size=dd+1) (nad:dd∉ad2) (hns₁:h₁.Ns s3.heap.objs.size m0) (up:∀ b u,s3.heap.get? b=some u->h₁.get? b=some u) (up0:∀ b u,s2.heap.get? b=some u->s3.heap.get? b=some u) :
  codeAny (model X.prog X.w) X.A (.compStart (.ListComp elt [⟨tg,iter,ifs,0⟩] sc2 pos) 0 (.ref it) (.ref dd) (compEnvC sc2 cl s3.heap.objs.size X.env)) (compPost (model X.prog X.w) X.A X.xe use R0 (.ref dd) s3.heap.objs.size) { s3 with heap:=h₁,toks:=tk }:=by
 obtain⟨h1,h2,h3,h4,h5,h6⟩:=Yb hsc;have f3:∀ b∈fp,FpOk X pQ (upd H2 dd (.lst [])) b:=fun b hb=>⟨by rw[upd_ne (aX (fb b hb))];exact(f2 b hb).1,(f2 b hb).2⟩
 obtain⟨fl,fg⟩:=Wr hfr;have I4:=J2 (N:=xs++ZH sc2) (cl:=cl) (fp:=fp) (tk:=tk) (σ':=List.replicate xs.length none++fr.map fun i=>(σ[i]?).join) I3 h1 h2 hns₁ up c1 (fun y e=>c2 y (mem_of_lookup e)) f3 (fun b hb=>by rw[z3];exact Nat.lt_succ_of_lt (fb b hb)) (fun i y v e1 e2=>by
  by_cases hi:i < xs.length
  ·rw[bS (by simpa using hi),dY,if_pos hi]at e2;cases e2
  ·have hi:xs.length<=i:=dP hi
   rw[cB (by simpa using hi),aR,bT]at e2
   rw[cB hi]at e1;cases q:fr[i - xs.length]? with
   |none=>rw[q]at e2;cases e2
   |some k=>
    rw[q]at e2;have e2:(σ[k]?).join=some v:=by simpa using e2
    have e3:σ[k]?=some (some v):=by
     cases w:σ[k]? with
     |none=>rw[w]at e2;cases e2
     |some o=>rw[w]at e2;rw[show o=some v from e2]
    obtain⟨y',g1,g2⟩:=fg _ k q;rw[e1]at g1;cases g1
    obtain⟨k1,k2⟩:=h6 y (aV e1);exact⟨k,by rw[Kx.hN];exact g2,e3,k2,Kx.cel y k1⟩) (by simp[fl])
 have K':=Jt (cl:=cl) (C:=s3.heap.objs.size) (s3:=s3) (H3:=upd H2 dd (.lst [])) (fp:=fp) (pQ:=pQ) Kx hsc;have loop:=QE (R:=compPost (model X.prog X.w) X.A X.xe use R0 (.ref dd) s3.heap.objs.size) (pos:=pos) (iter:=iter) K' ihE hce hcc gm gw go stop yl T B h5 (fun i x e=>by show(xs++ZH sc2)[i]?=some x;rw[bS (bE.mp e).1];exact e) (fun y hy=>Yw (h3 y hy) (by intro q;cases q)) rfl (fun {H} hn b hb=>⟨hn b hb,by
  show b≠s3.heap.objs.size;rw[z3];exact aX (Nat.lt_succ_of_lt (fb b hb)),fun hs=>(aG.mp (I3.stkSub b hs)).elim (f2 b hb).2.1 (f2 b hb).2.2.1,.inl hb,fun y c e=>(f2 b hb).2.2.2.2.1 y c (c1 _ _ e),fun p hp=>(f2 b hb).2.2.2.2.2 p (by simpa[cxC] using hp)⟩) (σ:=σ) (ρ:=ρ) (fr:=fr) (fun a b=>Jx a b) (dd:=dd) (ad2:=ad2) (H2:=H2) (st':=st') (ys:=ys) D0 hz (fun s5 σ5 H ad vs I5 S nd hv rv ex=>by
   obtain⟨m',hn,_⟩:=I5.loc;refine hend s3.heap.objs.size dd s5 H m' hn (fun h' sb=>J1 I3 rfl I5 sb f3) (I3.fpOk (aD _) I5.free) (hp (.ref dd) (ad++[dd]) H ⟨fun j a e=>Y0 (ex.pre j a e),ex.tup,ex.keep,fun b hb=>?_,ex.kd⟩ (S.adopt hv nd rv) (.lst ⟨by rw[<-S.len];exact ZA,W6 hv rfl⟩))
   rcases bI.mp hb with z|z
   ·exact ex.new b z
   ·rw[aP.mp z];exact .inr D0)
  (.mk 0 (List.replicate xs.length none) (upd H2 dd (.lst [])) ad2 st1 [] [] ys (bD _) (bT ..) I4 (T.keep _ _ _ t2 fun b _ o e=>up b o (up0 b o e)) (fun b hb=>(f3 b hb).1) (E2.mono (Ext.laid D0)) (S2.laid D0) (gm _ _ _ _ (Ext.laid D0) g2) nad upd_same .nil (aD _) hcomp rfl (Ext.laid D0))
 exact codeAny_compStart_list loop (T.self X.A 0 _ _ _ (T.keep _ _ _ t2 fun b _ o e=>up b o (up0 b o e)) loop)
theorem QD(Kx:Cxt X G F sc N)(ihE:Zm G F n)(hsc:YO sc sc2 xs=true)(hfr:YY N (ZH sc2)=some fr)(hce:cE G n sc2 (xs++ZH sc2) elt=some ce)(hcc:(ifs=[]/\cc=.c (.bl true))\/∃ e,ifs=[e]/\cE G n sc2 (xs++ZH sc2) e=some cc){cl:Li (Str×Ad)}(c1:∀ y c,cl.lookup y=some c->X.env.cells.lookup y=some c)(c2:∀ y,(y,NameKind.free)∈sc2.names->(cl.lookup y).isSome){fp:Li Ad}{it:Ad}{ok:Za->Prop}(Good:Li Ad->Hp->Prop)(gm:∀ ad H ad' H',Ext ad H ad' H'->Good ad H->Good ad' H')(gw:∀ ad H p xs ys,H p=some (.lst xs)->Good ad H->Good ad (upd H p (.lst ys)))(go:∀ i ad H st,Good ad H->StOk X.K ad H st->ok st->i < ds.length->J.go i H)(stop:∀ i ad H st,Good ad H->StOk X.K ad H st->ok st->ds.length=i->J.stop i H)(yl:∀ i ad H st v H',Good ad H->StOk X.K ad H st->ok st->J.yld i H v H'->i < ds.length->Ext ad H ad H'/\StOk X.K ad H' st/\∃ d,ds[i]?=some d/\Den X.K ad H' v d){ys:Li D}(I2:L2.Inv X pQ σ H2 s2)(B:Xb X.K tg xs bd ds)(T:Turn X.prog X.w X.K tg J fp it tn)(t2:tn 0 s2.heap)(f2:∀ b∈fp,FpOk X pQ H2 b)(E2:EnvOk X.K ad2 H2 σ ρ)(S2:StOk X.K ad2 H2 st1)(g2:Good ad2 H2)(hcomp:ZM ok (fun d s=>ev F ce (ZK bd ρ fr d) s) (fun d s=>ev F cc (ZK bd ρ fr d) s) ds st1=some (ys,st'))(hz:ds.length<=1000)(hp:Post X.K ad2 H2 (.lst st'.length) (st'++[(true,ys)]) Q)(hend:∀ C dd s5 H5 m',s5.heap.Ns C m'->(∀ h',Heap.SameBut C s5.heap h'->L2.Inv X pQ σ H5 { s5 with heap:=h' })->FpOk X pQ H5 C->Q (.ref dd) H5->compPost (model X.prog X.w) X.A X.xe use R0 (.ref dd) C (.ok .next) s5) :
  wpAny (model X.prog X.w) X.A (newList []) (fun acc s₃=>wpAny (model X.prog X.w) X.A (newFunctionEnv sc2 X.env.globals cl [] X.env.qual none .none (some X.env)) (fun cenv s₄=>
   codeAny (model X.prog X.w) X.A (.compStart (.ListComp elt [⟨tg,iter,ifs,0⟩] sc2 pos) 0 (.ref it) acc { cenv with scope:=relabel sc2 X.env }) (compPost (model X.prog X.w) X.A X.xe use R0 acc cenv.locals) s₄) X.xe s₃) X.xe s2:=by
 obtain⟨h1,h2,h3,h4,h5,h6⟩:=Yb hsc;have fb:∀ b∈fp,b < s2.heap.objs.size:=fun b hb=>let ⟨o,e,_⟩:=T.obj 0 _ t2 b hb;aK e
 refine wpAny_newObj_type (wpAny_newFunctionEnv h2 (by intro y hy;simp at hy) (fun h₁ hns₁ hsb₁=>?_) h1)
 dsimp only at hns₁ hsb₁ ⊢;have I3:L2.Inv X pQ σ (upd H2 s2.heap.objs.size (.lst [])) { s2 with heap:=s2.heap.push { cls:=.type "list",dict:=none,data:=.seq ([]:Li vL).toArray } }:=I2.lnew (its:=[]) (t':=s2.toks) .nil (aU _)
 have e3:s2.heap.push { cls:=.type "list",dict:=none,data:=.seq ([]:Li vL).toArray }=({ s2 with heap:=s2.heap.push { cls:=.type "list",dict:=none,data:=.seq ([]:Li vL).toArray } }:sH7).heap:=rfl
 exact Uh Kx ihE hsc hfr hce hcc c1 c2 gm gw go stop yl B T t2 f2 fb E2 S2 g2 hcomp hz hp hend (I2.hok.fresh (aD _)) I3 (Heap.size_push ..) (fun z=>absurd (S2.lt I2 z) (bZ _)) hns₁ (fun b u e=>hsb₁.extBut b u (aX (aK e)) (aQ _ e)) (fun b u e=>aQ _ e)
end
variable [ClsTab]
def Qp(X:Cx)(σ:L2.St)(ρ:Env)(ds:Li D)(ok:Za->Prop)(st1 st2:Za)(ys:Li D)(Q:VK)(J:It)(H1:Hp):Prop:=
 ∃ (ad1:Li Ad) (Good:Li Ad->Hp->Prop),(∀ ad H ad' H',Ext ad H ad' H'->Good ad H->Good ad' H')/\(∀ ad H p xs ys,H p=some (.lst xs)->Good ad H->Good ad (upd H p (.lst ys))) /\
  (∀ i ad H st,Good ad H->StOk X.K ad H st->ok st->i < ds.length->J.go i H)/\(∀ i ad H st,Good ad H->StOk X.K ad H st->ok st->ds.length=i->J.stop i H)/\(∀ i ad H st v H',Good ad H->StOk X.K ad H st->ok st->J.yld i H v H'->i < ds.length->Ext ad H ad H'/\StOk X.K ad H' st/\∃ d,ds[i]?=some d/\Den X.K ad H' v d) /\
  EnvOk X.K ad1 H1 σ ρ/\StOk X.K ad1 H1 st1/\Good ad1 H1/\Post X.K ad1 H1 (.lst st2.length) (st2++[(true,ys)]) Q
variable{st2:Za}
theorem X5{ys:Li D}{ad:Li Ad}{f:Ev}(E:EnvOk X.K ad H σ ρ)(S:StOk X.K ad H st)(q:f ρ st=some (.tup ds,st1))(p:Post X.K ad H (.lst st2.length) (st2++[(true,ys)]) Q) :
  iTup X.K (tE X.K f) σ H (Qp X σ ρ ds (fun _=>True) st1 st2 ys Q):=by
 refine⟨ad,ρ,st,.tup ds,st1,E,S,q,fun v ad1 H1 x1 S1 d1=>?_⟩
 obtain⟨a,vs,rfl,ha,rv⟩:=d1.ofTup;refine⟨a,rfl,⟨vs,(ha).sq⟩,ad1,fun ad H=>TupAt X.K H a vs/\Dens X.K ad H vs ds,fun _ _ _ _ x g=>⟨g.1.mono x,g.2.mono x⟩,fun _ H p xs ys hp g=>⟨g.1.upd hp (by intro xs z;cases z),g.2.wr hp⟩,fun i ad H st g _ _ hi=>?_,fun i ad H st g _ _ hi=>⟨vs,(g.1).sq,by rw[g.2.length];exact cL hi⟩,
  fun i ad H st v H' g S _ y hi=>?_,E.mono x1,S1,⟨ha,rv⟩,p.later x1⟩
 ·obtain⟨v,e,_⟩:=g.2.get (lG7 hi)
  exact⟨vs,v,(g.1).sq,e⟩
 ·obtain⟨w,e,dw⟩:=g.2.get (lG7 hi)
  have:=y.2 vs ((g.1).sq);rw[e]at this;cases this
  cases y.1;exact⟨Ext.refl _ _,S,_,lG7 hi,dw⟩
theorem Jm{n:Int}{ys:Li D}{ad:Li Ad}{f:Ev}(hn:n < 2 ^ 62/\-(2 ^ 62)<=n)(E:EnvOk X.K ad H σ ρ)(S:StOk X.K ad H st)(q:f ρ st=some (.int n,st1))(p:Post X.K ad H (.lst st2.length) (st2++[(true,ys)]) Q) :
  iRng1 (tCons (tE X.K f) tNil) σ H (Qp X σ ρ ((List.range n.toNat).map fun(k:Nat)=>D.int (k:Int)) (fun _=>True) st1 st2 ys Q):=by
 refine⟨ad,ρ,st,.int n,st1,E,S,q,fun v ad1 H1 x1 S1 d1=>?_⟩
 cases d1.ofInt;refine⟨n,rfl,hn.2,hn.1,ad1,fun _ _=>True,fun _ _ _ _ _ _=>trivial,fun _ _ _ _ _ _ _=>trivial,fun i ad H st _ _ _ hi=>(show i < n.toNat by simpa using hi),fun i ad H st _ _ _ hi=>(show n.toNat<=i by simpa using cL hi),fun i ad H st v H' _ S _ y hi=>?_,E.mono x1,S1,trivial,p.later x1⟩
 cases y.1;have hi':i < n.toNat:=by simpa using hi
 refine⟨Ext.refl _ _,S,.int (i:Int),?_,?_⟩
 ·rw[aR,List.getElem?_range hi'];rfl
 ·rw[y.2,Int.zero_add];exact .int _
theorem Vo{c:Z4}{ys:Li D}{ad:Li Ad}{f:Ev}(E:EnvOk X.K ad H σ ρ)(S:StOk X.K ad H st)(q:f ρ st=some (.lst l,st1))(hc:st1[l]?=some c)(p:Post X.K ad H (.lst st2.length) (st2++[(true,ys)]) Q) :
  iList X.K (tE X.K f) σ H (Qp X σ ρ c.2 (fun s=>s[l]?=some c) st1 st2 ys Q):=by
 refine⟨ad,ρ,st,.lst l,st1,E,S,q,fun v ad1 H1 x1 S1 d1=>?_⟩
 obtain⟨a,rfl,ha⟩:=d1.ofLst;obtain⟨vs,rv,sq⟩:=S1.list ha (show st1[l]?=some (c.1,c.2) from hc);refine⟨a,rfl,⟨vs,sq⟩,ad1,fun ad H=>LA ad H l a,fun _ _ _ _ x g=>g.mono x,fun _ _ _ _ _ e g=>⟨g.1,fun z=>g.2 ((W3 e).mpr z)⟩,fun i ad H st g S e hi=>?_,fun i ad H st g S e hi=>?_,fun i ad H st v H' g S e y hi=>?_,E.mono x1,S1,ha,p.later x1⟩
 ·obtain⟨vs,rv,sq⟩:=S.list g (show st[l]?=some (c.1,c.2) from e)
  obtain⟨v,e,_⟩:=rv.get (lG7 hi);exact⟨vs,v,sq,e⟩
 ·obtain⟨vs,rv,sq⟩:=S.list g (show st[l]?=some (c.1,c.2) from e)
  exact⟨vs,sq,by rw[rv.length];exact cL hi⟩
 ·obtain⟨vs,rv,sq⟩:=S.list g (show st[l]?=some (c.1,c.2) from e)
  obtain⟨w,e,dw⟩:=rv.get (lG7 hi);have:=y.2 vs sq;rw[e]at this;cases this
  cases y.1;exact⟨Ext.refl _ _,S,_,lG7 hi,dw⟩
theorem WC:∀ {xs:Li D}{k i:Nat},(Xq k xs)[i]?=(xs[i]?).map fun x=>.tup [.int ((k+i:Nat):Int),x]
 |[],_,_=>rfl
 |x :: xs,k,0=>rfl
 |x :: xs,k,i+1=>by
  show(Xq (k+1) xs)[i]?=_;rw[WC,show k+1+i=k+(i+1) by omega]
  rfl
theorem Y4:∀ {xs:Li D}{k:Nat},(Xq k xs).length=xs.length
 |[],_=>rfl
 |x :: xs,k=>congrArg (·+1) Y4
theorem XH:∀ {xs:Li D}{k:Nat},∀ d∈Xq k xs,∃ a b,d=.tup [a,b]
 |[],_,_,h=>nomatch h
 |x :: xs,k,d,h=>by
  rcases aG.mp h with rfl|h
  ·exact⟨_,_,rfl⟩
  ·exact XH d h
theorem QA{x:D}{ok:Za->Prop}{ys:Li D}{ad:Li Ad}{f:Ev}(E:EnvOk X.K ad H σ ρ)(S:StOk X.K ad H st)(q:f ρ st=some (x,st1))(hw:Qm x st1=some (ds,ok))(p:Post X.K ad H (.lst st2.length) (st2++[(true,ys)]) Q) :
  UX X.K (tCons (tE X.K f) tNil) σ H (Qp X σ ρ ds ok st1 st2 ys Q):=by
 have core:∀ {sq:Hp->Li V->Prop}{xs:Li D}{ok:Za->Prop}{ad1:Li Ad}{H1:Hp} (Good:Li Ad->Hp->Prop),(∀ ad H ad' H',Ext ad H ad' H'->Good ad H->Good ad' H')->(∀ ad H p xs ys,H p=some (.lst xs)->Good ad H->Good ad (upd H p (.lst ys)))->Good ad1 H1->
   (∀ ad H st,Good ad H->StOk X.K ad H st->ok st->∃ vs,Dens X.K ad H vs xs/\sq H vs)->EnvOk X.K ad1 H1 σ ρ->StOk X.K ad1 H1 st1->Post X.K ad1 H1 (.lst st2.length) (st2++[(true,ys)]) Q->Qp X σ ρ (Xq 0 xs) ok st1 st2 ys Q (Ite sq) H1:=
  fun {sq xs ok ad1 H1} Good gm gw g1 hv E1 S1 p1=>by
   refine⟨ad1,Good,gm,gw,fun i ad H st g S e hi=>?_,fun i ad H st g S e hi=>?_,fun i ad H st v H' g S e y hi=>?_,E1,S1,g1,p1⟩
   ·rw[Y4]at hi
    obtain⟨vs,rv,sq⟩:=hv ad H st g S e;obtain⟨v,e,_⟩:=rv.get (lG7 hi);exact⟨vs,v,sq,e⟩
   ·rw[Y4]at hi
    obtain⟨vs,rv,sq⟩:=hv ad H st g S e;exact⟨vs,sq,by rw[rv.length];exact hi⟩
   ·rw[Y4]at hi
    obtain⟨vs,rv,sq⟩:=hv ad H st g S e;obtain⟨w,e,dw⟩:=rv.get (lG7 hi);obtain⟨T,x,rfl,hT,rfl,hx⟩:=y;have:=hx vs sq;rw[e]at this;cases this
    refine⟨Ext.laid hT,S.laid hT,_,by rw[WC,lG7 hi];rfl,.tup (.inl upd_same) (.cons ?_ (.cons (dw.mono (Ext.laid hT)) .nil))⟩
    rw[bD];exact .int _
 refine⟨ad,ρ,st,x,st1,E,S,q,fun v ad1 H1 x1 S1 d1=>?_⟩
 cases x with
 |tup xs=>
  cases hw;obtain⟨a,vs,rfl,ha,rv⟩:=d1.ofTup;exact⟨a,rfl,.inr ⟨⟨vs,ha.sq⟩,core (fun ad H=>TupAt X.K H a vs/\Dens X.K ad H vs xs) (fun _ _ _ _ x g=>⟨g.1.mono x,g.2.mono x⟩) (fun _ H p xs ys hp g=>⟨g.1.upd hp (by intro xs z;cases z),g.2.wr hp⟩) ⟨ha,rv⟩ (fun ad H st g _ _=>⟨vs,g.2,g.1.sq⟩) (E.mono x1) S1 (p.later x1)⟩⟩
 |lst l=>
  have hw:(match st1[l]? with
   |some c=>some (Xq 0 c.2,fun s=>s[l]?=some c)
   |none=>none)=some (ds,ok):=hw
  cases hc:st1[l]? with
  |none=>rw[hc]at hw;cases hw
  |some c=>
   rw[hc]at hw;cases hw;obtain⟨a,rfl,ha⟩:=d1.ofLst;obtain⟨vs,rv,sq⟩:=S1.list ha (show st1[l]?=some (c.1,c.2) from hc);exact⟨a,rfl,.inl ⟨⟨vs,sq⟩,core (fun ad H=>LA ad H l a) (fun _ _ _ _ x g=>g.mono x) (fun _ _ _ _ _ e g=>⟨g.1,fun z=>g.2 ((W3 e).mpr z)⟩) ha (fun ad H st g S e=>S.list g (show st[l]?=some (c.1,c.2) from e)) (E.mono x1) S1 (p.later x1)⟩⟩
 |_=>exact Zb hw
theorem QZ{x:D}{ds:Li D}{ok:Za->Prop}(h:Qm x st=some (ds,ok)):∀ d∈ds,∃ a b,d=.tup [a,b]:=by
 cases x with
 |tup xs=>cases h;exact XH
 |lst l=>
  unfold Qm at h;simp only at h;split at h
  ·cases h;exact XH
  ·exact Zb h
 |_=>exact Zb h
theorem Zat{ds:Li D}(ha:ds.all ZbF=true):∀ d∈ds,∃ a b,d=.tup [a,b]:=fun d hd=>by
 have:=cC.mp ha d hd;unfold ZbF at this;split at this
 ·exact⟨_,_,rfl⟩
 ·cases this
theorem Q0{x:D}{ds:Li D}{ok:Za->Prop}(h:WK x st=some (ds,ok)):((x=.tup ds/\ok=fun _=>True)\/∃ l c,x=.lst l/\st[l]?=some c/\ds=c.2/\ok=fun s=>s[l]?=some c)/\∀ d∈ds,∃ a b,d=.tup [a,b]:=by
 unfold WK at h;split at h
 ·split at h
  ·rename_i ha
   cases h;exact⟨.inl ⟨rfl,rfl⟩,Zat ha⟩
  ·exact Zb h
 ·split at h
  ·rename_i c hc
   split at h
   ·rename_i ha
    cases h;exact⟨.inr ⟨_,c,rfl,hc,rfl,rfl⟩,Zat ha⟩
   ·exact Zb h
  ·exact Zb h
 ·exact Zb h
theorem QY{xs:Li Str}(h:tgN tg=some xs):(∃ x px,tg=.Name x px/\xs=[x])\/(∃ x y px py k tp,tg=.Tuple [.Name x px,.Name y py] k tp/\xs=[x,y])\/∃ x y z px py pz k tp,tg=.Tuple [.Name x px,.Name y py,.Name z pz] k tp/\xs=[x,y,z]:=by
 unfold tgN at h;split at h
 ·cases h;exact .inl ⟨_,_,rfl,rfl⟩
 ·rename_i es k tp
  have nm:∀ {e:Expr}{x:Str},nmE e=some x->∃ p,e=.Name x p:=fun {e x} h=>by
   unfold nmE at h;split at h
   ·cases h;exact⟨_,rfl⟩
   ·exact Zb h
  cases es with
  |nil=>exact Zb h
  |cons a es=>cases es with
   |nil=>exact Zb h
   |cons b es=>cases es with
    |cons c es=>cases es with
     |cons _ _=>exact Zb h
     |nil=>
      refine Y8 (P:=fun xs=>_\/_\/∃ x y z px py pz k' tp',Expr.Tuple [a,b,c] k tp=.Tuple [.Name x px,.Name y py,.Name z pz] k' tp'/\xs=[x,y,z]) h fun x y z hx hy hz=>?_
      obtain⟨px,rfl⟩:=nm hx;obtain⟨py,rfl⟩:=nm hy;obtain⟨pz,rfl⟩:=nm hz;exact .inr (.inr ⟨x,y,z,px,py,pz,k,tp,rfl,rfl⟩)
    |nil=>
     refine ZU (P:=fun xs=>_\/(∃ x y px py k' tp',Expr.Tuple [a,b] k tp=.Tuple [.Name x px,.Name y py] k' tp'/\xs=[x,y])\/_) h fun x y hx hy=>?_
     obtain⟨px,rfl⟩:=nm hx;obtain⟨py,rfl⟩:=nm hy;exact .inr (.inl ⟨x,y,px,py,k,tp,rfl,rfl⟩)
 ·exact Zb h
inductive CSh(G:Gs)(n:Nat)(sc:Scope)(N:List Str)(elt:Expr)(sc2:Scope):List Comprehension->CE->Prop
 |mk {tg it:Expr}{ifs:List Expr}{xs:List Str}{fr:List Nat}{r:Option (Option Bool)}{ci ce cc:CE} (htg:tgN tg=some xs) (hsc:YO sc sc2 xs=true) (hfr:YY N (ZH sc2)=some fr) (hi:itC G sc it (cE G n sc N) xs=some (r,ci)) (hce:cE G n sc2 (xs++ZH sc2) elt=some ce) (hcc:(ifs=[]/\cc=.c (.bl true))\/∃ e,ifs=[e]/\cE G n sc2 (xs++ZH sc2) e=some cc):CSh G n sc N elt sc2 [⟨tg,it,ifs,0⟩] (mkC xs.length r fr ci ce cc)
theorem Zbf{G:Gs}{c:CE}(h:cE G (n+1) sc N (.ListComp elt gens sc2 pos)=some c):CSh G n sc N elt sc2 gens c:=by
 replace h:ZcI G sc sc2 N (cE G n sc N) (cE G n sc2) elt gens=some c:=h;have no:∀ {P:Prop},(none:Ot CE)=some c->P:=fun z=>nomatch z
 cases gens with
 |nil=>exact no h
 |cons g gs=>
  obtain⟨tg,it,ifs,k⟩:=g;cases k with
  |negSucc _=>cases gs<;>exact no h
  |ofNat m=>cases m with
   |succ _=>cases gs<;>exact no h
   |zero=>cases gs with
    |cons _ _=>exact no h
    |nil=>
     replace h:(match tgN tg with
      |none=>none
      |some xs=>og (YO sc sc2 xs=true) (o3 (fun fr p (q:CE×CE)=>mkC xs.length p.1 fr p.2 q.1 q.2) (YY N (ZH sc2)) (itC G sc it (cE G n sc N) xs) (o2 Prod.mk (cE G n sc2 (xs++ZH sc2) elt) (ifC (cE G n sc2 (xs++ZH sc2)) ifs))))=some c:=h
     cases htg:tgN tg with
     |none=>rw[htg]at h;cases h
     |some xs=>
      rw[htg]at h;refine Yv h fun hsc h=>Y8 (P:=CSh G n sc N elt sc2 _) h fun fr p q hfr hi hq=>ZU (P:=fun q:CE×CE=>CSh G n sc N elt sc2 _ (mkC xs.length p.1 fr p.2 q.1 q.2)) hq fun ce cc hce hcc=>.mk htg hsc hfr hi hce ?_
      cases ifs with
      |nil=>cases hcc;exact .inl ⟨rfl,rfl⟩
      |cons a l=>cases l with
       |nil=>exact .inr ⟨a,rfl,hcc⟩
       |cons _ _=>exact Zb hcc
inductive CR(b:D->List (Option D))(w:D->Za->Option (List D×(Za->Prop)))(fr:List Nat)(fi fe fc:Ev)(ρ:Env)(st:Za):D->Za->Prop
 |mk {x:D}{st1 st2:Za}{ds ys:List D}{ok:Za->Prop} (q1:fi ρ st=some (x,st1)) (q2:w x st1=some (ds,ok)) (hz:ds.length<=1000) (q3:ZM ok (fun d s=>fe (ZK b ρ fr d) s) (fun d s=>fc (ZK b ρ fr d) s) ds st1=some (ys,st2)):CR b w fr fi fe fc ρ st (.lst st2.length) (st2++[(true,ys)])
theorem Yz{b:D->Li (Ot D)}{w:D->Za->Ot (Li D×(Za->Prop))}{fe fc:Ev}(e:ZX b w fr fi fe fc ρ st=some (d,st')):CR b w fr fi fe fc ρ st d st':=by
 unfold ZX at e;split at e
 ·split at e
  ·split at e
   ·split at e
    ·cases e;exact .mk ‹_› ‹_› ‹_› ‹_›
    ·exact Zb e
   ·exact Zb e
  ·exact Zb e
 ·exact Zb e
inductive CIt(X:Cx)(pQ:List (Addr×Obj))(s:Shared)(σ:L2.St)(ρ:Env)(tg it:Expr)(xs:List Str)(F:Nat->Fn)(fr:List Nat)(ce cc:CE)(Q:VK):Prop
 |mk {bd:D->List (Option D)}{ds:List D}{ok:Za->Prop}{st1 st2:Za}{ys:List D} (B:Xb X.K tg xs bd ds) (hz:ds.length<=1000) (q3:ZM ok (fun d s=>ev F ce (ZK bd ρ fr d) s) (fun d s=>ev F cc (ZK bd ρ fr d) s) ds st1=some (ys,st2)) (hp:Zi it=true) (pi:wpAny (model X.prog X.w) X.A (eval it X.env) (fun v s1=>wpAny (model X.prog X.w) X.A (pyIter v) (PIE X pQ σ tg (Qp X σ ρ ds ok st1 st2 ys Q)) X.xe s1) X.xe s):CIt X pQ s σ ρ tg it xs F fr ce cc Q
theorem Xx{f:α->β}{o:Ot α}{b:β}(h:o.map f=some b):∃ a,o=some a/\f a=b:=by
 cases o with
 |none=>exact Zb h
 |some a=>exact⟨a,rfl,by cases h;rfl⟩
variable{F:Nat->Fn}
theorem Zbd{G:Gs}(ihE:Zm G F n)(Kx:Cxt X G F sc N){xs:Li Str}{r:Ot (Ot Bool)}{ci:CE}(htg:tgN tg=some xs)(hi:itC G sc it (cE G n sc N) xs=some (r,ci)){s:sH7}(I:L2.Inv X pQ σ H s){ad:Li Ad}(E:EnvOk X.K ad H σ ρ)(S:StOk X.K ad H st)(e:ev F (mkC xs.length r fr ci ce cc) ρ st=some (d,st'))(p:Post X.K ad H d st' Q):CIt X pQ s σ ρ tg it xs F fr ce cc Q:=by
 rcases QY htg with⟨x,px,rfl,rfl⟩|⟨x,y,px,py,k,tp,rfl,rfl⟩|⟨x,y,z,px,py,pz,k,tp,rfl,rfl⟩
 ·replace hi:(match ZO G sc it with
   |some a=>(cE G n sc N a).map fun c=>(some (some true),c)
   |none=>(cE G n sc N it).map fun c=>(some (some false),c))=some (r,ci):=hi
  split at hi
  ·rename_i a ha
   obtain⟨ca,q,hi⟩:=Xx hi;cases hi;obtain⟨hp,pi⟩:=XT (tg:=.Name x px) Kx ha (Zf q) (ihE X sc N Kx a _ q).pe;cases Yz e with
   |@mk x0 st1 st2 ds ys ok q1 q2 hz q3=>
    refine .mk Vl hz q3 hp (pi pQ s σ H _ I ?_);cases x0 with
    |int k=>
     have q2:(match (if k < 2 ^ 62/\-(2 ^ 62)<=k then some ((List.range k.toNat).map fun(k:Nat)=>D.int (k:Int)) else none) with
      |some xs=>some (xs,fun _=>True)
      |none=>none)=some (ds,ok):=q2
     by_cases hk:k < 2 ^ 62/\-(2 ^ 62)<=k
     ·rw[if_pos hk]at q2
      cases q2;exact Jm hk E S q1 p
     ·rw[if_neg hk]at q2
      cases q2
    |_=>exact Zb q2
  ·obtain⟨ca,q,hi⟩:=Xx hi
   cases hi;cases Yz e with
   |@mk x0 st1 st2 ds ys ok q1 q2 hz q3=>
    refine .mk Vl hz q3 (Zf q) ?_;cases x0 with
    |tup xs=>cases q2;exact pi_tup (ihE X sc N Kx it _ q).pe pQ s σ H _ I (X5 E S q1 p)
    |lst l=>
     have q2:(match st1[l]? with
      |some c=>some (c.2,fun s=>s[l]?=some c)
      |none=>none)=some (ds,ok):=q2
     cases q4:st1[l]? with
     |none=>rw[q4]at q2;cases q2
     |some c0=>
      rw[q4]at q2;cases q2;exact pi_list (ihE X sc N Kx it _ q).pe pQ s σ H _ I (Vo E S q1 q4 p)
    |str z=>exact Zb q2
    |dct ks vs=>
     have no:∀ {v:V}{ad1:Li Ad}{H1:Hp},Den X.K ad1 H1 v (.dct ks vs)->False:=fun {v ad1 H1} d1=>by
      obtain⟨a,ws,_,_,hl,r⟩:=d1.ofDct;cases ks with
      |cons _ _=>exact Zb q2
      |nil=>
       cases ws with
       |cons _ _=>cases hl
       |nil=>cases r;cases q2
     exact thn ((ihE X sc N Kx it _ q).pe pQ s σ H (fun _ _=>False) I ⟨ad,ρ,st,_,st1,E,S,q1,fun v ad1 H1 x1 S1 d1=>no d1⟩) fun v s1 ⟨x,H1,I1,r1,z⟩=>z.elim
    |_=>exact Zb q2
 ·replace hi:(match Y3 G sc it with
   |some a=>(cE G n sc N a).map fun c=>(some none,c)
   |none=>(cE G n sc N it).map fun c=>(none,c))=some (r,ci):=hi
  split at hi
  ·rename_i a ha
   obtain⟨ca,q,hi⟩:=Xx hi;cases hi;cases Yz e with
   |mk q1 q2 hz q3=>
    obtain⟨hp,pi⟩:=X9 (elts:=[.Name x px,.Name y py]) (kk:=k) (tp:=tp) Kx ha (Zf q) (ihE X sc N Kx a _ q).pe;exact .mk (X4 (QZ q2)) hz q3 hp (pi pQ s σ H _ I (QA E S q1 q2 p))
  ·obtain⟨ca,q,hi⟩:=Xx hi
   cases hi;cases Yz e with
   |mk q1 q2 hz q3=>
    obtain⟨hw,hm⟩:=Q0 q2;rcases hw with⟨rfl,rfl⟩|⟨l,c0,rfl,q4,rfl,rfl⟩
    ·exact .mk (X4 hm) hz q3 (Zf q) (pi_tup (ihE X sc N Kx it _ q).pe pQ s σ H _ I (X5 E S q1 p))
    ·exact .mk (X4 hm) hz q3 (Zf q) (pi_list (ihE X sc N Kx it _ q).pe pQ s σ H _ I (Vo E S q1 q4 p))
 ·replace hi:(match Y3 G sc it with
   |some _=>none
   |none=>(cE G n sc N it).map fun c=>(none,c))=some (r,ci):=hi
  split at hi
  ·exact Zb hi
  ·obtain⟨ca,q,hi⟩:=Xx hi
   cases hi;cases Yz (b:=Qi) (w:=ZaQ) e with
   |@mk x0 st1 st2 ds ys ok q1 q2 hz q3=>
    cases x0 with
    |tup xs=>
     have q2:(if xs.all ZbG=true then some (xs,fun(_:Za)=>True) else none)=some (ds,ok):=q2
     split at q2
     ·rename_i ht
      cases q2;exact .mk (Ue fun d hd=>by
       have:=cC.mp ht d hd;unfold ZbG at this;split at this
       ·exact⟨_,_,_,rfl⟩
       ·cases this) hz q3 (Zf q) (pi_tup (ihE X sc N Kx it _ q).pe pQ s σ H _ I (X5 E S q1 p))
     ·exact Zb q2
    |_=>exact Zb q2
theorem US{G:Gs}(ihE:Zm G F n)(Kx:Cxt X G F sc N){c:CE}(h:cE G (n+1) sc N (.ListComp elt gens sc2 pos)=some c){s:sH7}(I:L2.Inv X pQ σ H s)(hq:tE X.K (ev F c) σ H Q)(hend:∀ C dd s5 H5 m',s5.heap.Ns C m'->(∀ h',Heap.SameBut C s5.heap h'->L2.Inv X pQ σ H5 { s5 with heap:=h' })->FpOk X pQ H5 C->Q (.ref dd) H5->compPost (model X.prog X.w) X.A X.xe use R0 (.ref dd) C (.ok .next) s5) :
  ∃ tg it ifs,gens=[⟨tg,it,ifs,0⟩]/\∀ pos',wpAny (model X.prog X.w) X.A (comprehension (.ListComp elt [⟨tg,it,ifs,0⟩] sc2 pos) sc2 X.env pos' (newList []) false (eval it X.env) use) R0 X.xe s:=by
 cases Zbf h with
 |@mk tg it ifs xs fr r ci ce cc htg hsc hfr hi hce hcc=>
  obtain⟨h1,h2,h3,h4,h5,h6⟩:=Yb hsc;obtain⟨ad,ρ,st,d,st',E,S,e,p⟩:=hq;obtain⟨cl,ec,c1,c2⟩:=Vp (env:=X.env) (sc:=sc2) (fun y hy hf=>by
   have hm:(y.1,NameKind.free)∈sc2.names:=by rw[<-hf];exact hy
   exact I.ok.has y.1 (Kx.cel y.1 (h6 y.1 (mem_frees.mpr hm)).1))
  refine⟨tg,it,ifs,rfl,fun pos'=>?_⟩
  cases Zbd ihE Kx htg hi I E S e p with
  |mk B hz q3 hp pi=>
   refine wpAny_comprehension_free (use:=use) rfl (ZG hp) ec h1 h4 (thn pi fun v s1 h1'=>thn h1' fun itv s2 h2'=>?_)
   obtain⟨ita,fp,tn,J,H2,rfl,I2,T,t2,f2,ad1,Good,gm,gw,go,stop,yl,E2,S2,g2,p2⟩:=h2';exact QD Kx ihE hsc hfr hce hcc c1 c2 Good gm gw go stop yl I2 B T t2 f2 E2 S2 g2 q3 hz p2 hend
theorem Zbe{G:Gs}:YL G F:=by
 intro n ihE;refine⟨fun X sc N Kx elt gens sc2 pos c h=>SE.of ?_,fun X sc N K y i p elt gens sc2 epos pos c hi h hsw=>?_⟩
 ·intro pQ s σ H Q I hq
  obtain⟨tg,it,ifs,rfl,go⟩:=US ihE Kx h I hq (use:=none) (R0:=EP X pQ σ Q) fun C dd s5 H5 m' hn hI _ q=>⟨m',hn,fun h' sb=>⟨.ref dd,H5,hI h' sb,rfl,q⟩⟩
  rw[eval_ListComp];exact go _
 ·intro pQ s σ H D I hq
  obtain⟨tg,it,ifs,rfl,go⟩:=US ihE K.toCxt h I hq (use:=some (assign (.Name y p) X.env)) (R0:=fun _ s'=>SP X pQ D .next s') fun C dd s5 H5 m' hn hI fo q=>by
   have I5:=hI s5.heap (Heap.SameBut.refl _ _);show wpAny _ X.A (assign (.Name y p) X.env (.ref dd)) _ _ s5;refine wpAny_assign_Name (store_ok2 (v:=.ref dd) I5 (by rw[K.hN];exact K.nd) (by rw[K.hN];exact Xf hi) (K.loc _ (WV hi)) rfl (fun s6 I6 ⟨a,sb,ha⟩=>?_) (.inl (K.fn _)))
   have ne:C≠a:=by
    rcases ha with z|z
    ·rw[z];exact fo.2.1
    ·exact fun w=>fo.2.2.2.2.1 _ _ z w.symm
   exact⟨m',hn.sameBut sb ne,fun h3 sb3=>⟨_,H5,I6.turned (t':=s6.toks) (fun b o hb e=>sb3.extBut b o hb e) fo.1 fo.2.1 fo.2.2.2.1 fo.2.2.2.2.1 fo.2.2.2.2.2,q⟩⟩
  rw[exec_Assign_Name_used _ _ _ _ hsw];refine aA (wpAny_standAt (aA ?_));show wpAny _ X.A (do let _ <-comprehension (.ListComp elt [⟨tg,it,ifs,0⟩] sc2 epos) sc2 X.env _ (newList []) false (eval it X.env) (some (assign (.Name y p) X.env))) _ _ s
  exact aA (bK (go _) (fun _ s' hq=>aF (aF hq)) fun _ _ e=>e)
variable [ClsTab]
theorem Zgj{α:Type}:∀ {us:Li α},us.length=0->us=[]
 |[],_=>rfl
theorem ZfB{α:Type}:∀ {us:Li α},us.length=1->∃ a,us=[a]
 |[a],_=>⟨a,rfl⟩
theorem ZfD{α:Type}:∀ {us:Li α},us.length=2->∃ a b,us=[a,b]
 |[a,b],_=>⟨a,b,rfl⟩
theorem ZdU{α:Type}:∀ {us:Li α},us.length=3->∃ a b c,us=[a,b,c]
 |[a,b,c],_=>⟨a,b,c,rfl⟩
theorem ZfE{α:Type}:∀ {us:Li α},us.length=4->∃ a b c d,us=[a,b,c,d]
 |[a,b,c,d],_=>⟨a,b,c,d,rfl⟩
theorem Zgk{α:Type}:∀ {us:Li α},us.length=5->∃ a b c d e,us=[a,b,c,d,e]
 |[a,b,c,d,e],_=>⟨a,b,c,d,e,rfl⟩
theorem Zgl{α:Type}:∀ {us:Li α},us.length=6->∃ a b c d e f,us=[a,b,c,d,e,f]
 |[a,b,c,d,e,f],_=>⟨a,b,c,d,e,f,rfl⟩
def ZcC(K:fG7)(C:Ad)(fd:FuncData)(pn:Li Str)(ds:Li D):Prop:=ObC K C/\∀ n,n<=ds.length->∃ dvs us,(∀ ad H,Dens K ad H dvs (ds.drop n))/\Vals dvs us/\Binds K fd pn us
def Yq(K:fG7)(G:Gs)(T:Nat->Ot FD)(C:Ad)(ds:Li D):Li (Str×Nat×Nat)->Prop
 |[]=>True
 | (m,j,_) :: r=>(∃ y f fd pn N,MethOk K G T C m y j f fd pn N/\(m = "__init__"->ZcC K C fd pn ds))/\Yq K G T C ds r
def ZcE(K:fG7)(C:Ad)(ms:Li (Str×Nat×Nat)):Prop:=ms.lookup ("__init__":Str)=none->PySem.W.findIn K (.ref C) "__init__"=some (some (.builtin "object.__init__"))
def XB(K:fG7)(B:Ad):Li Nat->Prop
 |[]=>True
 |i :: r=>SubOk K (ClsTab.ca i) B/\XB K B r
def Yx(Pm:Params)(K:fG7)(mg:Str->Ot vL)(G:Gs)(T:Nat->Ot FD):Gs->Prop
 |[]=>True
 | (x,.c d) :: r=>(∃ v u,mg x=some u/\RelV v u/\∀ ad H,Den K ad H v d)/\Yx Pm K mg G T r
 | (x,.blt) :: r=>mg x=none/\Yx Pm K mg G T r
 | (x,.dct ks ds) :: r=>UK Pm K mg x ks ds/\Yx Pm K mg G T r
 | (x,.fn i _ ds) :: r=>(∃ f fd pn N,DefOk K mg G T x i ds f fd pn N)/\Yx Pm K mg G T r
 | (x,.cls i ms subs ds) :: r=>((mg x=some (.ref (ClsTab.ca i))/\NewOk K (ClsTab.ca i)/\XB K (ClsTab.ca i) subs)/\Yq K G T (ClsTab.ca i) ds ms/\ZcE K (ClsTab.ca i) ms)/\Yx Pm K mg G T r
section
variable {P:Program}{w:World}{K:fG7}{mg:Str->Ot vL}{base:Heap}{G:Gs}{T:Nat->Ot FD}
def Zdi(Pm:Params)(K:fG7)(mg:Str->Ot vL)(G:Gs)(T:Nat->Ot FD)(x:Str):GV->Prop
 |.c d=>∃ v u,mg x=some u/\RelV v u/\∀ ad H,Den K ad H v d
 |.blt=>mg x=none
 |.dct ks ds=>UK Pm K mg x ks ds
 |.fn i _ ds=>∃ f fd pn N,DefOk K mg G T x i ds f fd pn N
 |.cls i ms subs ds=>(mg x=some (.ref (ClsTab.ca i))/\NewOk K (ClsTab.ca i)/\XB K (ClsTab.ca i) subs)/\Yq K G T (ClsTab.ca i) ds ms/\ZcE K (ClsTab.ca i) ms
theorem YB{Pm:Params}:∀ {l:Gs}{x:Str}{g:GV},Yx Pm K mg G T l->l.lookup x=some g->Zdi Pm K mg G T x g
 |[],_,_,_,h=>by cases h
 | (y,v) :: r,x,g,a,h=>by
  have tl:Yx Pm K mg G T r/\Zdi Pm K mg G T y v:=by
   cases v with
   |c d=>exact⟨a.2,a.1⟩
   |blt=>exact⟨a.2,a.1⟩
   |dct ks ds=>exact⟨a.2,a.1⟩
   |fn i ps ds=>exact⟨a.2,a.1⟩
   |cls i ms subs ds=>exact⟨a.2,a.1⟩
  rw[bO]at h;cases e:x==y with
  |true=>
   rw[e]at h;cases h;rw[beq_iff_eq.mp e];exact tl.2
  |false=>
   rw[e]at h;exact YB tl.1 h
theorem Qh{B:Ad}:∀ {l:Li Nat},XB K B l->∀ i,l.contains i=true->SubOk K (ClsTab.ca i) B
 |[],_,_,h=>by cases h
 |j :: r,a,i,h=>by
  rw[List.contains_cons,bW]at h;rcases h with h|h
  ·rw[beq_iff_eq.mp h];exact a.1
  ·exact Qh a.2 i h
theorem VO{C:Ad}{ds:Li D}:∀ {l:Li (Str×Nat×Nat)},Yq K G T C ds l->∀ m j ps,l.lookup m=some (j,ps)->∃ y f fd pn N,MethOk K G T C m y j f fd pn N/\(m = "__init__"->ZcC K C fd pn ds)
 |[],_,_,_,_,h=>by cases h
 | (m',j',ps') :: r,a,m,j,ps,h=>by
  rw[bO]at h;cases e:m==m' with
  |true=>
   rw[e]at h;cases h;rw[beq_iff_eq.mp e];exact a.1
  |false=>
   rw[e]at h;exact VO a.2 m j ps h
theorem Zct{Pm:Params}(h:Yx Pm K mg G T G):Text Pm K mg G T:=
 ⟨fun _ _ e=>YB h e,fun _ e=>YB h e,fun _ _ _ e=>YB h e,fun _ _ _ _ e=>YB h e,fun x i ms subs ds e=>by
  have g:Zdi Pm K mg G T x (.cls i ms subs ds):=YB h e;exact⟨⟨g.1.1,g.1.2.1,Qh g.1.2.2⟩,VO g.2.1,g.2.2⟩⟩
theorem Zdz(hc:∀ n,YL G (run T n))(X:Text w.params K mg G T)(n:Nat){x:Str}{f:Ad}{fd:FuncData}(Dk:DefOk K mg G T x i ds f fd pn N):FnOk P w K mg base CX0 (2 * n) f fd pn (spD K (run T n i)):=Zdl hc X n Dk.ob
theorem ZeR{a:Ad}{ns:Li Int}(hO:Only H)(hS:SqL K H a (ns.map V.int))(h:∃ st',run T n i [.lst 0] [(false,ns.map .int)]=some (.bl true,st')):spD K (run T n i) [.ref a] H (fun v _=>v=.bl true) fun _ _ _=>False:=by
 obtain⟨st',e⟩:=h;have ds:∀ ns:Li Int,Dens K [a] H (ns.map V.int) (ns.map D.int):=fun ns=>by
  induction ns with
  |nil=>exact .nil
  |cons n l ih=>exact .cons (.int n) ih
 have nT:¬Z0 H a:=fun⟨o',q,m⟩=>by
  rcases hO a with z|⟨o,xs,z⟩<;>(rw[q]at z;cases z)
  cases m
 refine⟨[a],[.lst 0],[(false,ns.map .int)],.bl true,st',⟨rfl,fun i j b c d _ _ h3 _=>?_,fun i c hc=>?_⟩,.cons (.lst ⟨rfl,nT⟩) .nil,e,fun v ad' H' x S h=>h.ofBl⟩
 ·cases i with
  |zero=>simp at h3
  |succ i=>simp at h3
 ·cases i with
  |succ i=>simp at hc
  |zero=>
   have hc:(false,ns.map D.int)=c:=by simpa using hc
   subst hc;refine⟨a,rfl,.l nT (ds ns) (.inr ⟨rfl,?_⟩)⟩;rcases hS with(h|⟨o,h⟩)|⟨o,its,n,h1,h2,h3,h4,h5,h6⟩
   ·rcases hO a with z|⟨o,xs,z⟩
    ·rw[h]at z;cases z
    ·rw[h]at z;cases z
   ·exact .inl ⟨o,h⟩
   ·exact .inr ⟨o,its,n,⟨h1,h2⟩,⟨h3,h4⟩,h5,h6⟩
end
noncomputable abbrev fnS(x y:Str)(s:Stmt)(dV kV dc pm:vL)(an:Ot Ad)(cd ct:vL):FuncData:=PySem.W.fnOf x y (defArgs s) (defBody s) (defScope s) dV kV dc pm an cd ct
inductive FnAt(K:fG7)(x:Str)(s:Stmt):Prop
 |mk {f:Addr}{oc kV dc pm cd ct:Value}{od an:Option Addr}{sl:Array (Option Value)} (a:PySem.W.nsIn K mainGlobals x=some (some (.ref f))) (l:K.lookup f=some ⟨oc,od,.func (PySem.W.fnOf x x (defArgs s) (defBody s) (defScope s) .none kV dc pm an cd ct),sl⟩) (e:PySem.W.codeIn K cd x=true) (k:PySem.W.keepIn K (.ref f)=true):FnAt K x s
inductive FnAtE(K:fG7)(x:Str)(s:Stmt)(v:Int):Prop
 |mk {f E:Addr}{eo:Obj}{en:Nat}{et:Tok}{oc kV dc pm cd ct:Value}{od an:Option Addr}{sl:Array (Option Value)} (a:PySem.W.nsIn K mainGlobals x=some (some (.ref f))) (l:K.lookup f=some ⟨oc,od,.func (PySem.W.fnOf x x (defArgs s) (defBody s) (defScope s) (.ref E) kV dc pm an cd ct),sl⟩) (e:PySem.W.codeIn K cd x=true) (k:PySem.W.keepIn K (.ref f)=true) (d:K.lookup E=some eo) (g:eo.data=.seq #[.int v et] en):FnAtE K x s v
inductive MtAt(K:fG7)(C:Addr)(x y:Str)(s:Stmt):Prop
 |mk {f:Addr}{oc kV dc pm cd ct:Value}{od an:Option Addr}{sl:Array (Option Value)} (m:PySem.W.findIn K (.ref C) x=some (some (.ref f))) (l:K.lookup f=some ⟨oc,od,.func (PySem.W.fnOf x y (defArgs s) (defBody s) (defScope s) .none kV dc pm an cd ct),sl⟩) (e:PySem.W.codeIn K cd y=true) (k:PySem.W.keepIn K (.ref f)=true) (i:PySem.W.isFn K (.ref f)=true):MtAt K C x y s
structure ClsAt(K:fG7)(x:Str)(C:Addr):Prop where
 ya:PySem.W.nsIn K mainGlobals x=some (some (.ref C))
 yb:PySem.W.makesIn K C=true
 yc:PySem.W.findIn K (.ref C) "__init__"=some (some (.builtin "object.__init__"))
 yd:PySem.W.keepIn K (.ref C)=true
 ye:PySem.W.plainGet K C Str.empty=true
 yf:PySem.W.hasDictIn K C=true
 yg:PySem.W.plainOver K C=true
 yh:PySem.W.findIn K (.ref C) "__setattr__"=some (some (.builtin "object.__setattr__"))
 yi:PySem.W.findIn K (.ref C) "__class__"=some (some (.builtin "object.__class__"))
 yj:PySem.W.mroIn K C (.type "object")=some true
 yk:PySem.W.specialIn K (.builtin "object.__class__") "__get__"=some (some (.builtin "getset_descriptor.__get__"))
 yl:PySem.W.takesIn K (.builtin "object.__class__")=some true
inductive MtAtE(K:fG7)(C:Addr)(x y:Str)(s:Stmt)(v:Int):Prop
 |mk {f E:Addr}{eo:Obj}{en:Nat}{et:Tok}{oc kV dc pm cd ct:Value}{od an:Option Addr}{sl:Array (Option Value)} (m:PySem.W.findIn K (.ref C) x=some (some (.ref f))) (l:K.lookup f=some ⟨oc,od,.func (PySem.W.fnOf x y (defArgs s) (defBody s) (defScope s) (.ref E) kV dc pm an cd ct),sl⟩) (e:PySem.W.codeIn K cd y=true) (k:PySem.W.keepIn K (.ref f)=true) (i:PySem.W.isFn K (.ref f)=true) (d:K.lookup E=some eo) (g:eo.data=.seq #[.int v et] en):MtAtE K C x y s v
structure ClsAtB(K:fG7)(x:Str)(C:Addr):Prop where
 ya:PySem.W.nsIn K mainGlobals x=some (some (.ref C))
 yb:PySem.W.makesIn K C=true
 yd:PySem.W.keepIn K (.ref C)=true
 ye:PySem.W.plainGet K C Str.empty=true
 yf:PySem.W.hasDictIn K C=true
 yg:PySem.W.plainOver K C=true
 yh:PySem.W.findIn K (.ref C) "__setattr__"=some (some (.builtin "object.__setattr__"))
 n1:PySem.W.findIn K (.ref C) "program"=some none
 n2:PySem.W.findIn K (.ref C) "trials"=some none
 n3:PySem.W.findIn K (.ref C) "limit"=some none
 n4:PySem.W.findIn K (.ref C) "kept"=some none
 n5:PySem.W.findIn K (.ref C) "done"=some none
theorem ClsAtB.oc{K:fG7}{x:Str}{C:Ad}(F:ClsAtB K x C):ObC K C:=⟨⟨F.ye,F.yf,F.yg,F.yh⟩,fun f hf=>by
 have hf:((f == "program")||((f == "trials")||((f == "limit")||((f == "kept")||((f == "done")||false)))))=true:=hf;rw[dA,bW,bW,bW,bW,beq_iff_eq,beq_iff_eq,beq_iff_eq,beq_iff_eq,beq_iff_eq]at hf;rcases hf with rfl|rfl|rfl|rfl|rfl
 ·exact F.n1
 ·exact F.n2
 ·exact F.n3
 ·exact F.n4
 ·exact F.n5⟩
abbrev ZZ(G:Gs)(s:Stmt)(N ps:Li Str)(c:CS):Prop:=FnScope N ps (defScope s)/\(∀ y∈N,L2.Loc (defScope s) y)/\cSs G 60 (defScope s) N (defBody s)=some c
section
variable {K:fG7}{fd:FuncData}{ps:Li Str}
theorem bd1(hl:ps.length=1)(h:∀ a,bindArgs fd ⟨[a],[]⟩=pure (ps.zip [a])):Binds K fd ps []:=.all fun us e=>by obtain⟨_,rfl⟩:=ZfB (e.trans hl);exact h _
theorem bd2(hl:ps.length=2)(h:∀ a b,bindArgs fd ⟨[a,b],[]⟩=pure (ps.zip [a,b])):Binds K fd ps []:=.all fun us e=>by obtain⟨_,_,rfl⟩:=ZfD (e.trans hl);exact h _ _
theorem bd3(hl:ps.length=3)(h:∀ a b c,bindArgs fd ⟨[a,b,c],[]⟩=pure (ps.zip [a,b,c])):Binds K fd ps []:=.all fun us e=>by obtain⟨_,_,_,rfl⟩:=ZdU (e.trans hl);exact h _ _ _
theorem bd4(hl:ps.length=4)(h:∀ a b c d,bindArgs fd ⟨[a,b,c,d],[]⟩=pure (ps.zip [a,b,c,d])):Binds K fd ps []:=.all fun us e=>by obtain⟨_,_,_,_,rfl⟩:=ZfE (e.trans hl);exact h _ _ _ _
theorem bd5(hl:ps.length=5)(h:∀ a b c d k,bindArgs fd ⟨[a,b,c,d,k],[]⟩=pure (ps.zip [a,b,c,d,k])):Binds K fd ps []:=.all fun us e=>by obtain⟨_,_,_,_,_,rfl⟩:=Zgk (e.trans hl);exact h _ _ _ _ _
theorem bd6(hl:ps.length=6)(h:∀ a b c d k l,bindArgs fd ⟨[a,b,c,d,k,l],[]⟩=pure (ps.zip [a,b,c,d,k,l])):Binds K fd ps []:=.all fun us e=>by obtain⟨_,_,_,_,_,_,rfl⟩:=Zgl (e.trans hl);exact h _ _ _ _ _ _
theorem bd0(hl:ps.length=0)(h:bindArgs fd ⟨[],[]⟩=pure []):Binds K fd ps []:=.all fun us e=>by rw[Zgj (e.trans hl),List.zip_nil_right];exact h
end
section
variable {Pm:Params}{K:fG7}{mg:Str->Ot vL}{G:Gs}{T:Nat->Ot FD}{h:Heap}{x y:Str}{i p:Nat}{s:Stmt}{N ps:Li Str}{c:CS}{r:Gs}
theorem gD(X:K.In h)(G0:h.Ns mainGlobals mg)(F:FnAt K x s)(q:ZZ G s N ps c)(hT:T i=some ⟨ps.length,N.length,c⟩)(t:Yx Pm K mg G T r)(hb:∀ kV dc pm an cd ct,Binds K (fnS x x s .none kV dc pm an cd ct) ps []:=by first|exact fun _ _ _ _ _ _=>bd1 rfl fun _=>rfl|exact fun _ _ _ _ _ _=>bd2 rfl fun _ _=>rfl|exact fun _ _ _ _ _ _=>bd3 rfl fun _ _ _=>rfl|exact fun _ _ _ _ _ _=>bd4 rfl fun _ _ _ _=>rfl|exact fun _ _ _ _ _ _=>bd5 rfl fun _ _ _ _ _=>rfl|exact fun _ _ _ _ _ _=>bd6 rfl fun _ _ _ _ _ _=>rfl|exact fun _ _ _ _ _ _=>bd0 rfl rfl):Yx Pm K mg G T ((x,.fn i p []) :: r):=by
 cases F with
 |mk a l e k=>exact⟨⟨_,_,ps,N,.inl ⟨s,_,_,_,_,_,_,_,_,_,_,c,rfl,l,e,q.1,q.2.1,q.2.2,hT⟩,k,PySem.W.mg_of X G0 a,fun m hm=>⟨[],[],fun _ _=>by rw[List.drop_nil];exact .nil,.nil,hb _ _ _ _ _ _⟩⟩,t⟩
theorem gE{v:Int}(X:K.In h)(G0:h.Ns mainGlobals mg)(F:FnAtE K x s v)(q:ZZ G s N ps c)(hT:T i=some ⟨ps.length,N.length,c⟩)(hb:∀ E kV dc pm an cd ct eo et en,K.lookup E=some eo->eo.data=.seq #[.int v et] en->Binds K (fnS x x s (.ref E) kV dc pm an cd ct) ps []/\Binds K (fnS x x s (.ref E) kV dc pm an cd ct) ps [.int v et])(t:Yx Pm K mg G T r):Yx Pm K mg G T ((x,.fn i p [.int v]) :: r):=by
 cases F with
 |mk a l e k d g=>
  refine⟨⟨_,_,ps,N,.inl ⟨s,_,_,_,_,_,_,_,_,_,_,c,rfl,l,e,q.1,q.2.1,q.2.2,hT⟩,k,PySem.W.mg_of X G0 a,fun m hm=>?_⟩,t⟩
  match m,hm with
  |0,_=>exact⟨[.int v],[.int v _],fun _ _=>.cons (.int _) .nil,.cons ⟨_,rfl⟩ .nil,(hb _ _ _ _ _ _ _ _ _ _ d g).2⟩
  |1,_=>exact⟨[],[],fun _ _=>.nil,.nil,(hb _ _ _ _ _ _ _ _ _ _ d g).1⟩
theorem gM{C:Ad}{r:Li (Str×Nat×Nat)}(hx:x ≠ "__init__")(F:MtAt K C x y s)(q:ZZ G s N ps c)(hT:T i=some ⟨ps.length,N.length,c⟩)(t:Yq K G T C ds r)(hb:∀ kV dc pm an cd ct,Binds K (fnS x y s .none kV dc pm an cd ct) ps []:=by first|exact fun _ _ _ _ _ _=>bd1 rfl fun _=>rfl|exact fun _ _ _ _ _ _=>bd2 rfl fun _ _=>rfl|exact fun _ _ _ _ _ _=>bd3 rfl fun _ _ _=>rfl|exact fun _ _ _ _ _ _=>bd4 rfl fun _ _ _ _=>rfl|exact fun _ _ _ _ _ _=>bd5 rfl fun _ _ _ _ _=>rfl|exact fun _ _ _ _ _ _=>bd6 rfl fun _ _ _ _ _ _=>rfl|exact fun _ _ _ _ _ _=>bd0 rfl rfl):Yq K G T C ds ((x,i,p) :: r):=by
 cases F with
 |mk m l e k j=>exact⟨⟨y,_,_,ps,N,⟨⟨s,_,_,_,_,_,_,_,_,_,_,c,rfl,l,e,q.1,q.2.1,q.2.2,hT⟩,⟨m,j,k⟩,hb _ _ _ _ _ _⟩,fun z=>absurd z hx⟩,t⟩
theorem gMI{C:Ad}{v:Int}{r:Li (Str×Nat×Nat)}(B:ClsAtB K z C)(F:MtAtE K C x y s v)(q:ZZ G s N ps c)(hT:T i=some ⟨ps.length,N.length,c⟩)(t:Yq K G T C [.int v] r)(hb:∀ E kV dc pm an cd ct eo et en,K.lookup E=some eo->eo.data=.seq #[.int v et] en->Binds K (fnS x y s (.ref E) kV dc pm an cd ct) ps []/\Binds K (fnS x y s (.ref E) kV dc pm an cd ct) ps [.int v et]):Yq K G T C [.int v] ((x,i,p) :: r):=by
 cases F with
 |mk m l e k j d g=>
  refine⟨⟨y,_,_,ps,N,⟨⟨s,_,_,_,_,_,_,_,_,_,_,c,rfl,l,e,q.1,q.2.1,q.2.2,hT⟩,⟨m,j,k⟩,(hb _ _ _ _ _ _ _ _ _ _ d g).1⟩,fun _=>⟨B.oc,fun n hn=>?_⟩⟩,t⟩
  match n,hn with
  |0,_=>exact⟨[.int v],[.int v _],fun _ _=>.cons (.int _) .nil,.cons ⟨_,rfl⟩ .nil,(hb _ _ _ _ _ _ _ _ _ _ d g).2⟩
  |1,_=>exact⟨[],[],fun _ _=>.nil,.nil,(hb _ _ _ _ _ _ _ _ _ _ d g).1⟩
theorem gC{C:Ad}(X:K.In h)(G0:h.Ns mainGlobals mg)(hC:ClsTab.ca i=C)(F:ClsAt K x C)(hs:XB K C subs)(hm:Yq K G T C ds ms)(t:Yx Pm K mg G T r):Yx Pm K mg G T ((x,.cls i ms subs ds) :: r):=by
 subst hC;exact⟨⟨⟨PySem.W.mg_of X G0 F.ya,⟨F.yb,F.yd,⟨F.ye,F.yf,F.yg,F.yh⟩⟩,hs⟩,hm,fun _=>F.yc⟩,t⟩
theorem gCB{C:Ad}(X:K.In h)(G0:h.Ns mainGlobals mg)(hC:ClsTab.ca i=C)(F:ClsAtB K x C)(hs:XB K C subs)(hm:Yq K G T C ds ms)(hi:ms.lookup ("__init__":Str)≠none)(t:Yx Pm K mg G T r):Yx Pm K mg G T ((x,.cls i ms subs ds) :: r):=by
 subst hC;exact⟨⟨⟨PySem.W.mg_of X G0 F.ya,⟨F.yb,F.yd,⟨F.ye,F.yf,F.yg,F.yh⟩⟩,hs⟩,hm,fun z=>absurd z hi⟩,t⟩
theorem gB(X:K.In h)(G0:h.Ns mainGlobals mg)(z:PySem.W.nsIn K mainGlobals x=some none)(t:Yx Pm K mg G T r):Yx Pm K mg G T ((x,.blt) :: r):=⟨PySem.W.mg_none_of X G0 z,t⟩
theorem gI{v:Int}{k:Tok}(X:K.In h)(G0:h.Ns mainGlobals mg)(g:PySem.W.nsIn K mainGlobals x=some (some (.int v k)))(t:Yx Pm K mg G T r):Yx Pm K mg G T ((x,.c (.int v)) :: r):=⟨⟨.int v,_,PySem.W.mg_of X G0 g,⟨_,rfl⟩,fun _ _=>.int _⟩,t⟩
theorem gL{fa:Ad}(X:K.In h)(G0:h.Ns mainGlobals mg)(hfa:mg x=some (.ref fa))(F:FnAt K x s)(q:ZZ G s N [z] c)(hT:T i=some ⟨1,N.length,c⟩)(hb:∀ kV dc pm an cd ct u,bindArgs (fnS x x s .none kV dc pm an cd ct) ⟨[u],[]⟩=pure [(z,u)]):∃ (fd:FuncData) (N:Li Str),(∀ (s:sH7) (u:vL),BindsTo s fd ⟨[u],[]⟩ [(z,u)])/\DefOk K mg G T x i [] fa fd [z] N:=by
 cases F with
 |@mk f _ _ _ _ _ _ _ _ _ a l e k=>
  have e':=hfa.symm.trans (PySem.W.mg_of X G0 a);have e':fa=f:=by cases e';rfl
  rw[e'];exact⟨_,N,fun _ u=>.of_eq (hb _ _ _ _ _ _ u),.inl ⟨s,_,_,_,_,_,_,_,_,_,_,c,rfl,l,e,q.1,q.2.1,q.2.2,hT⟩,k,PySem.W.mg_of X G0 a,fun m hm=>⟨[],[],fun _ _=>by rw[List.drop_nil];exact .nil,.nil,.all fun us hl=>by obtain⟨u,rfl⟩:=ZfB hl;exact hb _ _ _ _ _ _ u⟩⟩
end
omit [ClsTab] in
theorem QT{l:PySem.W.OpenLaw}{q:Program}{loose:Li Str}{XP:(Str->Ot vL)->Heap->Prop}{YP:World->Heap->Prop}{d:DefRec}{K:Params->fG7}{G:Gs}{T:Nat->Ot FD}{n i:Nat}{x:Str}(hn:l.most=some 63)(hdf:d.params.defaults=[])(hr:Room (2 * n) callerA)(hY:∀ (w:World) (h:Heap),YP w h->(K w.params).In h)(hc:∀ [ClsTab] n,YL G (run T n))(F:∀ (w:World) (mg:Str->Ot vL) (fa:Ad) (h:Heap),(K w.params).In h->h.Ns mainGlobals mg->mg d.name=some (.ref fa)->
   ∃ _:ClsTab,Text w.params (K w.params) mg G T/\∃ (fd:FuncData) (N:Li Str),(∀ (s:sH7) (u:vL),BindsTo s fd ⟨[u],[]⟩ [(x,u)])/\DefOk (K w.params) mg G T d.name i [] fa fd [x] N)(L:∀ ns:Li Int,ns.length<=63->∃ st',run T n i [.lst 0] [(false,ns.map .int)]=some (.bl true,st')) :
  PySem.W.WalkO q loose XP YP l.row.toRowW d [] (fun f vs=>PySem.call f vs):=
 L2.walk_of (n:=63) (k:=2 * n) (x:=x) (CX:=fun _=>CX0) (sp:=fun w vs H Q E=>∀ c:ClsTab,@spD c (K w.params) (run T n i) vs H Q E) hn (by decide) hdf hr hY
  (fun w mg fa h KX G0 hmg=>by
   obtain⟨c,X,fd,N,hb,Dk⟩:=F w mg fa h KX G0 hmg;refine⟨fd,hb,fun base _ _=>?_⟩
   have fo:=Zdz (P:=l.prog) (w:=w) (base:=base) (fun n=>hc n) X n Dk
   exact⟨fun vs H Q E z=>fo.len vs H Q E (z c),fun A outer s H args us vs Q E a1 a2 a3 a4 z=>fo.run A outer s H args us vs Q E a1 a2 a3 a4 (z c)⟩)
  (fun w H a ns hl hO hS c=>ZeR hO hS (L ns hl)) fun _ _ _ _ _ z=>z

end Dp


namespace Dp
open PySem
noncomputable def c_replaced:FD:=⟨3,3,(.seq (.ret (.bin .Add (.bin .Add (.slice (.v 0) .nop (.part (.v 1))) (.tupE (.aC (.v 2) .aN))) (.slice (.v 0) (.part (.bin .Add (.v 1) (.c (.int 1)))) .nop)))
 .skip)⟩
noncomputable def c_operand_places:FD:=⟨1,1,(.seq (.ret (.look [(S "put"),(S "if"),(S "tell"),(S "go"),(S "skip")] [(.tup [(.int 2),(.int 4)]),(.tup [(.int 1),(.int 3)]),(.tup [(.int 1)]),(.tup []),(.tup [])] (.ix (.v 0) (.c (.int 0)))))
 .skip)⟩
noncomputable def Xd:CS:=(.seq (.set 1 (.bin .Mult (.v 1) (.c (.int 2))))
 .skip)
noncomputable def c_bit_of:FD:=⟨1,3,(.seq (.set 1 (.c (.int 1)))
 (.seq (.for1 2 true (.v 0) Xd)
 (.seq (.ret (.v 1))
 .skip)))⟩
noncomputable def c_has_bit:FD:=⟨2,2,(.seq (.ret (.cmp .NotEq (.bin .BitAnd (.v 0) (.call 43 (.aC (.v 1) .aN) [])) (.c (.int 0))))
 .skip)⟩
noncomputable def c_around:FD:=⟨1,1,(.seq (.ret (.bin .Sub (.bin .Mod (.bin .Add (.v 0) (.c (.int 1000000000))) (.c (.int 2000000000))) (.c (.int 1000000000))))
 .skip)⟩
noncomputable def c_divided:FD:=⟨2,2,(.seq (.ite (.cmp .Eq (.v 1) (.c (.int 0))) (.seq (.ret (.c (.int 0)))
 .skip) .skip)
 (.seq (.ret (.call 0 (.aC (.bin .FloorDiv (.v 0) (.v 1)) .aN) []))
 .skip))⟩
noncomputable def c_left_over:FD:=⟨2,2,(.seq (.ite (.cmp .Eq (.v 1) (.c (.int 0))) (.seq (.ret (.v 0))
 .skip) .skip)
 (.seq (.ret (.bin .Sub (.v 0) (.bin .Mult (.v 1) (.bin .FloorDiv (.v 0) (.v 1)))))
 .skip))⟩
noncomputable def c_reckon:FD:=⟨3,3,(.seq (.ite (.cmp .Eq (.v 1) (.c (.str (S "+")))) (.seq (.ret (.call 0 (.aC (.bin .Add (.v 0) (.v 2)) .aN) []))
 .skip) .skip)
 (.seq (.ite (.cmp .Eq (.v 1) (.c (.str (S "-")))) (.seq (.ret (.call 0 (.aC (.bin .Sub (.v 0) (.v 2)) .aN) []))
 .skip) .skip)
 (.seq (.ite (.cmp .Eq (.v 1) (.c (.str (S "*")))) (.seq (.ret (.call 0 (.aC (.bin .Mult (.v 0) (.v 2)) .aN) []))
 .skip) .skip)
 (.seq (.ite (.cmp .Eq (.v 1) (.c (.str (S "/")))) (.seq (.ret (.call 1 (.aC (.v 0) (.aC (.v 2) .aN)) []))
 .skip) .skip)
 (.seq (.ret (.call 2 (.aC (.v 0) (.aC (.v 2) .aN)) []))
 .skip)))))⟩
noncomputable def c_is_so:FD:=⟨3,3,(.seq (.ite (.cmp .Eq (.v 1) (.c (.str (S "<")))) (.seq (.ret (.cmp .Lt (.v 0) (.v 2)))
 .skip) .skip)
 (.seq (.ite (.cmp .Eq (.v 1) (.c (.str (S "<=")))) (.seq (.ret (.cmp .LtE (.v 0) (.v 2)))
 .skip) .skip)
 (.seq (.ite (.cmp .Eq (.v 1) (.c (.str (S "=")))) (.seq (.ret (.cmp .Eq (.v 0) (.v 2)))
 .skip) .skip)
 (.seq (.ite (.cmp .Eq (.v 1) (.c (.str (S ">=")))) (.seq (.ret (.cmp .GtE (.v 0) (.v 2)))
 .skip) .skip)
 (.seq (.ite (.cmp .Eq (.v 1) (.c (.str (S ">")))) (.seq (.ret (.cmp .Gt (.v 0) (.v 2)))
 .skip) .skip)
 (.seq (.ret (.cmp .NotEq (.v 0) (.v 2)))
 .skip))))))⟩
noncomputable def c_behind:FD:=⟨2,2,(.seq (.ret (.ix (.v 0) (.bin .Mod (.bin .Add (.tix (.v 0) (.aC (.v 1) .aN)) (.c (.int 1))) (.len (.v 0)))))
 .skip)⟩
noncomputable def c_Step_word:FD:=⟨1,1,(.seq (.ret (.c (.str (S "none"))))
 .skip)⟩
noncomputable def c_Step_turned:FD:=⟨3,3,(.seq (.ret (.tupE .aN))
 .skip)⟩
noncomputable def c_Sign_word:FD:=⟨1,1,(.seq (.ret (.c (.str (S "sign"))))
 .skip)⟩
noncomputable def c_Sign_turned:FD:=⟨3,3,(.seq (.ite (.cmp .Eq (.ix (.v 1) (.c (.int 0))) (.c (.str (S "put")))) (.seq (.ret (.tupE (.aC (.call 42 (.aC (.v 1) (.aC (.c (.int 3)) (.aC (.call 70 (.aC (.c (.kt [(S "+"),(S "-"),(S "*"),(S "/"),(S "mod")])) (.aC (.ix (.v 1) (.c (.int 3))) .aN)) []) .aN))) []) .aN)))
 .skip) .skip)
 (.seq (.ite (.cmp .Eq (.ix (.v 1) (.c (.int 0))) (.c (.str (S "if")))) (.seq (.ret (.tupE (.aC (.call 42 (.aC (.v 1) (.aC (.c (.int 2)) (.aC (.call 70 (.aC (.c (.kt [(S "<"),(S "<="),(S "="),(S ">="),(S ">"),(S "!=")])) (.aC (.ix (.v 1) (.c (.int 2))) .aN)) []) .aN))) []) .aN)))
 .skip) .skip)
 (.seq (.ret (.tupE .aN))
 .skip)))⟩
noncomputable def c_More_word:FD:=⟨1,1,(.seq (.ret (.c (.str (S "more"))))
 .skip)⟩
noncomputable def Z9:CS:=(.seq (.ite (.cmp .Eq (.ix (.ix (.v 1) (.v 4)) (.c (.int 0))) (.c (.str (S "number")))) (.seq (.app 3 (.call 42 (.aC (.v 1) (.aC (.v 4) (.aC (.tupE (.aC (.c (.str (S "number"))) (.aC (.call 0 (.aC (.bin .Add (.ix (.ix (.v 1) (.v 4)) (.c (.int 1))) (.c (.int 1))) .aN) []) .aN))) .aN))) []))
 .skip) .skip)
 .skip)
noncomputable def c_More_turned:FD:=⟨3,5,(.seq (.set 3 (.lstE .aN))
 (.seq (.for1 4 false (.call 113 (.aC (.v 1) .aN) []) Z9)
 (.seq (.ret (.tOf (.v 3)))
 .skip)))⟩
noncomputable def c_Turn_word:FD:=⟨1,1,(.seq (.ret (.c (.str (S "turn"))))
 .skip)⟩
noncomputable def c_Turn_turned:FD:=⟨3,3,(.seq (.ite (.cmp .NotEq (.ix (.v 1) (.c (.int 0))) (.c (.str (S "if")))) (.seq (.ret (.tupE .aN))
 .skip) .skip)
 (.seq (.ret (.tupE (.aC (.call 42 (.aC (.v 1) (.aC (.c (.int 2)) (.aC (.look [(S "<"),(S ">="),(S "<="),(S ">"),(S "="),(S "!=")] [(.str (S ">=")),(.str (S "<")),(.str (S ">")),(.str (S "<=")),(.str (S "!=")),(.str (S "="))] (.ix (.v 1) (.c (.int 2)))) .aN))) []) .aN)))
 .skip))⟩
noncomputable def c_Out_word:FD:=⟨1,1,(.seq (.ret (.c (.str (S "out"))))
 .skip)⟩
noncomputable def c_Out_turned:FD:=⟨3,3,(.seq (.ite (.cmp .Eq (.ix (.v 1) (.c (.int 0))) (.c (.str (S "skip")))) (.seq (.ret (.tupE .aN))
 .skip) .skip)
 (.seq (.ret (.tupE (.aC (.tupE (.aC (.c (.str (S "skip"))) .aN)) .aN)))
 .skip))⟩
noncomputable def c_Swap_word:FD:=⟨1,1,(.seq (.ret (.c (.str (S "swap"))))
 .skip)⟩
noncomputable def c_Swap_turned:FD:=⟨3,3,(.seq (.ite (.and (.cmp .Eq (.ix (.v 1) (.c (.int 0))) (.c (.str (S "put")))) (.cmp .NotEq (.ix (.v 1) (.c (.int 2))) (.ix (.v 1) (.c (.int 4))))) (.seq (.ret (.tupE (.aC (.tupE (.aC (.c (.str (S "put"))) (.aC (.ix (.v 1) (.c (.int 1))) (.aC (.ix (.v 1) (.c (.int 4))) (.aC (.ix (.v 1) (.c (.int 3))) (.aC (.ix (.v 1) (.c (.int 2))) .aN)))))) .aN)))
 .skip) .skip)
 (.seq (.ite (.and (.cmp .Eq (.ix (.v 1) (.c (.int 0))) (.c (.str (S "if")))) (.cmp .NotEq (.ix (.v 1) (.c (.int 1))) (.ix (.v 1) (.c (.int 3))))) (.seq (.ret (.tupE (.aC (.tupE (.aC (.c (.str (S "if"))) (.aC (.ix (.v 1) (.c (.int 3))) (.aC (.ix (.v 1) (.c (.int 2))) (.aC (.ix (.v 1) (.c (.int 1))) (.aC (.ix (.v 1) (.c (.int 4))) .aN)))))) .aN)))
 .skip) .skip)
 (.seq (.ret (.tupE .aN))
 .skip)))⟩
noncomputable def c_Far_word:FD:=⟨1,1,(.seq (.ret (.c (.str (S "far"))))
 .skip)⟩
noncomputable def c_Far_turned:FD:=⟨3,3,(.seq (.ite (.or (.cmp .NotIn (.ix (.v 1) (.c (.int 0))) (.tupE (.aC (.c (.str (S "go"))) (.aC (.c (.str (S "if"))) .aN)))) (.cmp .GtE (.ix (.v 1) (.neg (.c (.int 1)))) (.v 2))) (.seq (.ret (.tupE .aN))
 .skip) .skip)
 (.seq (.ret (.tupE (.aC (.bin .Add (.slice (.v 1) .nop (.part (.neg (.c (.int 1))))) (.tupE (.aC (.bin .Add (.ix (.v 1) (.neg (.c (.int 1)))) (.c (.int 1))) .aN))) .aN)))
 .skip))⟩
noncomputable def QI:CE:=(.comp false [4,6] (.meth [(146,148),(169,171),(149,151),(157,159),(152,154),(160,162),(163,165)] (.v 6) (.aC (.v 5) (.aC (.len (.v 1)) .aN))) (.tupE (.aC (.v 1) (.aC (.meth [(146,147),(169,170),(149,150),(157,158),(152,153),(160,161),(163,164)] (.v 2) .aN) (.aC (.v 0) .aN)))) (.c (.bl true)))
noncomputable def XD:CS:=(.seq (.ext 3 QI)
 .skip)
noncomputable def XE:CS:=(.seq (.for1 6 false (.v 2) XD)
 .skip)
noncomputable def c_fakes:FD:=⟨1,7,(.seq (.set 1 (.ix (.v 0) (.c (.int 2))))
 (.seq (.set 2 (.lstE (.aC (.new 169) (.aC (.new 149) (.aC (.new 157) (.aC (.new 152) (.aC (.new 160) (.aC (.new 163) .aN))))))))
 (.seq (.set 3 (.lstE .aN))
 (.seq (.forE 4 5 (.v 1) XE)
 (.seq (.ret (.tOf (.v 3)))
 .skip)))))⟩
noncomputable def c_fake_of:FD:=⟨3,3,(.seq (.ret (.tupE (.aC (.ix (.v 0) (.c (.int 0))) (.aC (.ix (.v 0) (.c (.int 1))) (.aC (.call 42 (.aC (.ix (.v 0) (.c (.int 2))) (.aC (.v 1) (.aC (.v 2) .aN))) []) .aN)))))
 .skip)⟩
noncomputable def c_worth:FD:=⟨2,2,(.seq (.ite (.cmp .Eq (.ix (.v 0) (.c (.int 0))) (.c (.str (S "name")))) (.seq (.ret (.ix (.v 1) (.ix (.v 0) (.c (.int 1)))))
 .skip) .skip)
 (.seq (.ret (.ix (.v 0) (.c (.int 1))))
 .skip))⟩
noncomputable def c_began:FD:=⟨2,2,(.seq (.ret (.tupE (.aC (.c (.int 0)) (.aC (.bin .Add (.v 1) (.bin .Mult (.tupE (.aC (.c (.int 0)) .aN)) (.bin .Sub (.ix (.v 0) (.c (.int 1))) (.len (.v 1))))) .aN))))
 .skip)⟩
noncomputable def c_at_end:FD:=⟨2,2,(.seq (.ret (.cmp .GtE (.ix (.v 1) (.c (.int 0))) (.len (.ix (.v 0) (.c (.int 2))))))
 .skip)⟩
noncomputable def c_values_behind:FD:=⟨2,3,(.seq (.ite (.cmp .NotEq (.ix (.v 0) (.c (.int 0))) (.c (.str (S "put")))) (.seq (.ret (.v 1))
 .skip) .skip)
 (.seq (.set 2 (.call 3 (.aC (.call 5 (.aC (.ix (.v 0) (.c (.int 2))) (.aC (.v 1) .aN)) []) (.aC (.ix (.v 0) (.c (.int 3))) (.aC (.call 5 (.aC (.ix (.v 0) (.c (.int 4))) (.aC (.v 1) .aN)) []) .aN))) []))
 (.seq (.ret (.call 42 (.aC (.v 1) (.aC (.ix (.v 0) (.c (.int 1))) (.aC (.v 2) .aN))) []))
 .skip)))⟩
noncomputable def c_place_behind:FD:=⟨3,3,(.seq (.ite (.cmp .Eq (.ix (.v 0) (.c (.int 0))) (.c (.str (S "go")))) (.seq (.ret (.ix (.v 0) (.c (.int 1))))
 .skip) .skip)
 (.seq (.ite (.and (.cmp .Eq (.ix (.v 0) (.c (.int 0))) (.c (.str (S "if")))) (.call 4 (.aC (.call 5 (.aC (.ix (.v 0) (.c (.int 1))) (.aC (.v 2) .aN)) []) (.aC (.ix (.v 0) (.c (.int 2))) (.aC (.call 5 (.aC (.ix (.v 0) (.c (.int 3))) (.aC (.v 2) .aN)) []) .aN))) [])) (.seq (.ret (.ix (.v 0) (.c (.int 4))))
 .skip) .skip)
 (.seq (.ret (.bin .Add (.v 1) (.c (.int 1))))
 .skip)))⟩
noncomputable def c_moved:FD:=⟨2,5,(.seq (.ite (.call 7 (.aC (.v 0) (.aC (.v 1) .aN)) []) (.seq (.ret (.tupE (.aC (.c (.str (S "none"))) .aN)))
 .skip) .skip)
 (.seq (.set 2 (.ix (.v 1) (.c (.int 0))))
 (.seq (.set 3 (.ix (.v 1) (.c (.int 1))))
 (.seq (.set 4 (.ix (.ix (.v 0) (.c (.int 2))) (.v 2)))
 (.seq (.ite (.cmp .Eq (.ix (.v 4) (.c (.int 0))) (.c (.str (S "tell")))) (.seq (.ret (.tupE (.aC (.c (.str (S "told"))) (.aC (.call 5 (.aC (.ix (.v 4) (.c (.int 1))) (.aC (.v 3) .aN)) []) .aN))))
 .skip) .skip)
 (.seq (.ret (.tupE (.aC (.call 9 (.aC (.v 4) (.aC (.v 2) (.aC (.v 3) .aN))) []) (.aC (.call 8 (.aC (.v 4) (.aC (.v 3) .aN)) []) .aN))))
 .skip))))))⟩
noncomputable def c_is_outcome:FD:=⟨1,1,(.seq (.ret (.isi .str (.ix (.v 0) (.c (.int 0)))))
 .skip)⟩
noncomputable def ZB:CS:=(.seq (.set 6 (.call 10 (.aC (.v 0) (.aC (.v 3) .aN)) []))
 (.seq (.app 4 (.v 6))
 (.seq (.ite (.call 11 (.aC (.v 6) .aN) []) (.seq (.ret (.tOf (.v 4)))
 .skip) .skip)
 (.seq (.set 3 (.v 6))
 .skip))))
noncomputable def c_trail:FD:=⟨3,7,(.seq (.set 3 (.call 6 (.aC (.v 0) (.aC (.v 1) .aN)) []))
 (.seq (.set 4 (.lstE (.aC (.v 3) .aN)))
 (.seq (.for1 5 true (.v 2) ZB)
 (.seq (.app 4 (.ife (.call 7 (.aC (.v 0) (.aC (.v 3) .aN)) []) (.tupE (.aC (.c (.str (S "none"))) .aN)) (.tupE (.aC (.c (.str (S "late"))) .aN))))
 (.seq (.ret (.tOf (.v 4)))
 .skip)))))⟩
noncomputable def XW:CE:=(.comp false [] (.v 1) (.ix (.v 0) (.c (.int 0))) (.c (.bl true)))
noncomputable def c_places_done:FD:=⟨1,2,(.seq (.set 1 (.slice (.v 0) .nop (.part (.neg (.c (.int 1))))))
 (.seq (.ite (.cmp .NotEq (.ix (.ix (.v 0) (.neg (.c (.int 1)))) (.c (.int 0))) (.c (.str (S "told")))) (.seq (.set 1 (.slice (.v 1) .nop (.part (.neg (.c (.int 1))))))
 .skip) .skip)
 (.seq (.ret XW)
 .skip)))⟩
noncomputable def XN:CS:=(.seq (.set 1 (.bin .BitOr (.v 1) (.call 43 (.aC (.v 2) .aN) [])))
 .skip)
noncomputable def c_seen_in:FD:=⟨1,3,(.seq (.set 1 (.c (.int 0)))
 (.seq (.for1 2 false (.call 14 (.aC (.v 0) .aN) []) XN)
 (.seq (.ret (.v 1))
 .skip)))⟩
noncomputable def c_check_trials:FD:=⟨1,1,(.seq (.ite (.cmp .Gt (.len (.v 0)) (.c (.int 10))) (.seq .stop
 .skip) .skip)
 .skip)⟩
noncomputable def Zz:CS:=(.seq (.ite (.cmp .NotEq (.v 4) (.v 5)) (.seq (.set 2 (.bin .Add (.v 2) (.v 3)))
 .skip) .skip)
 (.seq (.set 3 (.bin .Mult (.v 3) (.c (.int 2))))
 .skip))
noncomputable def c_bits_unlike:FD:=⟨2,6,(.seq (.set 2 (.c (.int 0)))
 (.seq (.set 3 (.c (.int 1)))
 (.seq (.forP 4 5 (.aC (.v 0) (.aC (.v 1) .aN)) Zz)
 (.seq (.ret (.v 2))
 .skip))))⟩
noncomputable def c_codes_of:FD:=⟨1,1,(.seq (.ret (.comp3 [] (.call 172 (.aC (.v 0) .aN) []) (.tupE (.aC (.v 0) (.aC (.v 2) .aN))) (.c (.bl true))))
 .skip)⟩
noncomputable def c_stays:FD:=⟨4,4,(.seq (.ite (.cmp .Eq (.v 0) (.c (.tup []))) (.seq (.ret (.not (.call 114 (.aC (.v 1) (.aC (.v 2) .aN)) [])))
 .skip) .skip)
 (.seq (.ret (.and (.cmp .In (.v 0) (.v 3)) (.or (.cmp .Eq (.ix (.v 0) (.c (.int 0))) (.v 2)) (.not (.call 114 (.aC (.v 1) (.aC (.v 2) .aN)) [])))))
 .skip))⟩
noncomputable def c_Book___init__:FD:=⟨4,4,(.seq (.act (.call 181 (.aC (.v 2) .aN) []))
 (.seq (.fset 0 (S "program") (.v 1))
 (.seq (.fset 0 (S "trials") (.v 2))
 (.seq (.fset 0 (S "limit") (.v 3))
 (.seq (.fset 0 (S "kept") .dnew)
 (.seq (.fset 0 (S "done") (.c (.int 0)))
 .skip))))))⟩
noncomputable def c_Book_program_of:FD:=⟨2,2,(.seq (.ite (.cmp .Eq (.v 1) (.c (.tup []))) (.seq (.ret (.fld (S "program") (.v 0)))
 .skip) .skip)
 (.seq (.ret (.call 180 (.aC (.fld (S "program") (.v 0)) (.aC (.ix (.v 1) (.c (.int 0))) (.aC (.ix (.v 1) (.c (.int 1))) .aN))) []))
 .skip))⟩
noncomputable def c_Book_outcome_of:FD:=⟨3,4,(.seq (.ite (.cmp .NotIn (.tupE (.aC (.v 1) (.aC (.v 2) .aN))) (.fld (S "kept") (.v 0))) (.seq (.set 3 (.call 12 (.aC (.meth [(263,265)] (.v 0) (.aC (.v 1) .aN)) (.aC (.v 2) (.aC (.fld (S "limit") (.v 0)) .aN))) []))
 (.seq (.dput 0 (.fld (S "kept") (.v 0)) (.tupE (.aC (.v 1) (.aC (.v 2) .aN))) (.tupE (.aC (.ix (.v 3) (.neg (.c (.int 1)))) (.aC (.call 44 (.aC (.v 3) .aN) []) .aN))))
 (.seq (.fset 0 (S "done") (.bin .Add (.fld (S "done") (.v 0)) (.c (.int 1))))
 .skip))) .skip)
 (.seq (.ret (.ix (.ix (.fld (S "kept") (.v 0)) (.tupE (.aC (.v 1) (.aC (.v 2) .aN)))) (.c (.int 0))))
 .skip))⟩
noncomputable def YR:CE:=(.comp false [1,0] (.fld (S "trials") (.v 0)) (.meth [(263,266)] (.v 2) (.aC (.v 1) (.aC (.v 0) .aN))) (.c (.bl true)))
noncomputable def c_Book_outcomes_of:FD:=⟨2,2,(.seq (.ret YR)
 .skip)⟩
noncomputable def Xa:CE:=(.comp false [1,0] (.call 262 (.aC (.fld (S "program") (.v 0)) .aN) []) (.call 183 (.aC (.v 1) (.aC (.meth [(263,267)] (.v 2) (.aC (.v 0) .aN)) .aN)) []) (.c (.bl true)))
noncomputable def c_Book_bits:FD:=⟨1,2,(.seq (.set 1 (.meth [(263,267)] (.v 0) (.aC (.c (.tup [])) .aN)))
 (.seq (.ret (.tOf Xa))
 .skip))⟩
noncomputable def c_Book_runs:FD:=⟨1,1,(.seq (.ret (.fld (S "done") (.v 0)))
 .skip)⟩
noncomputable def c_Book_now:FD:=⟨1,1,(.seq (.ret (.fld (S "program") (.v 0)))
 .skip)⟩
noncomputable def c_Book_change:FD:=⟨3,7,(.seq (.fset 0 (S "program") (.call 180 (.aC (.fld (S "program") (.v 0)) (.aC (.v 1) (.aC (.v 2) .aN))) []))
 (.seq (.set 3 (.call 262 (.aC (.fld (S "program") (.v 0)) .aN) []))
 (.seq (.set 4 .dnew)
 (.seq (.forI 5 6 (.fld (S "kept") (.v 0)) (.seq (.ite (.call 273 (.aC (.ix (.v 5) (.c (.int 0))) (.aC (.ix (.v 6) (.c (.int 1))) (.aC (.v 1) (.aC (.v 3) .aN)))) []) (.seq (.put 4 (.v 5) (.v 6))
 .skip) .skip)
 .skip))
 (.seq (.fset 0 (S "kept") (.v 4))
 .skip)))))⟩
noncomputable def c_Book_add:FD:=⟨2,3,(.seq (.set 2 (.bin .Add (.fld (S "trials") (.v 0)) (.tupE (.aC (.v 1) .aN))))
 (.seq (.act (.call 181 (.aC (.v 2) .aN) []))
 (.seq (.fset 0 (S "trials") (.v 2))
 .skip)))⟩
noncomputable def c__law_whole:FD:=⟨1,1,(.seq (.ret (.and (.isi .int (.v 0)) (.not (.isi .bool (.v 0)))))
 .skip)⟩
noncomputable def c__law_cell_at:FD:=⟨2,2,(.seq (.ite (.cmp .Lt (.v 1) (.len (.v 0))) (.seq (.ret (.ix (.v 0) (.v 1)))
 .skip) .skip)
 (.seq (.ret (.bin .Mod (.bin .Mult (.bin .Add (.bin .Mod (.ix (.bin .Add (.v 0) (.lstE (.aC (.c (.int 0)) .aN))) (.c (.int 0))) (.c (.int 1000003))) (.c (.int 41))) (.bin .Add (.bin .Mult (.v 1) (.v 1)) (.c (.int 100003)))) (.c (.int 2147483647))))
 .skip))⟩
noncomputable def c__law_number:FD:=⟨1,1,(.seq (.ite (.cmp .Eq (.bin .Mod (.v 0) (.c (.int 4))) (.c (.int 0))) (.seq (.ret (.bin .Sub (.bin .Mod (.bin .FloorDiv (.v 0) (.c (.int 4))) (.c (.int 2000000000))) (.c (.int 1000000000))))
 .skip) .skip)
 (.seq (.ite (.cmp .Eq (.bin .Mod (.v 0) (.c (.int 4))) (.c (.int 1))) (.seq (.ret (.ix (.lstE (.aC (.c (.int 999999999)) (.aC (.neg (.c (.int 1000000000))) (.aC (.neg (.c (.int 1))) (.aC (.c (.int 0)) (.aC (.c (.int 1)) .aN)))))) (.bin .Mod (.bin .FloorDiv (.v 0) (.c (.int 4))) (.c (.int 5)))))
 .skip) .skip)
 (.seq (.ret (.bin .Sub (.bin .Mod (.bin .FloorDiv (.v 0) (.c (.int 4))) (.c (.int 7))) (.c (.int 3))))
 .skip)))⟩
noncomputable def c__law_operand:FD:=⟨2,2,(.seq (.ite (.cmp .Eq (.bin .Mod (.v 0) (.c (.int 3))) (.c (.int 0))) (.seq (.ret (.tupE (.aC (.c (.str (S "number"))) (.aC (.call 185 (.aC (.bin .FloorDiv (.v 0) (.c (.int 3))) .aN) []) .aN))))
 .skip) .skip)
 (.seq (.ret (.tupE (.aC (.c (.str (S "name"))) (.aC (.bin .Mod (.bin .FloorDiv (.v 0) (.c (.int 3))) (.v 1)) .aN))))
 .skip))⟩
noncomputable def c__law_row:FD:=⟨3,6,(.seq (.set 3 (.bin .FloorDiv (.ix (.v 0) (.c (.int 0))) (.c (.int 8))))
 (.seq (.set 4 (.call 28 (.aC (.ix (.v 0) (.c (.int 1))) (.aC (.v 1) .aN)) []))
 (.seq (.set 5 (.call 28 (.aC (.ix (.v 0) (.c (.int 2))) (.aC (.v 1) .aN)) []))
 (.seq (.ite (.cmp .Lt (.bin .Mod (.ix (.v 0) (.c (.int 0))) (.c (.int 8))) (.c (.int 3))) (.seq (.ret (.tupE (.aC (.c (.str (S "put"))) (.aC (.bin .Mod (.v 3) (.v 1)) (.aC (.v 4) (.aC (.ix (.lstE (.aC (.c (.str (S "+"))) (.aC (.c (.str (S "-"))) (.aC (.c (.str (S "*"))) (.aC (.c (.str (S "/"))) (.aC (.c (.str (S "mod"))) .aN)))))) (.bin .Mod (.bin .FloorDiv (.v 3) (.v 1)) (.c (.int 5)))) (.aC (.v 5) .aN)))))))
 .skip) .skip)
 (.seq (.ite (.cmp .Lt (.bin .Mod (.ix (.v 0) (.c (.int 0))) (.c (.int 8))) (.c (.int 6))) (.seq (.ret (.tupE (.aC (.c (.str (S "if"))) (.aC (.v 4) (.aC (.ix (.lstE (.aC (.c (.str (S "<"))) (.aC (.c (.str (S "<="))) (.aC (.c (.str (S "="))) (.aC (.c (.str (S ">="))) (.aC (.c (.str (S ">"))) (.aC (.c (.str (S "!="))) .aN))))))) (.bin .Mod (.v 3) (.c (.int 6)))) (.aC (.v 5) (.aC (.bin .Mod (.bin .FloorDiv (.v 3) (.c (.int 6))) (.bin .Add (.v 2) (.c (.int 1)))) .aN)))))))
 .skip) .skip)
 (.seq (.ite (.cmp .Eq (.bin .Mod (.ix (.v 0) (.c (.int 0))) (.c (.int 8))) (.c (.int 6))) (.seq (.ret (.tupE (.aC (.c (.str (S "tell"))) (.aC (.v 5) .aN))))
 .skip) .skip)
 (.seq (.ret (.ix (.lstE (.aC (.tupE (.aC (.c (.str (S "skip"))) .aN)) (.aC (.tupE (.aC (.c (.str (S "go"))) (.aC (.bin .Mod (.bin .FloorDiv (.v 3) (.c (.int 2))) (.bin .Add (.v 2) (.c (.int 1)))) .aN))) .aN))) (.bin .Mod (.v 3) (.c (.int 2)))))
 .skip)))))))⟩
noncomputable def c__law_round:FD:=⟨1,1,(.seq (.ret (.bin .Sub (.bin .Mod (.bin .Add (.v 0) (.c (.int 1000000000))) (.c (.int 2000000000))) (.c (.int 1000000000))))
 .skip)⟩
noncomputable def c__law_sum:FD:=⟨3,3,(.seq (.ite (.cmp .Eq (.v 1) (.c (.str (S "+")))) (.seq (.ret (.call 89 (.aC (.bin .Add (.v 0) (.v 2)) .aN) []))
 .skip) .skip)
 (.seq (.ite (.cmp .Eq (.v 1) (.c (.str (S "-")))) (.seq (.ret (.call 89 (.aC (.bin .Sub (.v 0) (.v 2)) .aN) []))
 .skip) .skip)
 (.seq (.ite (.cmp .Eq (.v 1) (.c (.str (S "*")))) (.seq (.ret (.call 89 (.aC (.bin .Mult (.v 0) (.v 2)) .aN) []))
 .skip) .skip)
 (.seq (.ite (.cmp .Eq (.v 1) (.c (.str (S "/")))) (.seq (.ret (.ife (.cmp .Eq (.v 2) (.c (.int 0))) (.c (.int 0)) (.call 89 (.aC (.bin .FloorDiv (.v 0) (.v 2)) .aN) [])))
 .skip) .skip)
 (.seq (.ret (.ife (.cmp .Eq (.v 2) (.c (.int 0))) (.v 0) (.bin .Sub (.v 0) (.bin .Mult (.v 2) (.bin .FloorDiv (.v 0) (.v 2))))))
 .skip)))))⟩
noncomputable def c__law_so:FD:=⟨3,3,(.seq (.ite (.cmp .Lt (.v 0) (.v 2)) (.seq (.ret (.cmp .In (.v 1) (.lstE (.aC (.c (.str (S "<"))) (.aC (.c (.str (S "<="))) (.aC (.c (.str (S "!="))) .aN))))))
 .skip) .skip)
 (.seq (.ite (.cmp .Gt (.v 0) (.v 2)) (.seq (.ret (.cmp .In (.v 1) (.lstE (.aC (.c (.str (S ">"))) (.aC (.c (.str (S ">="))) (.aC (.c (.str (S "!="))) .aN))))))
 .skip) .skip)
 (.seq (.ret (.cmp .In (.v 1) (.lstE (.aC (.c (.str (S "<="))) (.aC (.c (.str (S "="))) (.aC (.c (.str (S ">="))) .aN))))))
 .skip)))⟩
noncomputable def c__law_worth:FD:=⟨2,2,(.seq (.ite (.cmp .Eq (.ix (.v 0) (.c (.int 0))) (.c (.str (S "name")))) (.seq (.ret (.ix (.v 1) (.ix (.v 0) (.c (.int 1)))))
 .skip) .skip)
 (.seq (.ret (.ix (.v 0) (.c (.int 1))))
 .skip))⟩
noncomputable def c__law_run:FD:=⟨4,9,(.seq (.set 4 (.bin .Add (.listOf (.v 2)) (.bin .Mult (.lstE (.aC (.c (.int 0)) .aN)) (.bin .Sub (.v 1) (.len (.v 2))))))
 (.seq (.set 5 (.c (.int 0)))
 (.seq (.set 6 (.lstE .aN))
 (.seq (.whl (.and (.cmp .Lt (.len (.v 6)) (.v 3)) (.cmp .Lt (.v 5) (.len (.v 0)))) (.seq (.set 7 (.ix (.v 0) (.v 5)))
 (.seq (.app 6 (.v 5))
 (.seq (.set 5 (.bin .Add (.v 5) (.c (.int 1))))
 (.seq (.ite (.cmp .Eq (.ix (.v 7) (.c (.int 0))) (.c (.str (S "tell")))) (.seq (.ret (.tupE (.aC (.tupE (.aC (.c (.str (S "told"))) (.aC (.call 34 (.aC (.ix (.v 7) (.c (.int 1))) (.aC (.v 4) .aN)) []) .aN))) (.aC (.v 6) .aN))))
 .skip) .skip)
 (.seq (.ite (.cmp .Eq (.ix (.v 7) (.c (.int 0))) (.c (.str (S "put")))) (.seq (.put 4 (.ix (.v 7) (.c (.int 1))) (.call 187 (.aC (.call 34 (.aC (.ix (.v 7) (.c (.int 2))) (.aC (.v 4) .aN)) []) (.aC (.ix (.v 7) (.c (.int 3))) (.aC (.call 34 (.aC (.ix (.v 7) (.c (.int 4))) (.aC (.v 4) .aN)) []) .aN))) []))
 .skip) .skip)
 (.seq (.ite (.cmp .Eq (.ix (.v 7) (.c (.int 0))) (.c (.str (S "go")))) (.seq (.set 5 (.ix (.v 7) (.c (.int 1))))
 .skip) .skip)
 (.seq (.ite (.cmp .Eq (.ix (.v 7) (.c (.int 0))) (.c (.str (S "if")))) (.seq (.set 8 (.call 34 (.aC (.ix (.v 7) (.c (.int 1))) (.aC (.v 4) .aN)) []))
 (.seq (.ite (.call 33 (.aC (.v 8) (.aC (.ix (.v 7) (.c (.int 2))) (.aC (.call 34 (.aC (.ix (.v 7) (.c (.int 3))) (.aC (.v 4) .aN)) []) .aN))) []) (.seq (.set 5 (.ix (.v 7) (.c (.int 4))))
 .skip) .skip)
 .skip)) .skip)
 .skip))))))))
 (.seq (.ite (.cmp .Eq (.v 5) (.len (.v 0))) (.seq (.ret (.tupE (.aC (.tupE (.aC (.c (.str (S "none"))) .aN)) (.aC (.v 6) .aN))))
 .skip) .skip)
 (.seq (.ret (.tupE (.aC (.tupE (.aC (.c (.str (S "late"))) .aN)) (.aC (.v 6) .aN))))
 .skip))))))⟩
noncomputable def Xo:CE:=(.comp false [2,4,5] (.v 1) (.ix (.call 40 (.aC (.v 3) (.aC (.v 2) (.aC (.v 0) (.aC (.v 1) .aN)))) []) (.c (.int 0))) (.c (.bl true)))
noncomputable def ZR:CS:=(.seq (.ite (.cmp .NotEq (.ix (.call 40 (.aC (.v 11) (.aC (.v 4) (.aC (.ix (.v 1) (.v 13)) (.aC (.v 2) .aN)))) []) (.c (.int 0))) (.ix (.v 6) (.v 13))) (.seq (.set 12 (.bin .Add (.v 12) (.bin .LShift (.c (.int 1)) (.v 13))))
 .skip) .skip)
 .skip)
noncomputable def c__law_due:FD:=⟨3,14,(.seq (.set3 3 4 5 (.v 0))
 (.seq (.set 6 Xo)
 (.seq (.set 7 (.lstE .aN))
 (.seq (.for4 8 9 10 (.call 172 (.aC (.v 0) .aN) []) (.seq (.set 11 (.bin .Add (.bin .Add (.slice (.v 5) .nop (.part (.v 8))) (.tupE (.aC (.v 10) .aN))) (.slice (.v 5) (.part (.bin .Add (.v 8) (.c (.int 1)))) .nop)))
 (.seq (.set 12 (.c (.int 0)))
 (.seq (.for1 13 true (.len (.v 1)) ZR)
 (.seq (.app 7 (.v 12))
 .skip)))))
 (.seq (.ret (.v 7))
 .skip)))))⟩
noncomputable def Z1:CE:=(.comp false [] (.v 0) (.v 0) (.not (.call 17 (.aC (.v 0) .aN) [])))
noncomputable def c__law_alike:FD:=⟨2,2,(.seq (.ite (.or (.not (.isi .tuple (.v 0))) (.cmp .NotEq Z1 (.lstE .aN))) (.seq (.ret (.c (.bl false)))
 .skip) .skip)
 (.seq (.ret (.cmp .Eq (.listOf (.v 0)) (.v 1)))
 .skip))⟩
noncomputable def Xp:CE:=(.comp true [6,0] (.c (.int 3)) (.call 27 (.aC (.v 2) (.aC (.bin .Add (.bin .Add (.c (.int 3)) (.bin .Mult (.c (.int 3)) (.v 1))) (.v 0)) .aN)) []) (.c (.bl true)))
noncomputable def Yl:CS:=(.seq (.app 5 (.call 29 (.aC Xp (.aC (.v 3) (.aC (.v 4) .aN))) []))
 .skip)
noncomputable def c__law_programs:FD:=⟨1,9,(.seq (.set 1 (.call 27 (.aC (.v 0) (.aC (.c (.int 0)) .aN)) []))
 (.seq (.set 2 (.bin .Mod (.v 1) (.c (.int 3))))
 (.seq (.set 3 (.bin .Add (.max (.c (.int 1)) (.v 2)) (.bin .Mod (.bin .FloorDiv (.v 1) (.c (.int 3))) (.bin .Sub (.c (.int 6)) (.max (.c (.int 1)) (.v 2))))))
 (.seq (.set 4 (.bin .Add (.bin .Mod (.call 27 (.aC (.v 0) (.aC (.c (.int 1)) .aN)) []) (.c (.int 3))) (.c (.int 1))))
 (.seq (.set 5 (.lstE .aN))
 (.seq (.for1 6 true (.bin .Add (.v 4) (.c (.int 1))) Yl)
 (.seq (.set 6 (.bin .Mod (.bin .FloorDiv (.call 27 (.aC (.v 0) (.aC (.c (.int 1)) .aN)) []) (.c (.int 3))) (.v 4)))
 (.seq (.set 7 (.bin .Mult (.tupE (.aC (.tupE (.aC (.neg (.c (.int 1000000000))) (.aC (.c (.int 0)) .aN))) .aN)) (.v 2)))
 (.seq (.set 8 (.tOf (.slice (.v 5) .nop (.part (.v 4)))))
 (.seq (.ret (.tupE (.aC (.v 6) (.aC (.tupE (.aC (.v 7) (.aC (.v 3) (.aC (.v 8) .aN)))) (.aC (.tupE (.aC (.v 7) (.aC (.v 3) (.aC (.bin .Add (.bin .Add (.slice (.v 8) .nop (.part (.v 6))) (.tupE (.aC (.ix (.v 5) (.v 4)) .aN))) (.slice (.v 8) (.part (.bin .Add (.v 6) (.c (.int 1)))) .nop)) .aN)))) .aN)))))
 .skip))))))))))⟩
noncomputable def XV:CE:=(.comp true [1,0] (.v 2) (.call 185 (.aC (.call 27 (.aC (.v 2) (.aC (.bin .Add (.v 1) (.v 0)) .aN)) []) .aN) []) (.c (.bl true)))
noncomputable def c__law_inputs:FD:=⟨3,3,(.seq (.ret (.tOf XV))
 .skip)⟩
noncomputable def c__law_asked:FD:=⟨2,7,(.seq (.set4 2 3 4 5 (.v 0))
 (.seq (.ite (.cmp .NotEq (.meth [(263,270)] (.v 2) .aN) (.v 3)) (.seq (.ret (.c (.bl false)))
 .skip) .skip)
 (.seq (.set 6 (.meth [(263,268)] (.v 2) .aN))
 (.seq (.ite (.not (.call 36 (.aC (.v 6) (.aC (.call 38 (.aC (.v 3) (.aC (.v 4) (.aC (.v 5) .aN))) []) .aN)) [])) (.seq (.ret (.c (.bl false)))
 .skip) .skip)
 (.seq (.app 1 (.tupE (.aC (.v 6) (.aC (.listOf (.v 6)) .aN))))
 (.seq (.ret (.c (.bl true)))
 .skip))))))⟩
noncomputable def c__law_deed:FD:=⟨4,10,(.seq (.set4 4 5 6 7 (.v 0))
 (.seq (.ite (.cmp .Eq (.bin .Mod (.v 1) (.c (.int 3))) (.c (.int 0))) (.seq (.ret (.call 276 (.aC (.v 0) (.aC (.v 3) .aN)) []))
 .skip) .skip)
 (.seq (.ite (.and (.cmp .Eq (.bin .Mod (.v 1) (.c (.int 3))) (.c (.int 1))) (.cmp .Lt (.len (.v 6)) (.c (.int 3)))) (.seq (.set 8 (.bin .Sub (.bin .Mod (.bin .FloorDiv (.v 1) (.c (.int 3))) (.c (.int 2000000000))) (.c (.int 1000000000))))
 (.seq (.set 9 (.slice (.tupE (.aC (.v 8) (.aC (.bin .Sub (.bin .Mod (.bin .FloorDiv (.v 1) (.c (.int 6))) (.c (.int 5))) (.c (.int 2))) .aN))) .nop (.part (.len (.ix (.v 5) (.c (.int 0)))))))
 (.seq (.app 6 (.v 9))
 (.seq (.ret (.cmp .Is (.meth [(263,272)] (.v 4) (.aC (.v 9) .aN)) (.c .non)))
 .skip)))) .skip)
 (.seq (.put 0 (.c (.int 1)) (.ix (.v 2) (.bin .Add (.c (.int 1)) (.bin .Mod (.bin .FloorDiv (.v 1) (.c (.int 3))) (.c (.int 2))))))
 (.seq (.ret (.cmp .Is (.meth [(263,271)] (.v 4) (.aC (.ix (.v 2) (.c (.int 0))) (.aC (.ix (.ix (.ix (.v 0) (.c (.int 1))) (.c (.int 2))) (.ix (.v 2) (.c (.int 0)))) .aN))) (.c .non)))
 .skip)))))⟩
noncomputable def XQ:CE:=(.comp true [3,5,0] (.bin .Mod (.bin .FloorDiv (.v 4) (.c (.int 2))) (.c (.int 3))) (.call 101 (.aC (.v 3) (.aC (.bin .Add (.bin .Add (.c (.int 17)) (.bin .Mult (.c (.int 4)) (.v 1))) (.bin .Mult (.c (.int 2)) (.v 0))) (.aC (.len (.ix (.v 2) (.c (.int 0)))) .aN))) []) (.c (.bl true)))
noncomputable def ZN:CS:=(.seq (.set 3 (.bin .Mod (.v 4) (.c (.int 2))))
 (.seq (.set 9 (.meth [(263,269)] (.ix (.ix (.v 2) (.bin .Sub (.c (.int 1)) (.v 3))) (.c (.int 0))) .aN))
 (.seq (.ite (.or (.not (.call 277 (.aC (.ix (.v 2) (.v 3)) (.aC (.bin .FloorDiv (.v 4) (.c (.int 2))) (.aC (.v 1) (.aC (.v 8) .aN)))) [])) (.cmp .NotEq (.meth [(263,269)] (.ix (.ix (.v 2) (.bin .Sub (.c (.int 1)) (.v 3))) (.c (.int 0))) .aN) (.v 9))) (.seq (.ret (.c (.bl false)))
 .skip) .skip)
 .skip)))
noncomputable def Ym:CS:=(.seq (.set 4 (.call 27 (.aC (.v 0) (.aC (.bin .Add (.c (.int 15)) (.v 3)) .aN)) []))
 (.seq (.set 5 (.ix (.v 1) (.bin .Add (.c (.int 1)) (.bin .Mult (.v 3) (.bin .Mod (.v 4) (.c (.int 2)))))))
 (.seq (.set 6 XQ)
 (.seq (.set 7 (.bin .Mod (.bin .FloorDiv (.v 4) (.c (.int 6))) (.c (.int 7))))
 (.seq (.app 2 (.lstE (.aC (.mk 263 264 (.aC (.v 5) (.aC (.tOf (.v 6)) (.aC (.v 7) .aN))) []) (.aC (.v 5) (.aC (.v 6) (.aC (.v 7) .aN))))))
 .skip)))))
noncomputable def c_law_k74:FD:=⟨1,11,(.seq (.set 1 (.call 197 (.aC (.v 0) .aN) []))
 (.seq (.set 2 (.lstE .aN))
 (.seq (.for1 3 true (.c (.int 2)) Ym)
 (.seq (.set 8 (.lstE .aN))
 (.seq (.for1 4 false (.slice (.v 0) (.part (.c (.int 25))) (.part (.c (.int 31)))) ZN)
 (.seq (.set 10 (.bin .Mod (.call 27 (.aC (.v 0) (.aC (.c (.int 2)) .aN)) []) (.c (.int 2))))
 (.seq (.ite (.or (.not (.call 276 (.aC (.ix (.v 2) (.v 10)) (.aC (.v 8) .aN)) [])) (.not (.call 276 (.aC (.ix (.v 2) (.bin .Sub (.c (.int 1)) (.v 10))) (.aC (.v 8) .aN)) []))) (.seq (.ret (.c (.bl false)))
 .skip) .skip)
 (.seq (.ret (.cmp .Eq (.compT [] (.v 8) (.c (.int 1)) (.cmp .NotEq (.listOf (.v 0)) (.v 1))) (.lstE .aN)))
 .skip))))))))⟩
end Dp

noncomputable section
namespace Dp
open PySem
noncomputable def T:Nat->Ot FD
 |42=>some c_replaced
 |113=>some c_operand_places
 |43=>some c_bit_of
 |114=>some c_has_bit
 |0=>some c_around
 |1=>some c_divided
 |2=>some c_left_over
 |3=>some c_reckon
 |4=>some c_is_so
 |70=>some c_behind
 |147=>some c_Step_word
 |148=>some c_Step_turned
 |170=>some c_Sign_word
 |171=>some c_Sign_turned
 |150=>some c_More_word
 |151=>some c_More_turned
 |158=>some c_Turn_word
 |159=>some c_Turn_turned
 |153=>some c_Out_word
 |154=>some c_Out_turned
 |161=>some c_Swap_word
 |162=>some c_Swap_turned
 |164=>some c_Far_word
 |165=>some c_Far_turned
 |172=>some c_fakes
 |180=>some c_fake_of
 |5=>some c_worth
 |6=>some c_began
 |7=>some c_at_end
 |8=>some c_values_behind
 |9=>some c_place_behind
 |10=>some c_moved
 |11=>some c_is_outcome
 |12=>some c_trail
 |14=>some c_places_done
 |44=>some c_seen_in
 |181=>some c_check_trials
 |183=>some c_bits_unlike
 |262=>some c_codes_of
 |273=>some c_stays
 |264=>some c_Book___init__
 |265=>some c_Book_program_of
 |266=>some c_Book_outcome_of
 |267=>some c_Book_outcomes_of
 |268=>some c_Book_bits
 |269=>some c_Book_runs
 |270=>some c_Book_now
 |271=>some c_Book_change
 |272=>some c_Book_add
 |17=>some c__law_whole
 |27=>some c__law_cell_at
 |185=>some c__law_number
 |28=>some c__law_operand
 |29=>some c__law_row
 |89=>some c__law_round
 |187=>some c__law_sum
 |33=>some c__law_so
 |34=>some c__law_worth
 |40=>some c__law_run
 |38=>some c__law_due
 |36=>some c__law_alike
 |197=>some c__law_programs
 |101=>some c__law_inputs
 |276=>some c__law_asked
 |277=>some c__law_deed
 |16=>some c_law_k74
 |_=>none
structure Grw(s s':Za):Prop where
 old:∀ i,i < s.length->s'[i]?=s[i]?
 len:s.length<=s'.length
variable{α:Type}{ρ':Env}{wk:D->Za->Ot (Li D×(Za->Prop))}{fr:Li Nat}{it elt:CE}{lo hi:Ot Int}
section
variable {F:Nat->Fn}{s s' s1 s2 st:Za}{e a b c:CE}{ρ:Env}{d x y z:D}{q p:CS}{n f i j w:Nat}{xs ds:Li D}{k m:Bool}{t:Z4}
theorem Zd{l:Li α}{x:α}(h:l[i]?=some x):i < l.length:=(bE.mp h).1
theorem Grw.refl:Grw s s:=⟨fun _ _=>rfl,aD _⟩
theorem Grw.trans(a:Grw s s1)(b:Grw s1 s2):Grw s s2:=⟨fun i h=>(b.old i (aS h a.len)).trans (a.old i h),aM a.len b.len⟩
theorem Grw.get(g:Grw s s')(h:s[i]?=some t):s'[i]?=some t:=(g.old i (Zd h)).trans h
theorem Grw.push:Grw s (s++[t]):=⟨fun i h=>bS h,by rw[aI];omega⟩
theorem Grw.nil:Grw [] s:=⟨fun _ h=>absurd h (Nat.not_lt_zero _),aU _⟩
def Gv(s:Za)(f:Za->Res)(d:D):Prop:=∀ st,Grw s st->∃ st',f st=some (d,st')/\Grw st st'
def Y(F:Nat->Fn)(s:Za)(e:CE)(ρ:Env)(d:D):Prop:=Gv s (ev F e ρ) d
def C(F:Nat->Fn)(s:Za)(f:Nat)(ds:Li D)(d:D):Prop:=Gv s (F f ds) d
def R(F:Nat->Fn)(s:Za)(q:CS)(ρ:Env)(d:D):Prop:=∀ st,Grw s st->∃ st',ex F q ρ st=some (.rt d,st')/\Grw st st'
theorem rf{f:Za->Res}(x:Za):f x=f x:=rfl
theorem Y.r(h:∀ st,ev F e ρ st=some (d,st)):Y F s e ρ d:=fun st _=>⟨st,h st,.refl⟩
theorem Y.at(h:∀ st,Grw s st->ev F e ρ st=some (d,st)):Y F s e ρ d:=fun st g=>⟨st,h st g,.refl⟩
theorem Gv.mono{f:Za->Res}(h:Gv s f d)(g:Grw s s'):Gv s' f d:=fun st k=>h st (g.trans k)
theorem C.up(h:C F [] f ds d):C F s f ds d:=Gv.mono h .nil
theorem g1{g:D->Za->Res}(ha:Y F s a ρ x)(h:Gv s (g x) d):Gv s (Zo (ev F a) g ρ) d:=fun st k=>by
 obtain⟨s1,e1,k1⟩:=ha st k;obtain⟨s2,e2,k2⟩:=h s1 (k.trans k1);exact⟨s2,by unfold Zo;rw[e1];exact e2,k1.trans k2⟩
theorem g2{g:D->D->Za->Res}(ha:Y F s a ρ x)(hb:Y F s b ρ y)(h:Gv s (g x y) d):Gv s (Zv (ev F a) (ev F b) g ρ) d:=fun st k=>by
 obtain⟨s1,e1,k1⟩:=ha st k;obtain⟨s2,e2,k2⟩:=hb s1 (k.trans k1);obtain⟨s3,e3,k3⟩:=h s2 (k.trans (k1.trans k2));exact⟨s3,by unfold Zv;rw[e1];simp only[e2];exact e3,k1.trans (k2.trans k3)⟩
theorem gp{f:Za->Res}(h:∀ st,f st=some (d,st)):Gv s f d:=fun st _=>⟨st,h st,.refl⟩
theorem gs{f:Za->Res}(h:∀ st,Grw s st->f st=some (d,st)):Gv s f d:=fun st k=>⟨st,h st k,.refl⟩
theorem Y.cmp{op:CmpOp}(ha:Y F s a ρ x)(hb:Y F s b ρ y)(h:∀ st,X6 op x y st=some k):Y F s (.cmp op a b) ρ (.bl k):=g2 ha hb (gp fun st=>by unfold Ya;rw[h])
theorem gc{fc ft ff:Ev}(hc:Gv s (fc ρ) (.bl k))(h:Gv s ((if k then ft else ff) ρ) d):Gv s (YE fc ft ff ρ) d:=fun st g=>by
 obtain⟨s1,e1,k1⟩:=hc st g;obtain⟨s2,e2,k2⟩:=h s1 (g.trans k1);exact⟨s2,by unfold YE;rw[e1];cases k<;>exact e2,k1.trans k2⟩
theorem Y.and(ha:Y F s a ρ (.bl k))(hb:k=true->Y F s b ρ (.bl m)):Y F s (.and a b) ρ (.bl (k&&m)):=by
 cases k
 ·exact gc ha (gp fun _=>rfl)
 ·exact gc ha (hb rfl)
theorem Y.or(ha:Y F s a ρ (.bl k))(hb:k=false->Y F s b ρ (.bl m)):Y F s (.or a b) ρ (.bl (k||m)):=by
 cases k
 ·exact gc ha (hb rfl)
 ·exact gc ha (gp fun _=>rfl)
theorem Y.not(ha:Y F s a ρ (.bl k)):Y F s (.not a) ρ (.bl (!k)):=g1 ha (gp fun _=>rfl)
theorem Y.ife(hc:Y F s c ρ (.bl k))(h:Y F s (if k then a else b) ρ d):Y F s (.ife c a b) ρ d:=by
 cases k<;>exact gc hc h
theorem Y.call(ha:Y F s a ρ (.tup xs))(h:C F s f (xs++ds) d):Y F s (.call f a ds) ρ d:=g1 ha h
theorem Y.cons(ha:Y F s a ρ x)(hb:Y F s b ρ (.tup xs))(hl:xs.length < 1000:=by first|decide | (simp only[aO,dD];decide)):Y F s (.aC a b) ρ (.tup (x :: xs)):=g2 ha hb (gp fun st=>if_pos hl)
theorem Y.nil:Y F s .aN ρ (.tup []):=.r rf
theorem Y.call1(ha:Y F s a ρ x)(h:C F s f [x] d):Y F s (.call f (.aC a .aN) []) ρ d:=.call (.cons ha .nil) h
theorem R.ret(h:Y F s e ρ d):R F s (.seq (.ret e) q) ρ d:=fun st g=>by
 obtain⟨s1,e1,k1⟩:=h st g;exact⟨s1,by show YH (Ux (ev F e)) (ex F q) ρ st=_;unfold YH Ux;rw[e1],k1⟩
theorem R.set(h:Y F s e ρ x)(hq:R F s q (Zh ρ i x) d):R F s (.seq (.set i e) q) ρ d:=fun st g=>by
 obtain⟨s1,e1,k1⟩:=h st g;obtain⟨s2,e2,k2⟩:=hq s1 (g.trans k1);exact⟨s2,by show YH (W9 i (ev F e)) (ex F q) ρ st=_;unfold YH W9;rw[e1];exact e2,k1.trans k2⟩
theorem R.no(h:Y F s e ρ (.bl false))(hq:R F s q ρ d):R F s (.seq (.ite e p .skip) q) ρ d:=fun st g=>by
 obtain⟨s1,e1,k1⟩:=h st g;obtain⟨s2,e2,k2⟩:=hq s1 (g.trans k1);exact⟨s2,by show YH (Yk (ev F e) (ex F p) (ex F .skip)) (ex F q) ρ st=_;unfold YH Yk;rw[e1];exact e2,k1.trans k2⟩
theorem R.yB(h:Y F s e ρ (.bl true))(hp:R F s p ρ d):R F s (.seq (.ite e p .skip) q) ρ d:=fun st g=>by
 obtain⟨s1,e1,k1⟩:=h st g;obtain⟨s2,e2,k2⟩:=hp s1 (g.trans k1);exact⟨s2,by show YH (Yk (ev F e) (ex F p) (ex F .skip)) (ex F q) ρ st=_;unfold YH Yk;rw[e1];simp only[e2],k1.trans k2⟩
theorem R.yes(h:Y F s e ρ (.bl true))(hq:Y F s a ρ d):R F s (.seq (.ite e (.seq (.ret a) .skip) .skip) q) ρ d:=.yB h (.ret hq)
theorem ZfQ{v:FD}(h:T f=some v)(hl:ds.length=v.ps):run T (n+1) f ds st=match ex (run T n) v.body (ds.map some++List.replicate (v.ns - ds.length) none) st with
  |some (.rt d,st')=>some (d,st')
  |some (.nx _,st')=>some (.non,st')
  |_=>none:=by
 show(match T f with|some f=>fnD (run T n) f|none=>fun _ _=>none) ds st=_
 rw[h];exact if_pos hl
theorem Ye{v:FD}(h:T f=some v)(hl:ds.length=v.ps)(hx:ex (run T n) v.body (ds.map some++List.replicate (v.ns - ds.length) none) st=some (.rt d,s')):run T (n+1) f ds st=some (d,s'):=by rw[ZfQ h hl,hx]
theorem ZbY{v:FD}(h:T f=some v)(hl:ds.length=v.ps)(hx:ex (run T n) v.body (ds.map some++List.replicate (v.ns - ds.length) none) st=some (.nx ρ',s')):run T (n+1) f ds st=some (.non,s'):=by rw[ZfQ h hl,hx]
theorem C.of{v:FD}(h:T f=some v)(hl:ds.length=v.ps)(hr:R (run T n) s v.body (ds.map some++List.replicate (v.ns - ds.length) none) d):C (run T (n+1)) s f ds d:=fun st g=>by
 obtain⟨s1,e1,k1⟩:=hr st g;exact⟨s1,Ye h hl e1,k1⟩
theorem Zc(h:ex F p ρ st=some (.nx ρ',s')):ex F (.seq p q) ρ st=ex F q ρ' s':=by
 show YH (ex F p) (ex F q) ρ st=_;unfold YH;rw[h]
theorem Zn(h:ex F p ρ st=some (.rt d,s')):ex F (.seq p q) ρ st=some (.rt d,s'):=by
 show YH (ex F p) (ex F q) ρ st=_;unfold YH;rw[h]
theorem XX{α:Type}{en g:α->D}{ok:Za->Prop}{fe fc:D->Za->Res}(hc:∀ d st,fc d st=some (.bl true,st))(ho:∀ st,Grw s st->ok st):∀ {l:Li α},(∀ a∈l,Gv s (fe (en a)) (g a))->∀ st,Grw s st->∃ st',ZM ok fe fc (l.map en) st=some (l.map g,st')/\Grw st st'
 |[],_,st,k=>⟨st,if_pos (ho st k),.refl⟩
 |x :: xs,h,st,k=>by
  obtain⟨s1,e1,k1⟩:=h x lQ7 st k;obtain⟨s2,e2,k2⟩:=XX hc ho (fun d hd=>h d (lM7 _ hd)) s1 (k.trans k1)
  refine⟨s2,?_,k1.trans k2⟩;rw[aL,ZM,if_pos (ho st k),hc];simp only[e1,e2,aL]
def Lv(s:Za)(f:Za->Res)(xs:Li D):Prop:=∀ st,Grw s st->∃ st' j b,f st=some (.lst j,st')/\st'[j]?=some (b,xs)/\Grw st st'
theorem Zl:(s++[t])[s.length]?=some t:=by rw[cB (aD _),Nat.sub_self];rfl
def Wk(F:Nat->Fn)(s:Za)(it:CE)(ρ:Env)(wk:D->Za->Ot (Li D×(Za->Prop)))(xs:Li D):Prop:=∀ st,Grw s st->∃ x st1 ok,ev F it ρ st=some (x,st1)/\Grw st st1/\wk x st1=some (xs,ok)/\∀ st',Grw st1 st'->ok st'
theorem Wk.of(hi:Y F s e ρ x)(h:∀ st,wk x st=some (xs,fun _=>True)):Wk F s e ρ wk xs:=fun st k=>by
 obtain⟨s1,e1,k1⟩:=hi st k;exact⟨x,s1,_,e1,k1,h s1,fun _ _=>trivial⟩
theorem VI{b:D->Li (Ot D)}{en g:α->D}{l:Li α}(hi:Wk F s it ρ wk (l.map en))(hl:l.length<=1000)(h:∀ a∈l,Y F s elt (ZK b ρ fr (en a)) (g a)):Lv s (ZX b wk fr (ev F it) (ev F elt) (ev F (.c (.bl true))) ρ) (l.map g):=fun st k=>by
 obtain⟨x,s1,ok,e1,k1,e2,ho⟩:=hi st k;obtain⟨s2,e3,k2⟩:=XX (s:=s1) (ok:=ok) (fe:=fun d=>ev F elt (ZK b ρ fr d)) (fc:=fun d=>ev F (.c (.bl true)) (ZK b ρ fr d)) (fun _ _=>rfl) ho (fun a ha=>Gv.mono (h a ha) (k.trans k1)) s1 .refl
 refine⟨s2++[(true,l.map g)],_,_,?_,Zl,(k1.trans k2).trans .push⟩;unfold ZX;simp only[e1,e2,aB,if_pos hl,e3]
theorem Uc(h:xs[j]?=some d):atD xs (j:Int)=some d:=by
 have:=Zd h;unfold atD ixN;rw[if_pos (by omega),if_pos (by omega),oB7,aZ,h]
theorem Y.ixl(hs:s[w]?=some t)(ha:Y F s a ρ (.lst w))(hb:Y F s b ρ (.int (j:Int)))(h:t.2[j]?=some d):Y F s (.ix a b) ρ d:=g2 ha hb (gs fun st k=>by
 show ixR (.lst w) (.int (j:Int)) st=_;unfold ixR ixD;simp only[k.get hs,Uc h])
theorem Y.ixt(ha:Y F s a ρ (.tup xs))(hb:Y F s b ρ (.int (j:Int)))(h:xs[j]?=some d):Y F s (.ix a b) ρ d:=g2 ha hb (gp fun st=>by
 show ixR (.tup xs) (.int (j:Int)) st=_;unfold ixR ixD;simp only[Uc h])
theorem Y.lenl(hs:s[w]?=some t)(ha:Y F s a ρ (.lst w)):Y F s (.len a) ρ (.int (t.2.length:Int)):=g1 ha (gs fun st k=>by
 show Zab (.lst w) st=_;unfold Zab ZdV;simp only[k.get hs])
theorem Lv.sl(hs:s[w]?=some t)(ha:Y F s a ρ (.lst w))(hb:Y F s b ρ x)(hc:Y F s c ρ y)(h:∀ st,YI (.lst w) x y st=ZW (.lst w) lo hi st):Lv s (ev F (.slice a b c) ρ) (YQ t.2 lo hi):=fun st k=>by
 obtain⟨s1,e1,k1⟩:=ha st k;obtain⟨s2,e2,k2⟩:=hb s1 (k.trans k1);obtain⟨s3,e3,k3⟩:=hc s2 (k.trans (k1.trans k2));refine⟨s3++[(true,YQ t.2 lo hi)],_,_,?_,Zl,(k1.trans (k2.trans k3)).trans .push⟩;show Xy (ev F a) (ev F b) (ev F c) YI ρ st=_;unfold Xy;simp only[e1,e2,e3,h];unfold ZW;simp only[(k.trans (k1.trans (k2.trans k3))).get hs]
theorem Lv.mk(h:Y F s e ρ (.tup xs)):Lv s (ev F (.lstE e) ρ) xs:=fun st k=>by
 obtain⟨s1,e1,k1⟩:=h st k;exact⟨_,_,_,by show Zo (ev F e) QU ρ st=_;unfold Zo;rw[e1];rfl,Zl,k1.trans .push⟩
theorem Yn{c:Z4}(h:ev F e ρ st=some (.lst j,s'))(h2:s'[j]?=some c):ev F (.tOf e) ρ st=some (.tup c.2,s'):=by
 show Zo (ev F e) Vg ρ st=_;unfold Zo;rw[h];show(match s'[j]? with
  |some (_,xs)=>some (D.tup xs,s')
  |none=>none)=_
 rw[h2]
theorem ZJ(h:ev F e ρ st=some (d,s')):ex F (.ret e) ρ st=some (.rt d,s'):=by
 show Ux (ev F e) ρ st=_;unfold Ux;rw[h]
theorem Zj(h:ev F e ρ st=some (v,st')):ex F (.set i e) ρ st=some (.nx (Zh ρ i v),st'):=by
 show W9 i (ev F e) ρ st=_;unfold W9;rw[h]
theorem ZY(h:ev F e ρ st=some (.bl false,st')):ex F (.ite e p q) ρ st=ex F q ρ st':=by
 show Yk (ev F e) (ex F p) (ex F q) ρ st=_;unfold Yk;rw[h]
theorem Yi(h:ev F e ρ st=some (.bl true,st')):ex F (.ite e p q) ρ st=ex F p ρ st':=by
 show Yk (ev F e) (ex F p) (ex F q) ρ st=_;unfold Yk;rw[h]
theorem Ze:ex F .skip ρ st=some (.nx ρ,st):=rfl
theorem Zc5(h:ev F e ρ st=some (d,s')):ex F (.act e) ρ st=some (.nx ρ,s'):=by
 show Ja (ev F e) ρ st=_;unfold Ja;rw[h]
end
section
variable {F:Nat->Fn}{s st st' st1:Za}{e a:CE}{ρ ρ' ρ'':Env}{d x:D}{q p:CS}{n i j w:Nat}{xs ys:Li D}{k:Bool}
structure Kj(j:Nat)(st st':Za):Prop where
 old:∀ i,i < st.length->i≠j->st'[i]?=st[i]?
 len:st.length<=st'.length
theorem Grw.kj(g:Grw st st'):Kj j st st':=⟨fun i h _=>g.old i h,g.len⟩
theorem Kj.trans(a:Kj j st st1)(b:Kj j st1 st'):Kj j st st':=⟨fun i h hn=>(b.old i (aS h a.len) hn).trans (a.old i h hn),aM a.len b.len⟩
theorem Kj.grw(k:Kj j st st')(hj:s.length<=j)(g:Grw s st):Grw s st':=⟨fun i h=>(k.old i (aS h g.len) (by omega)).trans (g.old i h),aM g.len k.len⟩
theorem Zk{c:Z4}(h:i < st.length):(st.set i c)[j]?=if i=j then some c else st[j]?:=by
 rw[List.getElem?_set];split
 ·rename_i e;subst e
  first|rfl|rw[if_pos h]
 ·rfl
def Ap(F:Nat->Fn)(s:Za)(j:Nat)(q:CS)(ρ ρ':Env)(xs:Li D):Prop:=∀ st acc,Grw s st->st[j]?=some (true,acc)->acc.length+xs.length<=900->∃ st',ex F q ρ st=some (.nx ρ',st')/\Kj j st st'/\st'[j]?=some (true,acc++xs)
theorem Ap.skip:Ap F s j .skip ρ ρ []:=fun st acc g h _=>⟨st,rfl,Grw.refl.kj,by rw[aW];exact h⟩
theorem Ap.seq(hj:s.length<=j)(h1:Ap F s j q ρ ρ' xs)(h2:Ap F s j p ρ' ρ'' ys):Ap F s j (.seq q p) ρ ρ'' (xs++ys):=fun st acc g h hl=>by
 rw[aI]at hl;obtain⟨s1,e1,g1,k1⟩:=h1 st acc g h (by omega)
 obtain⟨s2,e2,g2,k2⟩:=h2 s1 _ (g1.grw hj g) k1 (by rw[aI];omega)
 exact⟨s2,by show YH (ex F q) (ex F p) ρ st=_;unfold YH;rw[e1];exact e2,g1.trans g2,by rw[<-bF];exact k2⟩
theorem Ap.one(h:Ap F s j q ρ ρ' xs):Ap F s j (.seq q .skip) ρ ρ' xs:=fun st acc g hk hl=>by
 obtain⟨s1,e1,g1,k1⟩:=h st acc g hk hl;exact⟨s1,by show YH (ex F q) (ex F .skip) ρ st=_;unfold YH;rw[e1];rfl,g1,k1⟩
theorem Ap.app(hi:ρ[i]?=some (some (.lst j)))(h:Y F s e ρ d):Ap F s j (.app i e) ρ ρ [d]:=fun st acc g hk hl=>by
 obtain⟨s1,e1,k1⟩:=h st g;have h1:=k1.get hk;have hl:acc.length+1<=900:=hl;refine⟨s1.set j (true,acc++[d]),?_,⟨fun m hm hn=>?_,by rw[aY];exact k1.len⟩,by rw[Zk (Zd h1),if_pos rfl]⟩
 ·show Ua i (ev F e) ρ st=_
  unfold Ua Qt;simp only[hi,e1,h1];rw[if_pos (by unfold Zu;omega)]
 ·rw[Zk (Zd h1),if_neg (Ne.symm hn)]
  exact k1.old m hm
theorem Ap.ite(h:Y F s e ρ (.bl k))(hq:Ap F s j (if k then q else p) ρ ρ' xs):Ap F s j (.ite e q p) ρ ρ' xs:=fun st acc g hk hl=>by
 obtain⟨s1,e1,k1⟩:=h st g;obtain⟨s2,e2,g2,k2⟩:=hq s1 acc (g.trans k1) (k1.get hk) hl;exact⟨s2,by show Yk (ev F e) (ex F q) (ex F p) ρ st=_;unfold Yk;rw[e1];cases k<;>exact e2,k1.kj.trans g2,k2⟩
theorem Ap.set(h:Y F s e ρ d):Ap F s j (.set i e) ρ (Zh ρ i d) []:=fun st acc g hk hl=>by
 obtain⟨s1,e1,k1⟩:=h st g;exact⟨s1,by show W9 i (ev F e) ρ st=_;unfold W9;rw[e1],k1.kj,by rw[aW];exact k1.get hk⟩
end
section
variable {F:Nat->Fn}{s st st' st1 st2:Za}{e a b:CE}{ρ ρ':Env}{d:D}{q:CS}{n i j:Nat}{xs ys:Li D}{m:Bool}{c:Nat}{tx:Str}{q':CS}
theorem Lv.v(hs:s[j]?=some (m,xs))(h:Y F s e ρ (.lst j)):Lv s (ev F e ρ) xs:=fun st g=>by
 obtain⟨s1,e1,k1⟩:=h st g;exact⟨s1,j,m,e1,(g.trans k1).get hs,k1⟩
theorem Lv.mono{f:Za->Res}(h:Lv s f xs)(g:Grw s st):Lv st f xs:=fun st1 k=>h st1 (g.trans k)
theorem Lv.cat(ha:Lv s (ev F a ρ) xs)(hb:Lv s (ev F b ρ) ys)(hl:xs.length+ys.length<=Zu):Lv s (ev F (.bin .Add a b) ρ) (xs++ys):=fun st g=>by
 obtain⟨s1,j1,m1,e1,h1,k1⟩:=ha st g;obtain⟨s2,j2,m2,e2,h2,k2⟩:=hb s1 (g.trans k1);refine⟨s2++[(true,xs++ys)],_,_,?_,Zl,(k1.trans k2).trans .push⟩;show Zv (ev F a) (ev F b) (Vk .Add) ρ st=_;unfold Zv;simp only[e1,e2];show QB j1 j2 s2=_;unfold QB;simp only[k2.get h1,h2];exact if_pos hl
def RP(F:Nat->Fn)(q:CS)(ρ:Env)(st:Za)(Q:D->Za->Prop):Prop:=∃ d st',ex F q ρ st=some (.rt d,st')/\Grw st st'/\Q d st'
variable {Q:D->Za->Prop}
theorem RP.pre(h:ex F q ρ st=ex F q' ρ' st1)(g:Grw st st1)(hq:RP F q' ρ' st1 Q):RP F q ρ st Q:=by
 obtain⟨d,st',e,g',k⟩:=hq;exact⟨d,st',h.trans e,g.trans g',k⟩
theorem RP.no{p:CS}(h:Y F s e ρ (.bl false))(g:Grw s st)(hq:∀ s',Grw st s'->RP F q ρ s' Q):RP F (.seq (.ite e p .skip) q) ρ st Q:=by
 obtain⟨s1,e1,k1⟩:=h st g;exact .pre (Zc ((ZY e1).trans Ze)) k1 (hq s1 k1)
theorem RP.ret(h:Y F s e ρ d)(g:Grw s st)(hq:∀ s',Grw st s'->Q d s'):RP F (.seq (.ret e) q) ρ st Q:=by
 obtain⟨s1,e1,k1⟩:=h st g;exact⟨d,s1,Zn (ZJ e1),k1,hq s1 k1⟩
theorem RP.yes{p:CS}(h:Y F s e ρ (.bl true))(g:Grw s st)(hq:∀ s',Grw st s'->RP F p ρ s' Q):RP F (.seq (.ite e p .skip) q) ρ st Q:=by
 obtain⟨s1,e1,k1⟩:=h st g;obtain⟨d,s2,e2,k2,hQ⟩:=hq s1 k1;exact⟨d,s2,Zn ((Yi e1).trans e2),k1.trans k2,hQ⟩
def CP(F:Nat->Fn)(f:Nat)(ds:Li D)(st:Za)(Q:D->Za->Prop):Prop:=∃ d st',F f ds st=some (d,st')/\Grw st st'/\Q d st'
theorem CP.of{v:FD}{f:Nat}{ds:Li D}(h:T f=some v)(hl:ds.length=v.ps)(hr:RP (run T n) v.body (ds.map some++List.replicate (v.ns - ds.length) none) st Q):CP (run T (n+1)) f ds st Q:=by
 obtain⟨d,s1,e1,k1,hQ⟩:=hr;exact⟨d,s1,Ye h hl e1,k1,hQ⟩
end
def Sm(a:Int):Prop:=-1000000000<=a/\a<=999999999
section
variable {F:Nat->Fn}{s st:Za}{e a b:CE}{ρ:Env}{d:D}{n w:Nat}{xs:Li D}{i j k c:Int}{op:Operator}{m sz:Nat}{ns:Li Int}
theorem Y.bi(ha:Y F s a ρ (.int i))(hb:Y F s b ρ (.int j))(h:Za7 op i j=some k):Y F s (.bin op a b) ρ (.int k):=g2 ha hb (gp fun st=>by
 show Vk op (.int i) (.int j) st=_;unfold Vk;simp only[h])
theorem Y.add(ha:Y F s a ρ (.int i))(hb:Y F s b ρ (.int j)):Y F s (.bin .Add a b) ρ (.int (i+j)):=.bi ha hb rfl
theorem Y.sub(ha:Y F s a ρ (.int i))(hb:Y F s b ρ (.int j)):Y F s (.bin .Sub a b) ρ (.int (i - j)):=.bi ha hb rfl
theorem Y.mul(ha:Y F s a ρ (.int i))(hb:Y F s b ρ (.int j))(h:Z8 j=true):Y F s (.bin .Mult a b) ρ (.int (i * j)):=.bi ha hb (by show(if Z8 i||Z8 j then some (i * j) else none)=_;rw[h,Bool.or_true];rfl)
theorem Y.md(ha:Y F s a ρ (.int i))(hb:Y F s b ρ (.int j))(h:0 < j):Y F s (.bin .Mod a b) ρ (.int (i % j)):=.bi ha hb (if_pos h)
theorem Y.fd(ha:Y F s a ρ (.int i))(hb:Y F s b ρ (.int j))(h:0 < j/\j < 1073741824):Y F s (.bin .FloorDiv a b) ρ (.int (i / j)):=.bi ha hb (if_pos h)
theorem Y.ixL{j:Nat}(ha:Lv s (ev F a ρ) xs)(hb:Y F s b ρ (.int (j:Int)))(h:xs[j]?=some d):Y F s (.ix a b) ρ d:=fun st g=>by
 obtain⟨s1,q,t,e1,h1,k1⟩:=ha st g;obtain⟨s2,e2,k2⟩:=hb s1 (g.trans k1);refine⟨s2,?_,k1.trans k2⟩;show Zv (ev F a) (ev F b) ixR ρ st=_;unfold Zv;simp only[e1,e2];show ixR (.lst q) (.int (j:Int)) s2=_;unfold ixR ixD;simp only[k2.get h1,Uc h]
theorem Y.ixE{l:Li α}{f:α->D}(ha:Lv s (ev F a ρ) (l.map f))(hb:Y F s b ρ (.int i))(h0:0<=i)(h1:i < l.length):∃ x∈l,Y F s (.ix a b) ρ (f x):=by
 have hi:i.toNat < l.length:=by omega
 refine⟨l[i.toNat],dM hi,.ixL ha (j:=i.toNat) (by rw[bP h0];exact hb) ?_⟩
 rw[aR,lG7 hi];rfl
theorem Zp(i:Int)(h:0 < j):0<=i % j/\i % j < j:=⟨Int.emod_nonneg _ (by omega),Int.emod_lt_of_pos _ h⟩
theorem Up(h:-(2 ^ 64) < i/\i < 2 ^ 64):Z8 i=true:=by unfold Z8;rw[aH h.1,aH h.2];rfl
end
section
variable {F:Nat->Fn}{s st:Za}{e:CE}{ρ ρ':Env}{q:CS}{n i j N:Nat}{xs:Li D}{ns:Li Int}{Q:D->Za->Prop}
theorem VX{I:Env->Prop}{P:Nat->D->Prop}(hj:s.length<=j)(hb:∀ k,k < N->∀ ρ,I ρ->∃ d ρ',P k d/\I ρ'/\Ap F s j q (Zh ρ i (.int (k:Int))) ρ' [d]):∀ (M a:Nat),a+M=N->∀ ρ,I ρ->∃ xs ρ',xs.length=M/\(∀ t d,xs[t]?=some d->P (a+t) d)/\I ρ'/\∀ st acc,Grw s st->st[j]?=some (true,acc)->acc.length+M<=900->∃ st',Zs (fun d ρ s=>ex F q (Zh ρ i d) s) ((List.range' a M).map fun(k:Nat)=>D.int (k:Int)) ρ st=some (.nx ρ',st')/\Kj j st st'/\st'[j]?=some (true,acc++xs)
 |0,a,_,ρ,hI=>⟨[],ρ,rfl,fun t d h=>(nomatch h),hI,fun st acc g h _=>⟨st,rfl,Grw.refl.kj,by rw[aW];exact h⟩⟩
 |M+1,a,ha,ρ,hI=>by
  obtain⟨d,ρ1,hP,hI1,hA⟩:=hb a (by omega) ρ hI
  obtain⟨xs,ρ2,hl,hx,hI2,hr⟩:=VX hj hb M (a+1) (by omega) ρ1 hI1
  refine⟨d :: xs,ρ2,by rw[aO,hl],fun t d' h=>?_,hI2,fun st acc g h hc=>?_⟩
  ·cases t with
   |zero=>cases h;exact hP
   |succ t=>have:=hx t d' h;rw[show a+1+t=a+(t+1) by omega]at this;exact this
  ·obtain⟨s1,e1,k1,h1⟩:=hA st acc g h (by show _+1<=900;omega)
   obtain⟨s2,e2,k2,h2⟩:=hr s1 _ (k1.grw hj g) h1 (by rw[aI];show _+1+M<=900;omega)
   refine⟨s2,?_,k1.trans k2,by rw[h2,bF];rfl⟩
   rw[dS,aL];show(match ex F q (Zh ρ i (.int (a:Int))) st with
    |some (.nx ρ',st')=>Zs _ _ ρ' st'
    |some (.ct ρ',st')=>Zs _ _ ρ' st'
    |some (.bk ρ',st')=>some (.nx ρ',st')
    |some (.rt v,st')=>some (.rt v,st')
    |none=>none)=_
   rw[e1];exact e2
theorem J5{v:Int}(h1:v < 2 ^ 62)(h2:-(2 ^ 62)<=v):Wi true (.int v)=some ((List.range v.toNat).map fun(k:Nat)=>D.int (k:Int)):=by
 show(if v < 2 ^ 62/\-(2 ^ 62)<=v then some ((List.range v.toNat).map fun(k:Nat)=>D.int (k:Int)) else none)=_
 rw[if_pos ⟨h1,h2⟩]
theorem Y5{v:Int}{st1:Za}(h1:v < 2 ^ 62)(h2:-(2 ^ 62)<=v)(e1:ev F e ρ st=some (.int v,st1)):ex F (.for1 i true e q) ρ st=Zs (fun d ρ s=>ex F q (Zh ρ i d) s) ((List.range v.toNat).map fun(k:Nat)=>D.int (k:Int)) ρ st1:=by
 show Wb i true (ev F e) (ex F q) ρ st=_;unfold Wb;rw[e1];simp only[J5 h1 h2]
theorem RP.fill{I:Nat->Env->Prop}{P:Nat->D->Prop}{v:Int}{i0:Nat}{q':CS}(hY:∀ j,Y F s e (Zh ρ i0 (.lst j)) (.int v))(hv:v=(N:Int))(hN:N<=800)(hI:∀ j,I j (Zh ρ i0 (.lst j)))(g:Grw s st)(hb:∀ j,s.length<=j->∀ k,k < N->∀ ρ,I j ρ->∃ d ρ',P k d/\I j ρ'/\Ap F s j q (Zh ρ i (.int (k:Int))) ρ' [d])(hq:∀ j xs ρ' st',xs.length=N->(∀ t d,xs[t]?=some d->P t d)->I j ρ'->Grw st st'->st'[j]?=some (true,xs)->RP F q' ρ' st' Q):RP F (.seq (.set i0 (.lstE .aN)) (.seq (.for1 i true e q) q')) ρ st Q:=by
 have g0:Grw s (st++[(true,[])]):=g.trans .push;obtain⟨s1,e1,k1⟩:=hY st.length (st++[(true,[])]) g0;obtain⟨xs,ρ',hl,hx,hI',hr⟩:=VX (I:=I st.length) g.len (hb st.length g.len) N 0 (by omega) _ (hI st.length)
 obtain⟨s2,e2,k2,h2⟩:=hr s1 [] (g0.trans k1) (k1.get Zl) (by show 0+N<=900;omega)
 have k3:Grw st s2:=(k1.kj.trans k2).grw (aD _) .push;refine .pre ((Zc (p:=.set i0 (.lstE .aN)) (s':=st++[(true,[])]) rfl).trans (Zc ?_)) k3 (hq st.length xs ρ' s2 hl (fun t d h=>by have:=hx t d h;rw[bD]at this;exact this) hI' k3 h2)
 rw[Y5 (v:=v) (by omega) (by omega) e1,hv,aZ,List.range_eq_range']
 exact e2
end
def arI(x:Int):Int:=(x+1000000000) % 2000000000 - 1000000000
def fdI(i j:Int):Int:=if 0 < j then i / j else i.fdiv j
def rkI(a:Int)(g:Str)(b:Int):Int:=if g=S "+" then arI (a+b) else if g=S "-" then arI (a - b) else if g=S "*" then arI (a * b) else if g=S "/" then (if b=0 then 0 else arI (fdI a b)) else if b=0 then a else a - b * fdI a b
def soI(a:Int)(g:Str)(b:Int):Bool:=if g=S "<" then decide (a < b) else if g=S "<=" then decide (a<=b) else if g=S "=" then decide (a=b) else if g=S ">=" then decide (b<=a) else if g=S ">" then decide (b < a) else !decide (a=b)
def psL:Li Str:=[S "+",S "-",S "*",S "/",S "mod"]
def isL:Li Str:=[S "<",S "<=",S "=",S ">=",S ">",S "!="]
inductive Op where
 |nm (i:Nat)|nu (v:Int)
 deriving DecidableEq
def opE:Op->D
 |.nm i=>.tup [.str (S "name"),.int (i:Int)]
 |.nu v=>.tup [.str (S "number"),.int v]
def XU(m:Nat):Op->Prop
 |.nm i=>i < m
 |.nu v=>Sm v
inductive Rw where
 |put (x:Nat) (y:Op) (g:Str) (z:Op)|ifr (y:Op) (g:Str) (z:Op) (t:Nat)|go (t:Nat)|tell (y:Op)|skip
 deriving DecidableEq
def rwE:Rw->D
 |.put x y g z=>.tup [.str (S "put"),.int (x:Int),opE y,.str g,opE z]
 |.ifr y g z t=>.tup [.str (S "if"),opE y,.str g,opE z,.int (t:Int)]
 |.go t=>.tup [.str (S "go"),.int (t:Int)]
 |.tell y=>.tup [.str (S "tell"),opE y]
 |.skip=>.tup [.str (S "skip")]
def YN(m sz:Nat):Rw->Prop
 |.put x y g z=>x < m/\XU m y/\g∈psL/\XU m z
 |.ifr y g z t=>XU m y/\g∈isL/\XU m z/\t<=sz
 |.go t=>t<=sz
 |.tell y=>XU m y
 |.skip=>True
def woI(vs:Li Int):Op->Int
 |.nm i=>vs.getD i 0
 |.nu v=>v
structure Vs(m:Nat)(vs:List Int):Prop where
 l:vs.length=m
 s:∀ v∈vs,Sm v
def inZ(vs:Li Int):Li D:=vs.map D.int
section
variable {F:Nat->Fn}{s st:Za}{e a b:CE}{ρ:Env}{d x:D}{n w m sz:Nat}{i j:Int}{vs:Li Int}{g:Str}{o:Op}{r:Rw}
theorem Vh:Sm (arI i):=by
 have:=Zp (i+1000000000) (j:=2000000000) (by decide)
 unfold Sm arI;omega
theorem Zgf(h:j≠0):(0 < j/\j * fdI i j<=i/\i < j * fdI i j+j)\/(j < 0/\i<=j * fdI i j/\j * fdI i j+j < i):=by
 unfold fdI;by_cases hj:0 < j
 ·rw[if_pos hj]
  have h1:=Int.mul_ediv_add_emod i j;have h2:=Int.emod_nonneg i h;have h3:=Int.emod_lt_of_pos i hj;exact .inl ⟨hj,by omega,by omega⟩
 ·rw[if_neg hj]
  have h1:=Int.fmod_def i j;have h2:j < 0:=by omega
  have h3:=Int.emod_nonneg i h;have h4:i % j < -j:=by have:=Int.emod_lt i h;omega
  rw[Int.fmod_eq_emod]at h1;by_cases c:j ∣ i
  ·rw[if_pos (.inr c),Int.emod_eq_zero_of_dvd c]at h1
   exact .inr ⟨h2,by omega,by omega⟩
  ·have h5:i % j≠0:=fun z=>c (Int.dvd_of_emod_eq_zero z)
   rw[if_neg (by omega)]at h1
   exact .inr ⟨h2,by omega,by omega⟩
theorem ZfR(ha:Sm i)(hb:Sm j):Sm (rkI i g j):=by
 unfold rkI;split
 ·exact Vh
 ·split
  ·exact Vh
  ·split
   ·exact Vh
   ·split
    ·split
     ·exact⟨by decide,by decide⟩
     ·exact Vh
    ·split
     ·exact ha
     ·rename_i h
      have:=Zgf (i:=i) h;unfold Sm at *
      rcases this with⟨h1,h2,h3⟩|⟨h1,h2,h3⟩
      ·generalize j * fdI i j=q at *
       omega
      ·generalize j * fdI i j=q at *
       omega
theorem Y.v{i:Nat}(h:ρ[i]?=some (some d)):Y F s (.v i) ρ d:=.r fun st=>by show YT i ρ st=_;unfold YT;rw[h]
theorem Y.fdv(ha:Y F s a ρ (.int i))(hb:Y F s b ρ (.int j))(h:j≠0)(hj:Sm j):Y F s (.bin .FloorDiv a b) ρ (.int (fdI i j)):=.bi ha hb (by
 unfold Sm at hj;show(if 0 < j/\j < 1073741824 then some (i / j) else if j < 0/\-1073741824 < j then some (i.fdiv j) else none)=_
 unfold fdI;by_cases c:0 < j
 ·rw[if_pos c,if_pos ⟨c,by omega⟩]
 ·rw[if_neg c,if_neg (by omega),if_pos ⟨by omega,by omega⟩])
theorem W0(h:Sm j):Z8 j=true:=Up (by unfold Sm at h;omega)
theorem Y.arx(ha:Y F s a ρ (.int i)):Y F s (.bin .Sub (.bin .Mod (.bin .Add a (.c (.int 1000000000))) (.c (.int 2000000000))) (.c (.int 1000000000))) ρ (.int (arI i)):=.sub (.md (.add ha (.r rf)) (.r rf) (by decide)) (.r rf)
theorem YM:C (run T (n+1)) s 0 [.int i] (.int (arI i)):=.of (v:=c_around) rfl rfl (.ret (.arx (.r rf)))
theorem Ze3(hj:Sm j):C (run T (n+2)) s 1 [.int i,.int j] (.int (if j=0 then 0 else arI (fdI i j))):=by
 by_cases h:j=0
 ·subst h;exact .of (v:=c_divided) rfl rfl (.yes (.r rf) (.r rf))
 ·rw[if_neg h]
  exact .of (v:=c_divided) rfl rfl (.no (.cmp (.r rf) (.r rf) fun _=>congrArg some (aE h)) (.ret (.call1 (.fdv (.r rf) (.r rf) h hj) YM)))
theorem Zda(hj:Sm j):C (run T (n+1)) s 2 [.int i,.int j] (.int (if j=0 then i else i - j * fdI i j)):=by
 by_cases h:j=0
 ·subst h;exact .of (v:=c_left_over) rfl rfl (.yes (.r rf) (.r rf))
 ·rw[if_neg h]
  refine .of (v:=c_left_over) rfl rfl (.no (.cmp (.r rf) (.r rf) fun _=>congrArg some (aE h)) (.ret (.sub (.r rf) (.bi (i:=j) (j:=fdI i j) (.r rf) (.fdv (.r rf) (.r rf) h hj) ?_))))
  show(if Z8 j||Z8 (fdI i j) then some (j * fdI i j) else none)=_
  rw[W0 hj];rfl
theorem Y.eqs{x y:Str}(ha:Y F s a ρ (.str x))(hb:Y F s b ρ (.str y)):Y F s (.cmp .Eq a b) ρ (.bl (decide (x=y))):=.cmp ha hb fun _=>rfl
theorem R.pick{k:Bool}{q p:CS}(h:Y F s e ρ (.bl k))(h1:k=true->R F s p ρ d)(h2:k=false->R F s q ρ d):R F s (.seq (.ite e p .skip) q) ρ d:=by
 cases k
 ·exact .no h (h2 rfl)
 ·exact .yB h (h1 rfl)
theorem Zf6(hi:Sm i)(hj:Sm j):C (run T (n+3)) s 3 [.int i,.str g,.int j] (.int (rkI i g j)):=by
 unfold rkI;refine .of (v:=c_reckon) rfl rfl (.pick (.eqs (.r rf) (.r rf)) (fun h=>?_) fun h=>.pick (.eqs (.r rf) (.r rf)) (fun h'=>?_) fun h'=>.pick (.eqs (.r rf) (.r rf)) (fun h2=>?_) fun h2=>.pick (.eqs (.r rf) (.r rf)) (fun h3=>?_) fun h3=>?_)
 ·rw[if_pos (of_decide_eq_true h)];exact .ret (.call1 (.add (.r rf) (.r rf)) YM)
 ·rw[if_neg (of_decide_eq_false h),if_pos (of_decide_eq_true h')];exact .ret (.call1 (.sub (.r rf) (.r rf)) YM)
 ·rw[if_neg (of_decide_eq_false h),if_neg (of_decide_eq_false h'),if_pos (of_decide_eq_true h2)];exact .ret (.call1 (.mul (.r rf) (.r rf) (W0 hj)) YM)
 ·rw[if_neg (of_decide_eq_false h),if_neg (of_decide_eq_false h'),if_neg (of_decide_eq_false h2),if_pos (of_decide_eq_true h3)];exact .ret (.call (xs:=[.int i,.int j]) (.r rf) (Ze3 hj))
 ·rw[if_neg (of_decide_eq_false h),if_neg (of_decide_eq_false h'),if_neg (of_decide_eq_false h2),if_neg (of_decide_eq_false h3)];exact .ret (.call (xs:=[.int i,.int j]) (.r rf) (Zda hj))
theorem Zf8:C (run T (n+1)) s 4 [.int i,.str g,.int j] (.bl (soI i g j)):=by
 unfold soI;refine .of (v:=c_is_so) rfl rfl (.pick (.eqs (.r rf) (.r rf)) (fun h=>?_) fun h=>.pick (.eqs (.r rf) (.r rf)) (fun h'=>?_) fun h'=>.pick (.eqs (.r rf) (.r rf)) (fun h2=>?_) fun h2=>.pick (.eqs (.r rf) (.r rf)) (fun h3=>?_) fun h3=>.pick (.eqs (.r rf) (.r rf)) (fun h4=>?_) fun h4=>?_)
 ·rw[if_pos (of_decide_eq_true h)];exact .ret (.r rf)
 ·rw[if_neg (of_decide_eq_false h),if_pos (of_decide_eq_true h')];exact .ret (.r rf)
 ·rw[if_neg (of_decide_eq_false h),if_neg (of_decide_eq_false h'),if_pos (of_decide_eq_true h2)];exact .ret (.r rf)
 ·rw[if_neg (of_decide_eq_false h),if_neg (of_decide_eq_false h'),if_neg (of_decide_eq_false h2),if_pos (of_decide_eq_true h3)];exact .ret (.r rf)
 ·rw[if_neg (of_decide_eq_false h),if_neg (of_decide_eq_false h'),if_neg (of_decide_eq_false h2),if_neg (of_decide_eq_false h3),if_pos (of_decide_eq_true h4)];exact .ret (.r rf)
 ·rw[if_neg (of_decide_eq_false h),if_neg (of_decide_eq_false h'),if_neg (of_decide_eq_false h2),if_neg (of_decide_eq_false h3),if_neg (of_decide_eq_false h4)];exact .ret (.r rf)
theorem Zc4{i:Nat}(hv:Vs m vs)(h:i < m):(inZ vs)[i]?=some (.int (woI vs (.nm i))):=by
 have hl:=hv.l;unfold inZ;rw[aR,lG7 (by omega)]
 show some (D.int vs[i])=some (D.int (vs.getD i 0));rw[List.getD_eq_getElem?_getD,lG7 (by omega)];rfl
theorem WL(hv:Vs m vs)(h:XU m o):Sm (woI vs o):=by
 cases o with
 |nm i=>
  have hl:=hv.l;have hi:i < m:=h;show Sm (vs.getD i 0);rw[List.getD_eq_getElem?_getD,lG7 (by omega)]
  exact hv.s _ (dM _)
 |nu v=>exact h
theorem Xm(hv:Vs m vs)(h:XU m o):C (run T (n+1)) s 5 [opE o,.tup (inZ vs)] (.int (woI vs o)):=by
 cases o with
 |nm i=>exact .of (v:=c_worth) rfl rfl (.yes (.r rf) (.ixt (j:=i) (.r rf) (.r rf) (Zc4 hv h)))
 |nu v=>exact .of (v:=c_worth) rfl rfl (.no (.r rf) (.ret (.r rf)))
end
def pgD(tk:D)(m:Nat)(rs:Li Rw):D:=.tup [tk,.int (m:Int),.tup (rs.map rwE)]
def stD(k:Nat)(vs:Li Int):D:=.tup [.int (k:Int),.tup (inZ vs)]
def noD:D:=.tup [.str (S "none")]
def laD:D:=.tup [.str (S "late")]
def teD(v:Int):D:=.tup [.str (S "told"),.int v]
def vsN(vs:Li Int):Rw->Li Int
 |.put x y g z=>vs.set x (rkI (woI vs y) g (woI vs z))
 |_=>vs
def pkN(k:Nat)(vs:Li Int):Rw->Nat
 |.go t=>t
 |.ifr y g z t=>if soI (woI vs y) g (woI vs z)=true then t else k+1
 |_=>k+1
def mv(rs:Li Rw)(k:Nat)(vs:Li Int):Sum D (Nat×Li Int):=match rs[k]? with
 |none=>.inl noD
 |some (.tell y)=>.inl (teD (woI vs y))
 |some r=>.inr (pkN k vs r,vsN vs r)
def oc(rs:Li Rw):Nat->Nat->Li Int->D
 |0,k,_=>if rs.length<=k then noD else laD
 |n+1,k,vs=>match mv rs k vs with
  |.inl o=>o
  |.inr p=>oc rs n p.1 p.2
def tl(rs:Li Rw):Nat->Nat->Li Int->Li D
 |0,k,_=>[if rs.length<=k then noD else laD]
 |n+1,k,vs=>match mv rs k vs with
  |.inl o=>[o]
  |.inr p=>stD p.1 p.2 :: tl rs n p.1 p.2
structure Rs(m:Nat)(rs:List Rw):Prop where
 l:rs.length<=50
 ok:∀ r∈rs,YN m rs.length r
def v0(m:Nat)(ins:Li Int):Li Int:=ins++List.replicate (m - ins.length) 0
section
variable {F:Nat->Fn}{s st:Za}{e a b c:CE}{ρ:Env}{d x y tk:D}{n w m k i:Nat}{vs ins:Li Int}{r:Rw}{rs:Li Rw}{xs ys:Li D}
theorem Jq{j:Nat}:sIx w j (some (i:Int))=Nat.min i w:=by
 show(if (i:Int) < 0 then ((i:Int)+(w:Int)).toNat else Nat.min (i:Int).toNat w)=_
 rw[if_neg (by omega),aZ]
theorem Js(h:i<=xs.length):YQ xs none (some (i:Int))=xs.take i:=by
 unfold YQ;rw[Jq,show Nat.min i xs.length=i from Nat.min_eq_left h];rfl
theorem Zdy(h:i<=xs.length):YQ xs (some (i:Int)) none=xs.drop i:=by
 unfold YQ;rw[Jq,show Nat.min i xs.length=i from Nat.min_eq_left h];exact eE (by rw[cM];exact aD _)
theorem sl_tup:ZW (.tup xs) lo hi st=some (.tup (YQ xs lo hi),st):=by
 show(if sIx xs.length 0 lo=0/\sIx xs.length xs.length hi=xs.length then some (D.tup xs,st) else some (.tup (YQ xs lo hi),st))=_
 split
 ·rename_i h
  unfold YQ;rw[h.1,h.2,cR,Nat.sub_zero,List.take_length]
 ·rfl
theorem Y.tkT(ha:Y F s a ρ (.tup xs))(hb:Y F s b ρ (.int (i:Int)))(h:i<=xs.length):Y F s (.slice a .nop (.part b)) ρ (.tup (xs.take i)):=fun st g=>by
 obtain⟨s1,e1,k1⟩:=ha st g;obtain⟨s2,e2,k2⟩:=hb s1 (g.trans k1);refine⟨s2,?_,k1.trans k2⟩;show Xy (ev F a) (evC .non) (Zo (ev F b) VU) YI ρ st=_;unfold Xy Zo evC;simp only[e1,e2];show ZW (.tup xs) none (some (i:Int)) s2=_;rw[sl_tup,Js h]
theorem Y.dpT(ha:Y F s a ρ (.tup xs))(hb:Y F s b ρ (.int (i:Int)))(h:i<=xs.length):Y F s (.slice a (.part b) .nop) ρ (.tup (xs.drop i)):=fun st g=>by
 obtain⟨s1,e1,k1⟩:=ha st g;obtain⟨s2,e2,k2⟩:=hb s1 (g.trans k1);refine⟨s2,?_,k1.trans k2⟩;show Xy (ev F a) (Zo (ev F b) VU) (evC .non) YI ρ st=_;unfold Xy Zo evC;simp only[e1,e2];show ZW (.tup xs) (some (i:Int)) none s2=_;rw[sl_tup,Zdy h]
theorem Y.adT(ha:Y F s a ρ (.tup xs))(hb:Y F s b ρ (.tup ys))(h:xs.length+ys.length<=100000):Y F s (.bin .Add a b) ρ (.tup (xs++ys)):=g2 ha hb (gp fun st=>by
 show(if VF .Add=true/\xs.length+ys.length<=Zu then some (D.tup (xs++ys),st) else none)=_
 exact if_pos ⟨rfl,by unfold Zu;omega⟩)
theorem Y.rep(ha:Y F s a ρ d)(hb:Y F s b ρ (.int (i:Int)))(h:i<=1000):Y F s (.bin .Mult (.tupE (.aC a .aN)) b) ρ (.tup (List.replicate i d)):=g2 (x:=.tup [d]) (.cons ha .nil) hb (gp fun st=>by
 show(if (i:Int)<=1000/\-1000<=(i:Int) then some (D.tup (List.replicate (i:Int).toNat d),st) else none)=_
 rw[if_pos ⟨by omega,by omega⟩,aZ])
theorem Y.lnT(ha:Y F s a ρ (.tup xs)):Y F s (.len a) ρ (.int (xs.length:Int)):=g1 ha (gp fun st=>rfl)
theorem XA(h:i < xs.length)(hl:xs.length<=1000):C (run T (n+1)) s 42 [.tup xs,.int (i:Int),d] (.tup (xs.set i d)):=by
 rw[show xs.set i d=(xs.take i++[d])++xs.drop (i+1) by rw[bF];exact List.set_eq_take_append_cons_drop.trans (if_pos h)]
 refine .of (v:=c_replaced) rfl rfl (.ret (.adT (.adT (.tkT (.r rf) (.r rf) (by omega)) (.cons (.r rf) .nil) ?_) (.dpT (i:=i+1) (.r rf) (by rw[bQ];exact .add (.r rf) (.r rf)) (by omega)) ?_))
 ·rw[bH];show _+1<=_;omega
 ·rw[aI,bH,cM];show _+1+_<=_;omega
theorem Zc2(hl:ins.length<=m)(h:∀ v∈ins,Sm v):Vs m (v0 m ins):=by
 unfold v0;refine⟨by rw[aI,bT];omega,fun v hv=>?_⟩
 rcases bI.mp hv with hv|hv
 ·exact h v hv
 ·rw[(List.mem_replicate.mp hv).2];exact⟨by decide,by decide⟩
theorem ZaV(hl:ins.length<=m)(hm:m<=1000):C (run T (n+1)) s 6 [pgD tk m rs,.tup (inZ ins)] (stD 0 (v0 m ins)):=by
 unfold stD v0 inZ;rw[bG,List.map_replicate];refine .of (v:=c_began) rfl rfl (.ret (.cons (.r rf) (.cons (.adT (.r rf) (.rep (i:=m - ins.length) (.r rf) ?_ (by omega)) (by rw[aB,bT];omega)) .nil)))
 have h1:Y (run T n) s (.len (.v 1)) [some (pgD tk m rs),some (.tup (ins.map D.int))] (.int (ins.length:Int)):=by
  have:=Y.lnT (F:=run T n) (s:=s) (a:=.v 1) (ρ:=[some (pgD tk m rs),some (.tup (ins.map D.int))]) (xs:=ins.map D.int) (.r rf);rw[aB]at this;exact this
 rw[Int.natCast_sub hl];exact .sub (.r rf) h1
theorem Zcy:C (run T (n+1)) s 7 [pgD tk m rs,stD k vs] (.bl (decide (rs.length<=k))):=by
 have h1:Y (run T n) s (.len (.ix (.v 0) (.c (.int 2)))) [some (pgD tk m rs),some (stD k vs)] (.int (rs.length:Int)):=by
  have:=Y.lnT (F:=run T n) (s:=s) (a:=.ix (.v 0) (.c (.int 2))) (ρ:=[some (pgD tk m rs),some (stD k vs)]) (xs:=rs.map rwE) (.r rf);rw[aB]at this;exact this
 exact .of (v:=c_at_end) rfl rfl (.ret (.cmp (.r rf) h1 fun _=>by show some (decide ((rs.length:Int)<=(k:Int)))=_;exact congrArg some (decide_eq_decide.mpr (by omega))))
theorem VZ:(inZ vs).set i (.int j)=inZ (vs.set i j):=by unfold inZ;rw[List.map_set]
theorem Zdh(hv:Vs m vs)(hm:m<=1000)(h:YN m w r)(ht:∀ y,r≠.tell y):C (run T (n+4)) s 8 [rwE r,.tup (inZ vs)] (.tup (inZ (vsN vs r))):=by
 cases r with
 |put x y g z=>
  obtain⟨hx,hy,hg,hz⟩:=h;have hl:=hv.l;refine .of (v:=c_values_behind) rfl rfl (.no (.r rf) (.set (.call (xs:=[.int (woI vs y),.str g,.int (woI vs z)]) (.cons (.call (xs:=[opE y,.tup (inZ vs)]) (.r rf) (Xm hv hy)) (.cons (.r rf) (.cons (.call (xs:=[opE z,.tup (inZ vs)]) (.r rf) (Xm hv hz)) .nil))) (Zf6 (WL hv hy) (WL hv hz))) (.ret (.call (xs:=[.tup (inZ vs),.int (x:Int),.int (rkI (woI vs y) g (woI vs z))]) (.r rf) ?_))))
  have:=XA (n:=n+2) (s:=s) (xs:=inZ vs) (i:=x) (d:=.int (rkI (woI vs y) g (woI vs z))) (by unfold inZ;rw[aB];omega) (by unfold inZ;rw[aB];omega)
  rw[VZ]at this;exact this
 |ifr y g z t=>exact .of (v:=c_values_behind) rfl rfl (.yes (.r rf) (.r rf))
 |go t=>exact .of (v:=c_values_behind) rfl rfl (.yes (.r rf) (.r rf))
 |tell y=>exact absurd rfl (ht y)
 |skip=>exact .of (v:=c_values_behind) rfl rfl (.yes (.r rf) (.r rf))
theorem ZaX(hv:Vs m vs)(h:YN m w r)(ht:∀ y,r≠.tell y):C (run T (n+2)) s 9 [rwE r,.int (k:Int),.tup (inZ vs)] (.int (pkN k vs r:Int)):=by
 have one:∀ {ρ:Env},ρ[1]?=some (some (.int (k:Int)))->Y (run T (n+1)) s (.bin .Add (.v 1) (.c (.int 1))) ρ (.int ((k+1:Nat):Int)):=fun {ρ} h=>by
  rw[bQ];exact .add (.v h) (.r rf)
 cases r with
 |put x y g z=>exact .of (v:=c_place_behind) rfl rfl (.no (.r rf) (.no (.r rf) (.ret (one rfl))))
 |go t=>exact .of (v:=c_place_behind) rfl rfl (.yes (.r rf) (.r rf))
 |skip=>exact .of (v:=c_place_behind) rfl rfl (.no (.r rf) (.no (.r rf) (.ret (one rfl))))
 |tell y=>exact absurd rfl (ht y)
 |ifr y g z t=>
  obtain⟨hy,hg,hz,hh⟩:=h;refine .of (v:=c_place_behind) rfl rfl (.no (.r rf) (.pick (k:=true&&soI (woI vs y) g (woI vs z)) (.and (.r rf) fun _=>.call (xs:=[.int (woI vs y),.str g,.int (woI vs z)]) (.cons (.call (xs:=[opE y,.tup (inZ vs)]) (.r rf) (Xm hv hy)) (.cons (.r rf) (.cons (.call (xs:=[opE z,.tup (inZ vs)]) (.r rf) (Xm hv hz)) .nil))) Zf8) (fun q=>?_) fun q=>?_))
  ·rw[cV]at q
   show R _ _ _ _ (.int ((if soI (woI vs y) g (woI vs z)=true then t else k+1:Nat):Int))
   rw[if_pos q];exact .ret (.r rf)
  ·rw[cV]at q
   show R _ _ _ _ (.int ((if soI (woI vs y) g (woI vs z)=true then t else k+1:Nat):Int))
   rw[if_neg (by rw[q];decide)]
   exact .ret (one rfl)
def mvD(rs:Li Rw)(k:Nat)(vs:Li Int):D:=match mv rs k vs with
 |.inl o=>o
 |.inr p=>stD p.1 p.2
theorem ZaW(hr:Rs m rs)(hm:m<=1000)(hv:Vs m vs):C (run T (n+5)) s 10 [pgD tk m rs,stD k vs] (mvD rs k vs):=by
 have ce:=Y.call (F:=run T (n+4)) (s:=s) (a:=.aC (.v 0) (.aC (.v 1) .aN)) (ρ:=[some (pgD tk m rs),some (stD k vs),none,none,none]) (xs:=[pgD tk m rs,stD k vs]) (ds:=[]) (.r rf) (Zcy (n:=n+3));unfold mvD mv;cases q:rs[k]? with
 |none=>
  rw[aH (cU.mp q)]at ce;exact .of (v:=c_moved) rfl rfl (.yes ce (.r rf))
 |some r=>
  have hk:=Zd q;rw[aE (by omega)]at ce
  have ok:=hr.ok r (aV q);have y4:Y (run T (n+4)) s (.ix (.ix (.v 0) (.c (.int 2))) (.v 2)) [some (pgD tk m rs),some (stD k vs),some (.int (k:Int)),some (.tup (inZ vs)),none] (rwE r):=.ixt (j:=k) (xs:=rs.map rwE) (.r rf) (.r rf) (by rw[aR,q];rfl)
  refine .of (v:=c_moved) rfl rfl (.no ce (.set (.r rf) (.set (.r rf) (.set y4 ?_))));have fin:(∀ y,r≠.tell y)->R (run T (n+4)) s (.seq (.ret (.tupE (.aC (.call 9 (.aC (.v 4) (.aC (.v 2) (.aC (.v 3) .aN))) []) (.aC (.call 8 (.aC (.v 4) (.aC (.v 3) .aN)) []) .aN)))) .skip) [some (pgD tk m rs),some (stD k vs),some (.int (k:Int)),some (.tup (inZ vs)),some (rwE r)] (stD (pkN k vs r) (vsN vs r)):=fun ht=>.ret (.cons (.call (xs:=[rwE r,.int (k:Int),.tup (inZ vs)]) (.r rf) (ZaX (n:=n+2) hv ok ht)) (.cons (.call (xs:=[rwE r,.tup (inZ vs)]) (.r rf) (Zdh hv hm ok ht)) .nil))
  cases r with
  |tell y=>exact .yes (.r rf) (.cons (.r rf) (.cons (.call (xs:=[opE y,.tup (inZ vs)]) (.r rf) (Xm hv ok)) .nil))
  |put x y g z=>exact .no (.r rf) (fin fun y z=>nomatch z)
  |ifr y g z t=>exact .no (.r rf) (fin fun y z=>nomatch z)
  |go t=>exact .no (.r rf) (fin fun y z=>nomatch z)
  |skip=>exact .no (.r rf) (fin fun y z=>nomatch z)
end
section
variable {F:Nat->Fn}{s st:Za}{e a b c:CE}{ρ:Env}{d x y tk:D}{n w m k i j L:Nat}{vs ins:Li Int}{r:Rw}{rs:Li Rw}{xs ys acc:Li D}
def enD(rs:Li Rw)(k:Nat):D:=if rs.length<=k then noD else laD
def isO:D->Bool
 |.tup (.str _ :: _)=>true
 |_=>false
theorem ZcQ(hv:Vs m vs)(hr:Rs m rs){p:Nat×Li Int}(h:mv rs k vs=.inr p):Vs m p.2:=by
 unfold mv at h;cases q:rs[k]? with
 |none=>rw[q]at h;cases h
 |some r=>
  rw[q]at h;have ok:=hr.ok r (aV q);cases r with
  |tell y=>cases h
  |put x y g z=>
   cases h;obtain⟨hx,hy,hg,hz⟩:=ok;refine⟨by show(vs.set x _).length=m;rw[aY];exact hv.l,fun v h=>?_⟩
   rcases List.mem_or_eq_of_mem_set h with h|h
   ·exact hv.s v h
   ·rw[h];exact ZfR (WL hv hy) (WL hv hz)
  |ifr y g z t=>cases h;exact hv
  |go t=>cases h;exact hv
  |skip=>cases h;exact hv
theorem ZbO{o:D}(h:mv rs k vs=.inl o):isO o=true/\∃ zs,o=.tup (.str (if rs.length<=k then S "none" else S "told") :: zs):=by
 unfold mv at h;cases q:rs[k]? with
 |none=>rw[q]at h;cases h;exact⟨rfl,[],by rw[if_pos (cU.mp q)];rfl⟩
 |some r=>
  rw[q]at h;have:=Zd q;cases r with
  |tell y=>cases h;exact⟨rfl,[.int (woI vs y)],by rw[if_neg (by omega)];rfl⟩
  |_=>cases h
theorem ZcA{k:Bool}(h:(∃ x zs,d=.tup (.str x :: zs)/\k=true)\/(∃ i zs,d=.tup (.int i :: zs)/\k=false)):C (run T (n+1)) s 11 [d] (.bl k):=by
 rcases h with⟨x,zs,rfl,rfl⟩|⟨i,zs,rfl,rfl⟩
 ·exact .of (v:=c_is_outcome) rfl rfl (.ret (g1 (x:=.str x) (.ixt (j:=0) (.r rf) (.r rf) rfl) (gp fun _=>rfl)))
 ·exact .of (v:=c_is_outcome) rfl rfl (.ret (g1 (x:=.int i) (.ixt (j:=0) (.r rf) (.r rf) rfl) (gp fun _=>rfl)))
theorem Zcu{y z:Ot D}(hr:Rs m rs)(hm:m<=1000)(hv:Vs m vs)(hj:s.length<=j)(g:Grw s st)(h:st[j]?=some (true,acc))(hl:acc.length < 900){x0 x2:Ot D}:match mv rs k vs with
  |.inl o=>∃ st',Kj j st st'/\ex (run T (n+5)) ZB [some (pgD tk m rs),x0,x2,some (stD k vs),some (.lst j),y,z] st=some (.rt (.tup (acc++[o])),st')
  |.inr p=>∃ st',Kj j st st'/\st'[j]?=some (true,acc++[stD p.1 p.2])/\ex (run T (n+5)) ZB [some (pgD tk m rs),x0,x2,some (stD k vs),some (.lst j),y,z] st=some (.nx [some (pgD tk m rs),x0,x2,some (stD p.1 p.2),some (.lst j),y,some (stD p.1 p.2)],st'):=by
 obtain⟨s1,e1,k1⟩:=Y.call (F:=run T (n+5)) (s:=s) (a:=.aC (.v 0) (.aC (.v 3) .aN)) (ρ:=[some (pgD tk m rs),x0,x2,some (stD k vs),some (.lst j),y,z]) (xs:=[pgD tk m rs,stD k vs]) (ds:=[]) (.r rf) (ZaW hr hm hv) st g;obtain⟨s2,e2,k2,h2⟩:=Ap.app (F:=run T (n+5)) (s:=s) (j:=j) (i:=4) (e:=.v 6) (ρ:=[some (pgD tk m rs),x0,x2,some (stD k vs),some (.lst j),y,some (mvD rs k vs)]) (d:=mvD rs k vs) rfl (.r rf) s1 acc (g.trans k1) (k1.get h) (by show _+1<=900;omega)
 have pre:∀ {r},ex (run T (n+5)) (.seq (.ite (.call 11 (.aC (.v 6) .aN) []) (.seq (.ret (.tOf (.v 4))) .skip) .skip) (.seq (.set 3 (.v 6)) .skip)) [some (pgD tk m rs),x0,x2,some (stD k vs),some (.lst j),y,some (mvD rs k vs)] s2=r->ex (run T (n+5)) ZB [some (pgD tk m rs),x0,x2,some (stD k vs),some (.lst j),y,z] st=r:=fun h=>(Zc (Zj e1)).trans ((Zc e2).trans h)
 have kk:=k1.kj.trans k2;cases q:mv rs k vs with
 |inl o=>
  have em:mvD rs k vs=o:=by unfold mvD;rw[q]
  rw[em]at h2 pre;obtain⟨_,zs,ho⟩:=ZbO q;obtain⟨s3,e3,k3⟩:=Y.call1 (F:=run T (n+5)) (s:=s2) (f:=11) (a:=.v 6) (x:=o) (ρ:=[some (pgD tk m rs),x0,x2,some (stD k vs),some (.lst j),y,some o]) (.r rf) (ZcA (n:=n+4) (.inl ⟨_,zs,ho,rfl⟩)) s2 .refl;exact⟨s3,kk.trans k3.kj,pre (Zn ((Yi e3).trans (Zn (ZJ (Yn rfl (k3.get h2))))))⟩
 |inr p=>
  have em:mvD rs k vs=stD p.1 p.2:=by unfold mvD;rw[q]
  rw[em]at h2 pre;obtain⟨s3,e3,k3⟩:=Y.call1 (F:=run T (n+5)) (s:=s2) (f:=11) (a:=.v 6) (x:=stD p.1 p.2) (ρ:=[some (pgD tk m rs),x0,x2,some (stD k vs),some (.lst j),y,some (stD p.1 p.2)]) (.r rf) (ZcA (n:=n+4) (.inr ⟨_,_,rfl,rfl⟩)) s2 .refl;exact⟨s3,kk.trans k3.kj,k3.get h2,pre ((Zc ((ZY e3).trans Ze)).trans ((Zc (Zj rfl)).trans Ze))⟩
theorem Qk(hr:Rs m rs)(hm:m<=1000)(hj:s.length<=j){x0 x2:Ot D}:∀ (M a k:Nat) (vs:Li Int) (acc:Li D) (st:Za) (y z:Ot D),Vs m vs->Grw s st->st[j]?=some (true,acc)->acc.length+M<=900->
  (∃ k' vs' sts y' z' st',Vs m vs'/\tl rs M k vs=sts++[enD rs k']/\Zs (fun d ρ s=>ex (run T (n+5)) ZB (Zh ρ 5 d) s) ((List.range' a M).map fun(k:Nat)=>D.int (k:Int)) [some (pgD tk m rs),x0,x2,some (stD k vs),some (.lst j),y,z] st=some (.nx [some (pgD tk m rs),x0,x2,some (stD k' vs'),some (.lst j),y',z'],st')/\Kj j st st'/\st'[j]?=some (true,acc++sts)) \/
  (∃ st',Zs (fun d ρ s=>ex (run T (n+5)) ZB (Zh ρ 5 d) s) ((List.range' a M).map fun(k:Nat)=>D.int (k:Int)) [some (pgD tk m rs),x0,x2,some (stD k vs),some (.lst j),y,z] st=some (.rt (.tup (acc++tl rs M k vs)),st')/\Kj j st st')
 |0,a,k,vs,acc,st,y,z,hv,g,h,_=>.inl ⟨k,vs,[],y,z,st,hv,rfl,rfl,Grw.refl.kj,by rw[aW];exact h⟩
 |M+1,a,k,vs,acc,st,y,z,hv,g,h,hl=>by
  have tt:=Zcu (n:=n) (tk:=tk) (k:=k) (y:=some (.int (a:Int))) (z:=z) (x0:=x0) (x2:=x2) hr hm hv hj g h (by omega)
  rw[dS,aL];have lp:∀ {r},ex (run T (n+5)) ZB [some (pgD tk m rs),x0,x2,some (stD k vs),some (.lst j),some (.int (a:Int)),z] st=r->Zs (fun d ρ s=>ex (run T (n+5)) ZB (Zh ρ 5 d) s) (D.int (a:Int) :: (List.range' (a+1) M).map fun(k:Nat)=>D.int (k:Int)) [some (pgD tk m rs),x0,x2,some (stD k vs),some (.lst j),y,z] st=match r with
    |some (.nx ρ',st')=>Zs (fun d ρ s=>ex (run T (n+5)) ZB (Zh ρ 5 d) s) ((List.range' (a+1) M).map fun(k:Nat)=>D.int (k:Int)) ρ' st'
    |some (.ct ρ',st')=>Zs (fun d ρ s=>ex (run T (n+5)) ZB (Zh ρ 5 d) s) ((List.range' (a+1) M).map fun(k:Nat)=>D.int (k:Int)) ρ' st'
    |some (.bk ρ',st')=>some (.nx ρ',st')
    |some (.rt v,st')=>some (.rt v,st')
    |none=>none:=fun {r} e=>by rw[<-e];rfl
  unfold tl;cases q:mv rs k vs with
  |inl o=>
   rw[q]at tt;obtain⟨st',k1,e1⟩:=tt;exact .inr ⟨st',lp e1,k1⟩
  |inr p=>
   rw[q]at tt;obtain⟨st1,k1,h1,e1⟩:=tt;have hl':(acc++[stD p.1 p.2]).length+M<=900:=by rw[aI];show _+1+M<=900;omega
   rcases Qk hr hm hj M (a+1) p.1 p.2 _ st1 (some (.int (a:Int))) (some (stD p.1 p.2)) (ZcQ hv hr q) (k1.grw hj g) h1 hl' with⟨k',vs',sts,y',z',st',w1,w2,w3,w4,w5⟩|⟨st',w3,w4⟩
   ·exact .inl ⟨k',vs',stD p.1 p.2 :: sts,y',z',st',w1,by show stD p.1 p.2 :: tl rs M p.1 p.2=_;rw[w2];rfl,(lp e1).trans w3,k1.trans w4,by rw[w5,bF];rfl⟩
   ·exact .inr ⟨st',(lp e1).trans (w3.trans (by rw[bF];rfl)),k1.trans w4⟩
theorem Za0(hr:Rs m rs)(hm:m<=1000)(hi:ins.length<=m)(hs:∀ v∈ins,Sm v)(hL:L<=800):C (run T (n+6)) s 12 [pgD tk m rs,.tup (inZ ins),.int (L:Int)] (.tup (stD 0 (v0 m ins) :: tl rs L 0 (v0 m ins))):=fun st g=>by
 have hv:=Zc2 hi hs;obtain⟨s1,e1,k1⟩:=Y.call (F:=run T (n+5)) (s:=s) (f:=6) (a:=.aC (.v 0) (.aC (.v 1) .aN)) (ρ:=[some (pgD tk m rs),some (.tup (inZ ins)),some (.int (L:Int)),none,none,none,none]) (xs:=[pgD tk m rs,.tup (inZ ins)]) (ds:=[]) (.r rf) (ZaV hi hm) st g;have p2:ex (run T (n+5)) (.set 4 (.lstE (.aC (.v 3) .aN))) [some (pgD tk m rs),some (.tup (inZ ins)),some (.int (L:Int)),some (stD 0 (v0 m ins)),none,none,none] s1=some (.nx [some (pgD tk m rs),some (.tup (inZ ins)),some (.int (L:Int)),some (stD 0 (v0 m ins)),some (.lst s1.length),none,none],s1++[(true,[stD 0 (v0 m ins)])]):=Zj rfl
 have g2:Grw s (s1++[(true,[stD 0 (v0 m ins)])]):=(g.trans k1).trans .push;have gg:Grw st (s1++[(true,[stD 0 (v0 m ins)])]):=k1.trans .push;have fr:=Y5 (F:=run T (n+5)) (i:=5) (e:=.v 2) (q:=ZB) (ρ:=[some (pgD tk m rs),some (.tup (inZ ins)),some (.int (L:Int)),some (stD 0 (v0 m ins)),some (.lst s1.length),none,none]) (st:=s1++[(true,[stD 0 (v0 m ins)])]) (v:=(L:Int)) (by omega) (by omega) rfl
 rw[aZ,List.range_eq_range']at fr;have hj:s.length<=s1.length:=aM g.len k1.len;have hj2:st.length<=s1.length:=k1.len;rcases Qk (n:=n) (tk:=tk) (x0:=some (.tup (inZ ins))) (x2:=some (.int (L:Int))) hr hm hj L 0 0 (v0 m ins) [stD 0 (v0 m ins)] _ none none hv g2 Zl (by show 1+L<=900;omega) with⟨k',vs',sts,y',z',s3,w1,w2,w3,w4,w5⟩|⟨s3,w3,w4⟩
 ·obtain⟨s4,e4,k4,h4⟩:=Ap.app (F:=run T (n+5)) (s:=s) (j:=s1.length) (i:=4) (e:=.ife (.call 7 (.aC (.v 0) (.aC (.v 3) .aN)) []) (.tupE (.aC (.c (.str (S "none"))) .aN)) (.tupE (.aC (.c (.str (S "late"))) .aN))) (ρ:=[some (pgD tk m rs),some (.tup (inZ ins)),some (.int (L:Int)),some (stD k' vs'),some (.lst s1.length),y',z']) (d:=enD rs k') rfl (.ife (.call (xs:=[pgD tk m rs,stD k' vs']) (.r rf) (Zcy (n:=n+4))) (by
   unfold enD;by_cases c:rs.length<=k'
   ·rw[if_pos c,aH c];exact .r rf
   ·rw[if_neg c,aE c];exact .r rf)) s3 _ (w4.grw hj g2) w5 (by
    have:sts.length<=L:=by
     have h1:=congrArg List.length w2;rw[aI]at h1;have h2:∀ {M k:Nat}{vs:Li Int},(tl rs M k vs).length<=M+1:=fun {M}=>by
      induction M with
      |zero=>intro k vs;exact aD _
      |succ M ih=>
       intro k vs;unfold tl;split
       ·show 1<=_;omega
       ·rename_i p _;have:=ih (k:=p.1) (vs:=p.2);rw[aO];omega
     have:=h2 (M:=L) (k:=0) (vs:=v0 m ins);have h3:([enD rs k']:Li D).length=1:=rfl;omega
    rw[aI];show 1+sts.length+1<=900;omega)
  refine⟨s4,Ye (v:=c_trail) rfl rfl ((Zc (Zj e1)).trans ((Zc p2).trans ((Zc (fr.trans w3)).trans ((Zc e4).trans (Zn (ZJ ?_)))))),(w4.trans k4).grw hj2 gg⟩;have:=Yn (F:=run T (n+5)) (e:=.v 4) (ρ:=[some (pgD tk m rs),some (.tup (inZ ins)),some (.int (L:Int)),some (stD k' vs'),some (.lst s1.length),y',z']) (st:=s4) rfl h4;rw[this,w2];rfl
 ·exact⟨s3,Ye (v:=c_trail) rfl rfl ((Zc (Zj e1)).trans ((Zc p2).trans (Zn (fr.trans w3)))),w4.grw hj2 gg⟩
end
def sn(rs:Li Rw):Nat->Nat->Li Int->Li Nat
 |0,_,_=>[]
 |n+1,k,vs=>match mv rs k vs with
  |.inl _=>if rs.length<=k then [] else [k]
  |.inr p=>k :: sn rs n p.1 p.2
def ZC(l:Li Nat):Nat:=l.foldl (fun b k=>b ||| 2 ^ k) 0
def Ul:D->Bool
 |.tup (.str x :: _)=>decide (x=S "told")
 |_=>false
def hdD:D->D
 |.tup (x :: _)=>x
 |_=>.non
section
variable {F:Nat->Fn}{s st:Za}{e a b c:CE}{ρ:Env}{d x y tk:D}{n w m k i j L:Nat}{vs ins:Li Int}{r:Rw}{rs:Li Rw}{xs ys acc:Li D}{l:Li Nat}
theorem Qj:tl rs n k vs≠[]:=by
 cases n with
 |zero=>exact dU _ _
 |succ n=>unfold tl;split<;>exact dU _ _
theorem Vf:∀ {n k:Nat}{vs:Li Int},(tl rs n k vs).getLastD .non=oc rs n k vs
 |0,k,vs=>rfl
 |n+1,k,vs=>by
  unfold tl oc;cases q:mv rs k vs with
  |inl o=>rfl
  |inr p=>
   show(stD p.1 p.2 :: tl rs n p.1 p.2).getLastD .non=oc rs n p.1 p.2;rw[<-Vf (n:=n)];cases h:tl rs n p.1 p.2 with
   |nil=>exact absurd h Qj
   |cons z zs=>rfl
theorem ZcT:∀ {n k:Nat}{vs:Li Int},isO (oc rs n k vs)=true
 |0,k,vs=>by unfold oc;split<;>rfl
 |n+1,k,vs=>by
  unfold oc;cases q:mv rs k vs with
  |inl o=>exact(ZbO q).1
  |inr p=>exact ZcT
theorem ZcS:∃ x zs,oc rs n k vs=.tup (.str x :: zs):=by
 have:=ZcT (rs:=rs) (n:=n) (k:=k) (vs:=vs);unfold isO at this;split at this
 ·exact⟨_,_,‹_›⟩
 ·cases this
theorem ZcY:∀ {n k:Nat}{vs:Li Int},(if Ul (oc rs n k vs)=true then (stD k vs :: tl rs n k vs).dropLast else (stD k vs :: tl rs n k vs).dropLast.dropLast).map hdD=(sn rs n k vs).map fun(k:Nat)=>D.int (k:Int)
 |0,k,vs=>by
  have:Ul (oc rs 0 k vs)=false:=by
   unfold oc;split
   ·show decide (S "none"=S "told")=false;decide +kernel
   ·show decide (S "late"=S "told")=false;decide +kernel
  rw[this];rfl
 |n+1,k,vs=>by
  have ih:=fun p:Nat×Li Int=>@ZcY n p.1 p.2
  unfold oc tl sn;cases q:mv rs k vs with
  |inl o=>
   obtain⟨_,zs,ho⟩:=ZbO q;dsimp only;rw[ho];by_cases c:rs.length<=k
   ·rw[if_pos c,if_pos c,show Ul (.tup (.str (S "none") :: zs))=false from by show decide (S "none"=S "told")=false;decide +kernel];rfl
   ·rw[if_neg c,if_neg c,show Ul (.tup (.str (S "told") :: zs))=true from by show decide (S "told"=S "told")=true;decide +kernel];rfl
  |inr p=>
   dsimp only;have ih:=ih p;cases h:tl rs n p.1 p.2 with
   |nil=>exact absurd h Qj
   |cons z zs=>
    rw[h]at ih;cases q2:Ul (oc rs n p.1 p.2) with
    |true=>
     rw[q2,if_pos rfl]at ih;rw[if_pos rfl];rw[aL,<-ih];rfl
    |false=>
     rw[q2,if_neg (by decide)]at ih
     rw[if_neg (by decide),aL,<-ih];rfl
theorem Za6(h:xs≠[])(hl:xs.length<=100000):atD xs (-1)=some (xs.getLastD .non):=by
 have h0:0 < xs.length:=List.length_pos_iff.mpr h;unfold atD ixN;rw[if_neg (by decide),if_pos (by omega),oB7,show(-1+(xs.length:Int)).toNat=xs.length - 1 by omega,<-List.getLast?_eq_getElem?,List.getLastD_eq_getLast?]
 cases q:xs.getLast? with
 |none=>exact absurd (List.getLast?_eq_none_iff.mp q) h
 |some z=>rfl
theorem Y.lastT(ha:Y F s a ρ (.tup xs))(h:xs≠[])(hl:xs.length<=100000):Y F s (.ix a (.neg (.c (.int 1)))) ρ (xs.getLastD .non):=g2 (y:=.int (-1)) ha (.r rf) (gp fun st=>by
 show ixR (.tup xs) (.int (-1)) st=_;unfold ixR ixD;simp only[Za6 h hl])
theorem Y.dlT(ha:Y F s a ρ (.tup xs)):Y F s (.slice a .nop (.part (.neg (.c (.int 1))))) ρ (.tup xs.dropLast):=fun st g=>by
 obtain⟨s1,e1,k1⟩:=ha st g;refine⟨s1,?_,k1⟩;show Xy (ev F a) (evC .non) (fun _ st=>some (.int (-1),st)) YI ρ st=_
 unfold Xy evC;simp only[e1];show ZW (.tup xs) none (some (-1)) s1=_;rw[sl_tup];unfold YQ;rw[show sIx xs.length 0 none=0 from rfl,cR,Nat.sub_zero];have:sIx xs.length xs.length (some (-1))=xs.length - 1:=by
  show(if (-1:Int) < 0 then (-1+(xs.length:Int)).toNat else Nat.min (-1:Int).toNat xs.length)=_
  rw[if_pos (by decide)];omega
 rw[this,List.dropLast_eq_take]
theorem UD:∀ {M k:Nat}{vs:Li Int},(tl rs M k vs).length<=M+1
 |0,k,vs=>aD _
 |M+1,k,vs=>by
  unfold tl;split
  ·show 1<=_;omega
  ·rename_i p _;have:=UD (M:=M) (k:=p.1) (vs:=p.2);rw[aO];omega
theorem ZcM{l:Li D}(h:∀ d∈l,∃ x zs,d=.tup (x :: zs))(hl:l.length<=1000)(ha:Y F s a ρ (.tup l)):Lv s (ev F (.comp false [] a (.ix (.v 0) (.c (.int 0))) (.c (.bl true))) ρ) (l.map hdD):=by
 have:=VI (F:=F) (s:=s) (ρ:=ρ) (b:=one) (fr:=[]) (it:=a) (elt:=.ix (.v 0) (.c (.int 0))) (en:=id) (g:=hdD) (l:=l) (wk:=Yh false) (by rw[List.map_id];exact .of ha fun st=>rfl) hl fun d hd=>by
  obtain⟨x,zs,rfl⟩:=h d hd;exact .ixt (j:=0) (.r rf) (.r rf) rfl
 exact this
theorem ZaH:∀ {n k:Nat}{vs:Li Int},∀ d∈stD k vs :: tl rs n k vs,∃ x zs,d=.tup (x :: zs)
 |0,k,vs=>fun d hd=>by
  rcases aG.mp hd with rfl|hd
  ·exact⟨_,_,rfl⟩
  ·obtain⟨x,zs,h⟩:=ZcS (rs:=rs) (n:=0) (k:=k) (vs:=vs)
   rw[aP.mp hd];exact⟨_,zs,h⟩
 |n+1,k,vs=>fun d hd=>by
  rcases aG.mp hd with rfl|hd
  ·exact⟨_,_,rfl⟩
  ·unfold tl at hd
   cases q:mv rs k vs with
   |inl o=>
    rw[q]at hd;obtain⟨_,zs,ho⟩:=ZbO q;rw[aP.mp hd];exact⟨_,zs,ho⟩
   |inr p=>rw[q]at hd;exact ZaH (n:=n) d hd
theorem Q9(hL:L<=800):∀ st,Grw s st->∃ st' q b,run T (n+1) 14 [.tup (stD k vs :: tl rs L k vs)] st=some (.lst q,st')/\st'[q]?=some (b,(sn rs L k vs).map fun(k:Nat)=>D.int (k:Int))/\Grw st st':=fun st g=>by
 have hl:=UD (rs:=rs) (M:=L) (k:=k) (vs:=vs);have lo:(stD k vs :: tl rs L k vs).getLastD .non=oc rs L k vs:=by
  rw[<-Vf (n:=L)];cases h:tl rs L k vs with
  |nil=>exact absurd h Qj
  |cons z zs=>rfl
 obtain⟨x,zs,ho⟩:=ZcS (rs:=rs) (n:=L) (k:=k) (vs:=vs);have c1:∀ {z:Ot D},Y (run T n) s (.cmp .NotEq (.ix (.ix (.v 0) (.neg (.c (.int 1)))) (.c (.int 0))) (.c (.str (S "told")))) [some (.tup (stD k vs :: tl rs L k vs)),z] (.bl (!Ul (oc rs L k vs))):=fun {z}=>by
  have y1:=Y.lastT (F:=run T n) (s:=s) (a:=.v 0) (ρ:=[some (.tup (stD k vs :: tl rs L k vs)),z]) (xs:=stD k vs :: tl rs L k vs) (.r rf) (dU _ _) (by rw[aO];omega)
  rw[lo,ho]at y1;rw[ho];exact .cmp (.ixt (j:=0) y1 (.r rf) rfl) (.r rf) fun _=>rfl
 have al:=ZaH (rs:=rs) (n:=L) (k:=k) (vs:=vs);have d1:∀ d∈(stD k vs :: tl rs L k vs).dropLast,∃ x zs,d=.tup (x :: zs):=fun d hd=>al d (List.dropLast_subset _ hd)
 have se:=ZcY (rs:=rs) (n:=L) (k:=k) (vs:=vs);obtain⟨s1,e1,k1⟩:=Y.dlT (F:=run T n) (s:=s) (a:=.v 0) (ρ:=[some (.tup (stD k vs :: tl rs L k vs)),none]) (xs:=stD k vs :: tl rs L k vs) (.r rf) st g;obtain⟨s2,e2,k2⟩:=c1 (z:=some (.tup (stD k vs :: tl rs L k vs).dropLast)) s1 (g.trans k1);cases q:Ul (oc rs L k vs) with
 |true=>
  rw[q,if_pos rfl]at se;rw[q]at e2;obtain⟨s3,j,b,e3,h3,k3⟩:=ZcM (F:=run T n) (s:=s) (a:=.v 1) (ρ:=[some (.tup (stD k vs :: tl rs L k vs)),some (.tup (stD k vs :: tl rs L k vs).dropLast)]) d1 (by rw[List.length_dropLast,aO];omega) (.r rf) s2 (g.trans (k1.trans k2))
  exact⟨s3,j,b,Ye (v:=c_places_done) rfl rfl ((Zc (Zj e1)).trans ((Zc ((ZY e2).trans Ze)).trans (Zn (ZJ e3)))),by rw[h3,se],k1.trans (k2.trans k3)⟩
 |false=>
  rw[q,if_neg (by decide)]at se
  rw[q]at e2;obtain⟨s3,e3,k3⟩:=Y.dlT (F:=run T n) (s:=s) (a:=.v 1) (ρ:=[some (.tup (stD k vs :: tl rs L k vs)),some (.tup (stD k vs :: tl rs L k vs).dropLast)]) (xs:=(stD k vs :: tl rs L k vs).dropLast) (.r rf) s2 (g.trans (k1.trans k2));obtain⟨s4,j,b,e4,h4,k4⟩:=ZcM (F:=run T n) (s:=s) (a:=.v 1) (ρ:=[some (.tup (stD k vs :: tl rs L k vs)),some (.tup (stD k vs :: tl rs L k vs).dropLast.dropLast)]) (fun d hd=>d1 d (List.dropLast_subset _ hd)) (by rw[List.length_dropLast,List.length_dropLast,aO];omega) (.r rf) s3 (g.trans (k1.trans (k2.trans k3)))
  exact⟨s4,j,b,Ye (v:=c_places_done) rfl rfl ((Zc (Zj e1)).trans ((Zc ((Yi e2).trans ((Zc (Zj e3)).trans Ze))).trans (Zn (ZJ e4)))),by rw[h4,se],k1.trans (k2.trans (k3.trans k4))⟩
end
section
variable {F:Nat->Fn}{s st st1:Za}{e a b c:CE}{ρ:Env}{d x y tk:D}{n w m k i j L:Nat}{vs ins:Li Int}{r:Rw}{rs:Li Rw}{xs ys acc:Li D}{l:Li Nat}{q:CS}
theorem VN{I:Nat->Env->Prop}{bb:Bool}{body:D->Env->Za->Ot (Fl×Za)}(hj:st[j]?=some (bb,xs))(hb:∀ i d ρ st1,xs[i]?=some d->I i ρ->Grw st st1->∃ ρ' st2,body d ρ st1=some (.nx ρ',st2)/\Grw st1 st2/\I (i+1) ρ'):∀ (M i:Nat) (ρ:Env) (st1:Za),i+M=xs.length->I i ρ->Grw st st1->∃ ρ' st2,ZI body j M i ρ st1=some (.nx ρ',st2)/\Grw st1 st2/\I xs.length ρ'
 |0,i,ρ,st1,h,hI,g=>⟨ρ,st1,by unfold ZI;rw[g.get hj];exact if_pos (by omega),.refl,by rw[<-h];exact hI⟩
 |M+1,i,ρ,st1,h,hI,g=>by
  have hi:i < xs.length:=by omega
  obtain⟨ρ1,s2,e1,k1,I1⟩:=hb i _ ρ st1 (lG7 hi) hI g;obtain⟨ρ2,s3,e2,k2,I2⟩:=VN hj hb M (i+1) ρ1 s2 (by omega) I1 (g.trans k1)
  refine⟨ρ2,s3,?_,k1.trans k2,I2⟩
  conv=>lhs;unfold ZI
  simp only[g.get hj,lG7 hi,e1];exact e2
theorem Wl{I:Nat->Env->Prop}{body:D->Env->Za->Ot (Fl×Za)}:∀ {xs:Li D} (a:Nat) (ρ:Env) (st1:Za),(∀ i d ρ st2,xs[i]?=some d->I (a+i) ρ->Grw st1 st2->∃ ρ' st3,body d ρ st2=some (.nx ρ',st3)/\Grw st2 st3/\I (a+i+1) ρ')->I a ρ->∃ ρ' st2,Zs body xs ρ st1=some (.nx ρ',st2)/\Grw st1 st2/\I (a+xs.length) ρ'
 |[],a,ρ,st1,_,hI=>⟨ρ,st1,rfl,.refl,hI⟩
 |x :: xs,a,ρ,st1,hb,hI=>by
  obtain⟨ρ1,s2,e1,k1,I1⟩:=hb 0 x ρ st1 rfl hI .refl;obtain⟨ρ2,s3,e2,k2,I2⟩:=Wl (xs:=xs) (a+1) ρ1 s2 (fun i d ρ st2 h1 h2 g=>by
   have:=hb (i+1) d ρ st2 h1 (by rw[show a+(i+1)=a+1+i by omega];exact h2) (k1.trans g)
   rw[show a+(i+1)+1=a+1+i+1 by omega]at this
   exact this) I1
  refine⟨ρ2,s3,?_,k1.trans k2,by rw[aO,show a+(xs.length+1)=a+1+xs.length by omega];exact I2⟩
  show(match body x ρ st1 with
   |some (.nx ρ',st')=>Zs body xs ρ' st'
   |some (.ct ρ',st')=>Zs body xs ρ' st'
   |some (.bk ρ',st')=>some (.nx ρ',st')
   |some (.rt v,st')=>some (.rt v,st')
   |none=>none)=_
  rw[e1];exact e2
theorem WU{bb:Bool}(e1:ev F e ρ st=some (.lst j,st1))(h:st1[j]?=some (bb,xs)):ex F (.for1 i false e q) ρ st=ZI (fun d ρ s=>ex F q (Zh ρ i d) s) j xs.length 0 ρ st1:=by
 show Wb i false (ev F e) (ex F q) ρ st=_;unfold Wb;rw[e1];show(match st1[j]? with
  |some (_,xs)=>ZI (fun d ρ s=>ex F q (Zh ρ i d) s) j xs.length 0 ρ st1
  |none=>none)=_
 rw[h]
theorem for_tup(e1:ev F e ρ st=some (.tup xs,st1)):ex F (.for1 i false e q) ρ st=Zs (fun d ρ s=>ex F q (Zh ρ i d) s) xs ρ st1:=by
 show Wb i false (ev F e) (ex F q) ρ st=_;unfold Wb;rw[e1];rfl
theorem Zcx(hk:k<=60):C (run T (n+1)) s 43 [.int (k:Int)] (.int ((2 ^ k:Nat):Int)):=fun st g=>by
 obtain⟨ρ',s2,e2,k2,y,rfl⟩:=Wl (st1:=st) (I:=fun i ρ=>∃ y,ρ=[some (.int (k:Int)),some (.int ((2 ^ i:Nat):Int)),y]) (body:=fun d ρ s=>ex (run T n) Xd (Zh ρ 2 d) s) (xs:=(List.range k).map fun(k:Nat)=>D.int (k:Int)) 0 [some (.int (k:Int)),some (.int ((2 ^ 0:Nat):Int)),none] (fun i d ρ st2 h1 h2 g2=>by
  obtain⟨y,rfl⟩:=h2;obtain⟨s3,e3,k3⟩:=Y.mul (F:=run T n) (s:=st2) (a:=.v 1) (b:=.c (.int 2)) (ρ:=[some (.int (k:Int)),some (.int ((2 ^ (0+i):Nat):Int)),some d]) (.r rf) (.r rf) rfl st2 .refl;refine⟨_,s3,(Zc (Zj e3)).trans Ze,k3,some d,?_⟩;rw[show((2 ^ (0+i+1):Nat):Int)=((2 ^ (0+i):Nat):Int) * 2 by rw[Nat.pow_succ,Int.natCast_mul];rfl]
  rfl) ⟨none,rfl⟩
 have fr:=Y5 (F:=run T n) (i:=2) (e:=.v 0) (q:=Xd) (ρ:=[some (.int (k:Int)),some (.int ((2 ^ 0:Nat):Int)),none]) (st:=st) (v:=(k:Int)) (by omega) (by omega) rfl
 rw[aZ]at fr;rw[aB,bX,bD]at e2;exact⟨s2,Ye (v:=c_bit_of) rfl rfl ((Zc (Zj rfl)).trans ((Zc (fr.trans e2)).trans (Zn (ZJ rfl)))),k2⟩
theorem Qw{z:Nat}:ZC (l++[z])=ZC l ||| 2 ^ z:=by unfold ZC;rw[List.foldl_append];rfl
theorem Zdg(hL:L<=800)(hb:∀ z∈sn rs L k vs,z<=60):C (run T (n+2)) s 44 [.tup (stD k vs :: tl rs L k vs)] (.int (ZC (sn rs L k vs):Int)):=fun st g=>by
 obtain⟨s1,q,bb,e1,h1,k1⟩:=Q9 (n:=n) (s:=s) (rs:=rs) (k:=k) (vs:=vs) hL st g;have e1':ev (run T (n+1)) (.call 14 (.aC (.v 0) .aN) []) [some (.tup (stD k vs :: tl rs L k vs)),some (.int ((0:Nat):Int)),none] st=some (.lst q,s1):=e1;obtain⟨ρ',s2,e2,k2,y,rfl⟩:=VN (I:=fun i ρ=>∃ y,ρ=[some (.tup (stD k vs :: tl rs L k vs)),some (.int (ZC ((sn rs L k vs).take i):Int)),y]) (body:=fun d ρ s=>ex (run T (n+1)) XN (Zh ρ 2 d) s) h1 (fun i d ρ st2 hd hI g2=>by
  obtain⟨y,rfl⟩:=hI;rw[aR]at hd;obtain⟨z,hz,rfl⟩:=dI.mp hd;obtain⟨s3,e3,k3⟩:=Y.bi (op:=.BitOr) (F:=run T (n+1)) (s:=st2) (a:=.v 1) (b:=.call 43 (.aC (.v 2) .aN) []) (ρ:=[some (.tup (stD k vs :: tl rs L k vs)),some (.int (ZC ((sn rs L k vs).take i):Int)),some (.int (z:Int))]) (i:=(ZC ((sn rs L k vs).take i):Int)) (j:=((2 ^ z:Nat):Int)) (k:=(ZC ((sn rs L k vs).take (i+1)):Int)) (.r rf) (.call1 (.r rf) (Zcx (hb z (aV hz)))) (by
   rw[List.take_succ,hz,Option.toList_some,Qw];show(if 0<=(ZC ((sn rs L k vs).take i):Int)/\0<=((2 ^ z:Nat):Int) then some ((((ZC ((sn rs L k vs).take i):Int)).toNat ||| ((2 ^ z:Nat):Int).toNat:Nat):Int) else none)=_
   rw[if_pos ⟨dW _,dW _⟩,aZ,aZ]) st2 .refl
  exact⟨_,s3,(Zc (Zj e3)).trans Ze,k3,some (.int (z:Int)),rfl⟩) _ 0 [some (.tup (stD k vs :: tl rs L k vs)),some (.int ((0:Nat):Int)),none] s1 (bD _) ⟨none,rfl⟩ .refl
 rw[aB,List.take_length]at e2;exact⟨s2,Ye (v:=c_seen_in) rfl rfl ((Zc (Zj rfl)).trans ((Zc ((WU e1' h1).trans (by rw[aB];exact e2))).trans (Zn (ZJ rfl)))),k1.trans k2⟩
end
def nxt(l:Li Str)(g:Str):Str:=l.getD ((l.idxOf g+1) % l.length) (S "")
def cnt(g:Str):Str:=if g=S "<" then S ">=" else if g=S ">=" then S "<" else if g=S "<=" then S ">" else if g=S ">" then S "<=" else if g=S "=" then S "!=" else S "="
def Xt:Op->Li Op
 |.nu v=>[.nu (arI (v+1))]
 |.nm _=>[]
def sgR:Rw->Li Rw
 |.put x y g z=>[.put x y (nxt psL g) z]
 |.ifr y g z t=>[.ifr y (nxt isL g) z t]
 |_=>[]
def moR:Rw->Li Rw
 |.put x y g z=>(Xt y).map (fun q=>.put x q g z)++(Xt z).map (fun q=>.put x y g q)
 |.ifr y g z t=>(Xt y).map (fun q=>.ifr q g z t)++(Xt z).map (fun q=>.ifr y g q t)
 |.tell y=>(Xt y).map .tell
 |_=>[]
def tuR:Rw->Li Rw
 |.ifr y g z t=>[.ifr y (cnt g) z t]
 |_=>[]
def ouR:Rw->Li Rw
 |.skip=>[]
 |_=>[.skip]
def swR:Rw->Li Rw
 |.put x y g z=>if y=z then [] else [.put x z g y]
 |.ifr y g z t=>if y=z then [] else [.ifr z g y t]
 |_=>[]
def faR(sz:Nat):Rw->Li Rw
 |.ifr y g z t=>if sz<=t then [] else [.ifr y g z (t+1)]
 |.go t=>if sz<=t then [] else [.go (t+1)]
 |_=>[]
section
variable {F:Nat->Fn}{s st st1:Za}{e a b c:CE}{ρ:Env}{d x y tk:D}{n w m k i j L sz:Nat}{vs ins:Li Int}{r:Rw}{rs:Li Rw}{xs ys acc:Li D}{q:CS}{g:Str}{o z:Op}{obj:D}
theorem Ze2(h:(xs=[.kt psL,.str g]/\g∈psL/\d=.str (nxt psL g))\/(xs=[.kt isL,.str g]/\g∈isL/\d=.str (nxt isL g))):C (run T (n+1)) s 70 xs d:=by
 rcases h with⟨rfl,h,rfl⟩|⟨rfl,h,rfl⟩
 ·simp only[psL,aG,aT,or_false]at h
  rcases h with rfl|rfl|rfl|rfl|rfl<;>exact .of (v:=c_behind) rfl rfl (.ret (.r fun st=>by rfl))
 ·simp only[isL,aG,aT,or_false]at h
  rcases h with rfl|rfl|rfl|rfl|rfl|rfl<;>exact .of (v:=c_behind) rfl rfl (.ret (.r fun st=>by rfl))
theorem Zf7(h:YN m sz r):C (run T (n+2)) s 171 [obj,rwE r,.int (sz:Int)] (.tup ((sgR r).map rwE)):=by
 cases r with
 |put x y g z=>
  obtain⟨_,_,hg,_⟩:=h;exact .of (v:=c_Sign_turned) rfl rfl (.yes (.r rf) (.cons (.call (xs:=[rwE (.put x y g z),.int ((3:Nat):Int),.str (nxt psL g)]) (.cons (.r rf) (.cons (.r rf) (.cons (.call (xs:=[.kt psL,.str g]) (.r rf) (Ze2 (.inl ⟨rfl,hg,rfl⟩))) .nil))) (XA (i:=3) (by show 3 < 5;decide) (by show 5<=1000;decide))) .nil))
 |ifr y g z t=>
  obtain⟨_,hg,_,_⟩:=h;exact .of (v:=c_Sign_turned) rfl rfl (.no (.r rf) (.yes (.r rf) (.cons (.call (xs:=[rwE (.ifr y g z t),.int ((2:Nat):Int),.str (nxt isL g)]) (.cons (.r rf) (.cons (.r rf) (.cons (.call (xs:=[.kt isL,.str g]) (.r rf) (Ze2 (.inr ⟨rfl,hg,rfl⟩))) .nil))) (XA (i:=2) (by show 2 < 5;decide) (by show 5<=1000;decide))) .nil)))
 |go t=>exact .of (v:=c_Sign_turned) rfl rfl (.no (.r rf) (.no (.r rf) (.ret (.r rf))))
 |tell y=>exact .of (v:=c_Sign_turned) rfl rfl (.no (.r rf) (.no (.r rf) (.ret (.r rf))))
 |skip=>exact .of (v:=c_Sign_turned) rfl rfl (.no (.r rf) (.no (.r rf) (.ret (.r rf))))
theorem Zga(h:YN m sz r):C (run T (n+2)) s 159 [obj,rwE r,.int (sz:Int)] (.tup ((tuR r).map rwE)):=by
 cases r with
 |ifr y g z t=>
  obtain⟨_,hg,_,_⟩:=h;refine .of (v:=c_Turn_turned) rfl rfl (.no (.r rf) (.ret (.cons (.call (xs:=[rwE (.ifr y g z t),.int ((2:Nat):Int),.str (cnt g)]) (.cons (.r rf) (.cons (.r rf) (.cons ?_ .nil))) (XA (i:=2) (by show 2 < 5;decide) (by show 5<=1000;decide))) .nil)))
  simp only[isL,aG,aT,or_false]at hg;rcases hg with rfl|rfl|rfl|rfl|rfl|rfl<;>exact .r fun st=>rfl
 |put x y g z=>exact .of (v:=c_Turn_turned) rfl rfl (.yes (.r rf) (.r rf))
 |go t=>exact .of (v:=c_Turn_turned) rfl rfl (.yes (.r rf) (.r rf))
 |tell y=>exact .of (v:=c_Turn_turned) rfl rfl (.yes (.r rf) (.r rf))
 |skip=>exact .of (v:=c_Turn_turned) rfl rfl (.yes (.r rf) (.r rf))
theorem Zf5:C (run T (n+1)) s 154 [obj,rwE r,.int (sz:Int)] (.tup ((ouR r).map rwE)):=by
 cases r with
 |skip=>exact .of (v:=c_Out_turned) rfl rfl (.yes (.r rf) (.r rf))
 |put x y g z=>exact .of (v:=c_Out_turned) rfl rfl (.no (.r rf) (.ret (.r rf)))
 |ifr y g z t=>exact .of (v:=c_Out_turned) rfl rfl (.no (.r rf) (.ret (.r rf)))
 |go t=>exact .of (v:=c_Out_turned) rfl rfl (.no (.r rf) (.ret (.r rf)))
 |tell y=>exact .of (v:=c_Out_turned) rfl rfl (.no (.r rf) (.ret (.r rf)))
theorem op_eq:eqS st (opE o) (opE z)=some (decide (o=z)):=by
 cases o with
 |nm i=>cases z with
  |nm j=>
   show some (decide (S "name"=S "name")&&(decide ((i:Int)=(j:Int))&&true))=_;rw[aH rfl,cV,dH];exact congrArg some (decide_eq_decide.mpr ⟨fun h=>by rw[Int.ofNat_inj.mp h],fun h=>by cases h;rfl⟩)
  |nu v=>
   show some (decide (S "name"=S "number")&&(decide ((i:Int)=v)&&true))=_;rw[show decide (S "name"=S "number")=false by decide +kernel]
   exact congrArg some (aE fun h=>nomatch h).symm
 |nu u=>cases z with
  |nm j=>
   show some (decide (S "number"=S "name")&&(decide (u=(j:Int))&&true))=_;rw[show decide (S "number"=S "name")=false by decide +kernel]
   exact congrArg some (aE fun h=>nomatch h).symm
  |nu v=>
   show some (decide (S "number"=S "number")&&(decide (u=v)&&true))=_;rw[aH rfl,cV,dH];exact congrArg some (decide_eq_decide.mpr ⟨fun h=>by rw[h],fun h=>by cases h;rfl⟩)
theorem Y.neO(ha:Y F s a ρ (opE o))(hb:Y F s b ρ (opE z)):Y F s (.cmp .NotEq a b) ρ (.bl (!decide (o=z))):=.cmp ha hb fun st=>by
 show(eqS st (opE o) (opE z)).map Bool.not=_;rw[op_eq];rfl
theorem Zf9:C (run T (n+1)) s 162 [obj,rwE r,.int (sz:Int)] (.tup ((swR r).map rwE)):=by
 cases r with
 |put x y g z=>
  refine .of (v:=c_Swap_turned) rfl rfl (.pick (k:=true&&!decide (y=z)) (.and (.r rf) fun _=>.neO (.r rf) (.r rf)) (fun h=>?_) fun h=>.no (.r rf) ?_)
  ·have:¬y=z:=fun e=>by rw[aH e]at h;cases h
   show R _ _ _ _ (.tup ((if y=z then [] else [Rw.put x z g y]).map rwE))
   rw[if_neg this];exact .ret (.r rf)
  ·have:y=z:=by
    by_cases e:y=z
    ·exact e
    ·rw[aE e]at h;cases h
   show R _ _ _ _ (.tup ((if y=z then [] else [Rw.put x z g y]).map rwE))
   rw[if_pos this];exact .ret (.r rf)
 |ifr y g z t=>
  refine .of (v:=c_Swap_turned) rfl rfl (.no (.r rf) (.pick (k:=true&&!decide (y=z)) (.and (.r rf) fun _=>.neO (.r rf) (.r rf)) (fun h=>?_) fun h=>?_))
  ·have:¬y=z:=fun e=>by rw[aH e]at h;cases h
   show R _ _ _ _ (.tup ((if y=z then [] else [Rw.ifr z g y t]).map rwE))
   rw[if_neg this];exact .ret (.r rf)
  ·have:y=z:=by
    by_cases e:y=z
    ·exact e
    ·rw[aE e]at h;cases h
   show R _ _ _ _ (.tup ((if y=z then [] else [Rw.ifr z g y t]).map rwE))
   rw[if_pos this];exact .ret (.r rf)
 |go t=>exact .of (v:=c_Swap_turned) rfl rfl (.no (.r rf) (.no (.r rf) (.ret (.r rf))))
 |tell y=>exact .of (v:=c_Swap_turned) rfl rfl (.no (.r rf) (.no (.r rf) (.ret (.r rf))))
 |skip=>exact .of (v:=c_Swap_turned) rfl rfl (.no (.r rf) (.no (.r rf) (.ret (.r rf))))
theorem Zf3:C (run T (n+1)) s 165 [obj,rwE r,.int (sz:Int)] (.tup ((faR sz r).map rwE)):=by
 have ge:∀ {t:Nat},decide ((sz:Int)<=(t:Int))=decide (sz<=t):=fun {t}=>decide_eq_decide.mpr (by omega)
 cases r with
 |go t=>
  refine .of (v:=c_Far_turned) rfl rfl (.pick (k:=false||decide (sz<=t)) (.or (.r rf) fun _=>.cmp (x:=.int (t:Int)) (.r rf) (.r rf) fun _=>congrArg some ge) (fun h=>?_) fun h=>?_)
  ·show R _ _ _ _ (.tup ((if sz<=t then [] else [Rw.go (t+1)]).map rwE))
   rw[if_pos (of_decide_eq_true h)];exact .ret (.r rf)
  ·show R _ _ _ _ (.tup ((if sz<=t then [] else [Rw.go (t+1)]).map rwE))
   rw[if_neg (of_decide_eq_false h)];exact .ret (.cons (.adT (xs:=[.str (S "go")]) (ys:=[.int ((t+1:Nat):Int)]) (.r rf) (.cons (by rw[bQ];exact .add (i:=(t:Int)) (.r rf) (.r rf)) .nil) (by show 1+1<=_;decide)) .nil)
 |ifr y g z t=>
  refine .of (v:=c_Far_turned) rfl rfl (.pick (k:=false||decide (sz<=t)) (.or (.r rf) fun _=>.cmp (x:=.int (t:Int)) (.r rf) (.r rf) fun _=>congrArg some ge) (fun h=>?_) fun h=>?_)
  ·show R _ _ _ _ (.tup ((if sz<=t then [] else [Rw.ifr y g z (t+1)]).map rwE))
   rw[if_pos (of_decide_eq_true h)];exact .ret (.r rf)
  ·show R _ _ _ _ (.tup ((if sz<=t then [] else [Rw.ifr y g z (t+1)]).map rwE))
   rw[if_neg (of_decide_eq_false h)];exact .ret (.cons (.adT (xs:=[.str (S "if"),opE y,.str g,opE z]) (ys:=[.int ((t+1:Nat):Int)]) (.r rf) (.cons (by rw[bQ];exact .add (i:=(t:Int)) (.r rf) (.r rf)) .nil) (by show 4+1<=_;decide)) .nil)
 |put x y g z=>exact .of (v:=c_Far_turned) rfl rfl (.yes (.or (k:=true) (m:=false) (.r rf) fun h=>nomatch h) (.r rf))
 |tell y=>exact .of (v:=c_Far_turned) rfl rfl (.yes (.or (k:=true) (m:=false) (.r rf) fun h=>nomatch h) (.r rf))
 |skip=>exact .of (v:=c_Far_turned) rfl rfl (.yes (.or (k:=true) (m:=false) (.r rf) fun h=>nomatch h) (.r rf))
end
section
variable {F:Nat->Fn}{s st st1:Za}{e a b c:CE}{ρ ρ':Env}{d x y tk:D}{n w m k i j i0 L sz:Nat}{vs ins:Li Int}{r:Rw}{rs:Li Rw}{xs ys acc ds:Li D}{q:CS}{g0:Str}{o z:Op}{obj:D}
theorem Zfc{α:Type}{en:α->D}{g:α->Li D}{E:Ot D->Env}(hS:∀ y d,Zh (E y) i d=E (some d))(hj:s.length<=j):∀ {l:Li α},(∀ a∈l,Ap F s j q (E (some (en a))) (E (some (en a))) (g a))->∀ {y:Ot D}{st:Za}{acc:Li D},Grw s st->st[j]?=some (true,acc)->acc.length+(l.flatMap g).length<=900->∃ y' st',Zs (fun d ρ s=>ex F q (Zh ρ i d) s) (l.map en) (E y) st=some (.nx (E y'),st')/\Kj j st st'/\st'[j]?=some (true,acc++l.flatMap g)
 |[],_,y,st,acc,k,hk,_=>⟨y,st,rfl,Grw.refl.kj,by rw[List.flatMap_nil,aW];exact hk⟩
 |a :: l,h,y,st,acc,k,hk,hl=>by
  rw[cD,aI]at hl;obtain⟨s1,e1,g1,k1⟩:=h a lQ7 st acc k hk (by omega)
  obtain⟨y',s2,e2,g2,k2⟩:=Zfc hS hj (fun c hc=>h c (lM7 _ hc)) (y:=some (en a)) (g1.grw hj k) k1 (by rw[aI];omega)
  refine⟨y',s2,?_,g1.trans g2,by rw[cD,<-bF];exact k2⟩
  rw[aL];show(match ex F q (Zh (E y) i (en a)) st with
   |some (.nx ρ',st')=>Zs _ (l.map en) ρ' st'
   |some (.ct ρ',st')=>Zs _ (l.map en) ρ' st'
   |some (.bk ρ',st')=>some (.nx ρ',st')
   |some (.rt v,st')=>some (.rt v,st')
   |none=>none)=_
  rw[hS,e1];exact e2
theorem Zfd{α:Type}{en:α->D}{g:α->Li D}{E:Ot D->Env}{la:Nat}{bb:Bool}{all:Li α}(hS:∀ y d,Zh (E y) i d=E (some d))(hj:s.length<=j)(hn:la≠j)(h:∀ a∈all,Ap F s j q (E (some (en a))) (E (some (en a))) (g a)):∀ (M t:Nat) {y:Ot D}{st:Za}{acc:Li D},t+M=all.length->Grw s st->st[la]?=some (bb,all.map en)->st[j]?=some (true,acc)->acc.length+((all.drop t).flatMap g).length<=900->∃ y' st',ZI (fun d ρ s=>ex F q (Zh ρ i d) s) la M t (E y) st=some (.nx (E y'),st')/\Kj j st st'/\st'[j]?=some (true,acc++(all.drop t).flatMap g)
 |0,t,y,st,acc,ht,k,ha,hk,_=>⟨y,st,by unfold ZI;rw[ha];exact if_pos (by rw[aB];omega),Grw.refl.kj,by rw[List.drop_of_length_le (by omega),List.flatMap_nil,aW];exact hk⟩
 |M+1,t,y,st,acc,ht,k,ha,hk,hl=>by
  have hi:t < all.length:=by omega
  rw[cI hi,cD,aI]at hl;obtain⟨s1,e1,g1,k1⟩:=h _ (dM hi) st acc k hk (by omega)
  obtain⟨y',s2,e2,g2,k2⟩:=Zfd hS hj hn h M (t+1) (y:=some (en all[t])) (by omega) (g1.grw hj k) ((g1.old _ (Zd ha) hn).trans ha) k1 (by rw[aI];omega)
  refine⟨y',s2,?_,g1.trans g2,by rw[cI hi,cD,<-bF];exact k2⟩
  conv=>lhs;unfold ZI
  have hx:(all.map en)[t]?=some (en all[t]):=by rw[aR,lG7 hi];rfl
  simp only[ha,hx,hS,e1];exact e2
theorem Zgb{u v:α->D}{g:α->Li D}{E:Ot D->Ot D->Ot D->Env}{i':Nat}(hS:∀ y z w u v,Zh (Zh (E y z w) i u) i' v=E (some u) (some v) w)(hj:s.length<=j){l:Li α}:(∀ a∈l,∀ w st acc,Grw s st->st[j]?=some (true,acc)->acc.length+(g a).length<=900->∃ ρ' st',(∃ y z w,ρ'=E y z w)/\ex F q (E (some (u a)) (some (v a)) w) st=some (.nx ρ',st')/\Kj j st st'/\st'[j]?=some (true,acc++g a))->∀ {y z w:Ot D}{st:Za}{acc:Li D},Grw s st->st[j]?=some (true,acc)->acc.length+(l.flatMap g).length<=900->∃ y' z' w' st',ZE (fun _=>True) (fun x y ρ S=>ex F q (Zh (Zh ρ i x) i' y) S) (l.map fun a=>(u a,v a)) (E y z w) st=some (.nx (E y' z' w'),st')/\Kj j st st'/\st'[j]?=some (true,acc++l.flatMap g):=by
 induction l with
 |nil=>intro _ y z w st acc k hk _;exact⟨y,z,w,st,if_pos trivial,Grw.refl.kj,by rw[List.flatMap_nil,aW];exact hk⟩
 |cons a l ih=>
  intro h y z w st acc k hk hl;rw[cD,aI]at hl;obtain⟨_,s1,⟨y1,z1,w1,rfl⟩,e1,g1,k1⟩:=h a lQ7 w st acc k hk (by omega)
  obtain⟨y',z',w',s2,e2,g2,k2⟩:=ih (fun c hc=>h c (lM7 _ hc)) (y:=y1) (z:=z1) (w:=w1) (g1.grw hj k) k1 (by rw[aI];omega)
  refine⟨y',z',w',s2,?_,g1.trans g2,by rw[cD,<-bF];exact k2⟩
  rw[aL,ZE,if_pos trivial];simp only[hS,e1];exact e2
def Lf(s:Za)(f:Za->Res)(xs:Li D):Prop:=∀ st,Grw s st->∃ st' j,f st=some (.lst j,st')/\st'[j]?=some (true,xs)/\Grw st st'
theorem Lf.lv{f:Za->Res}(h:Lf s f xs):Lv s f xs:=fun st g=>by
 obtain⟨s1,j,e1,h1,k1⟩:=h st g;exact⟨s1,j,true,e1,h1,k1⟩
theorem ZdT{b:D->Li (Ot D)}{en g:α->D}{l:Li α}(hi:Wk F s it ρ wk (l.map en))(hl:l.length<=1000)(h:∀ a∈l,Y F s elt (ZK b ρ fr (en a)) (g a)):Lf s (ZX b wk fr (ev F it) (ev F elt) (ev F (.c (.bl true))) ρ) (l.map g):=fun st k=>by
 obtain⟨x,s1,ok,e1,k1,e2,ho⟩:=hi st k;obtain⟨s2,e3,k2⟩:=XX (s:=s1) (ok:=ok) (fe:=fun d=>ev F elt (ZK b ρ fr d)) (fc:=fun d=>ev F (.c (.bl true)) (ZK b ρ fr d)) (fun _ _=>rfl) ho (fun a ha=>Gv.mono (h a ha) (k.trans k1)) s1 .refl
 refine⟨s2++[(true,l.map g)],_,?_,Zl,(k1.trans k2).trans .push⟩;unfold ZX;simp only[e1,e2,aB,if_pos hl,e3]
theorem Ap.ext(hi:ρ[i]?=some (some (.lst j)))(h:Lf s (ev F e ρ) xs):Ap F s j (.ext i e) ρ ρ xs:=fun st acc g hk hl=>by
 obtain⟨s1,q,e1,h1,k1⟩:=h st g;have h2:=k1.get hk;refine⟨s1.set j (true,acc++xs),?_,⟨fun m hm hn=>?_,by rw[aY];exact k1.len⟩,by rw[Zk (Zd h2),if_pos rfl]⟩
 ·show Jz i (ev F e) ρ st=_
  unfold Jz ZdD;simp only[hi,e1,h2,h1];rw[if_pos (by unfold Zu;omega)]
 ·rw[Zk (Zd h2),if_neg (Ne.symm hn)]
  exact k1.old m hm
theorem R.gather{l:Li α}{en:α->D}{g:α->Li D}{E:Ot D->Nat->Env}(h0:∀ j,Zh ρ i0 (.lst j)=E none j)(hS:∀ y j d,Zh (E y j) i d=E (some d) j)(hv:∀ y j,(E y j)[i0]?=some (some (.lst j)))(he:∀ j,Y F s e (E none j) (.tup (l.map en)))(hb:∀ j,s.length<=j->∀ a∈l,Ap F s j q (E (some (en a)) j) (E (some (en a)) j) (g a))(hl:(l.flatMap g).length<=900):R F s (.seq (.set i0 (.lstE .aN)) (.seq (.for1 i false e q) (.seq (.ret (.tOf (.v i0))) .skip))) ρ (.tup (l.flatMap g)):=fun st gr=>by
 obtain⟨s1,e1,k1⟩:=he st.length (st++[(true,[])]) (gr.trans .push);obtain⟨y',s2,e2,k2,h2⟩:=Zfc (i:=i) (E:=fun y=>E y st.length) (fun y d=>hS y st.length d) gr.len (hb st.length gr.len) (y:=none) ((gr.trans .push).trans k1) (k1.get Zl) (by rw[dD,bD];exact hl)
 refine⟨s2,?_,(k1.kj.trans k2).grw (aD _) .push⟩;have p1:ex F (.set i0 (.lstE .aN)) ρ st=some (.nx (E none st.length),st++[(true,[])]):=by rw[<-h0];exact Zj rfl
 exact(Zc p1).trans ((Zc ((for_tup e1).trans e2)).trans (Zn (ZJ (Yn (c:=(true,[]++l.flatMap g)) (by show YT i0 _ _=_;unfold YT;rw[hv]) h2))))
theorem Zf4(h:YN m sz r):C (run T (n+2)) s 151 [obj,rwE r,.int (sz:Int)] (.tup ((moR r).map rwE)):=by
 have fin:∀ (l:Li (Nat×Li Rw)),(∀ {s:Za},C (run T (n+1)) s 113 [rwE r] (.tup (l.map fun p=>D.int (p.1:Int))))->(l.flatMap fun p=>p.2.map rwE)=(moR r).map rwE->((moR r).map rwE).length<=900->(∀ p∈l,∀ j,s.length<=j->Ap (run T (n+1)) s j Z9 [some obj,some (rwE r),some (.int (sz:Int)),some (.lst j),some (.int (p.1:Int))] [some obj,some (rwE r),some (.int (sz:Int)),some (.lst j),some (.int (p.1:Int))] (p.2.map rwE))->C (run T (n+2)) s 151 [obj,rwE r,.int (sz:Int)] (.tup ((moR r).map rwE)):=fun l h1 h2 h3 h4=>by
  rw[<-h2]at h3 ⊢;exact .of (v:=c_More_turned) rfl rfl (.gather (i0:=3) (i:=4) (E:=fun y j=>[some obj,some (rwE r),some (.int (sz:Int)),some (.lst j),y]) (en:=fun p:Nat×Li Rw=>D.int (p.1:Int)) (g:=fun p=>p.2.map rwE) (fun _=>rfl) (fun _ _ _=>rfl) (fun _ _=>rfl) (fun j=>.call1 (.r rf) h1) (fun j hj p hp=>h4 p hp j hj) h3)
 have one:∀ {row:Li D}{p j:Nat}{o:Op}{f:Op->Rw},rwE r=.tup row->row.length<=5->row[p]?=some (opE o)->(∀ q,.tup (row.set p (opE q))=rwE (f q))->Ap (run T (n+1)) s j Z9 [some obj,some (rwE r),some (.int (sz:Int)),some (.lst j),some (.int (p:Int))] [some obj,some (rwE r),some (.int (sz:Int)),some (.lst j),some (.int (p:Int))] (((Xt o).map f).map rwE):=fun {row p j o f} e1 e2 e3 e4=>by
  rw[e1];have yo:∀ {s:Za},Y (run T (n+1)) s (.ix (.v 1) (.v 4)) [some obj,some (.tup row),some (.int (sz:Int)),some (.lst j),some (.int (p:Int))] (opE o):=.ixt (j:=p) (.r rf) (.r rf) e3;cases o with
  |nm i=>exact .one (.ite (k:=false) (.cmp (x:=.str (S "name")) (.ixt (j:=0) yo (.r rf) rfl) (.r rf) fun _=>rfl) .skip)
  |nu v=>
   refine .one (.ite (k:=true) (.cmp (x:=.str (S "number")) (.ixt (j:=0) yo (.r rf) rfl) (.r rf) fun _=>rfl) (.one (.app rfl ?_)))
   have:=XA (n:=n) (s:=s) (xs:=row) (i:=p) (d:=opE (.nu (arI (v+1)))) (Zd e3) (by omega)
   rw[e4]at this;exact .call (xs:=[.tup row,.int (p:Int),opE (.nu (arI (v+1)))]) (.cons (.r rf) (.cons (.r rf) (.cons (.cons (.r rf) (.cons (.call1 (.add (.ixt (j:=1) yo (.r rf) rfl) (.r rf)) YM) .nil)) .nil))) this
 have il:∀ {o:Op},(Xt o).length<=1:=fun {o}=>by cases o with
  |nm i=>exact aU _
  |nu v=>exact aD _
 have op:∀ {s:Za}{l:Li D},(match r with|.put _ _ _ _=>[D.int 2,.int 4]|.ifr _ _ _ _=>[.int 1,.int 3]|.tell _=>[.int 1]|_=>[])=l->C (run T (n+1)) s 113 [rwE r] (.tup l):=fun {s l} e=>by
  rw[<-e];cases r<;>exact .of (v:=c_operand_places) rfl rfl (.ret (.r rf))
 cases r with
 |put x y g z=>
  refine fin [(2,(Xt y).map fun q=>.put x q g z),(4,(Xt z).map fun q=>.put x y g q)] (op rfl) (by show _++(_++[])=List.map rwE (_++_);rw[aW,bG]) (by show(List.map rwE (_++_)).length<=900;rw[aB,aI,aB,aB];have:=il (o:=y);have:=il (o:=z);omega) fun p hp j hj=>?_
  simp only[aG,aT,or_false]at hp;rcases hp with rfl|rfl
  ·exact one (f:=fun q=>.put x q g z) rfl (by show 5<=5;decide) rfl fun q=>rfl
  ·exact one (f:=fun q=>.put x y g q) rfl (by show 5<=5;decide) rfl fun q=>rfl
 |ifr y g z t=>
  refine fin [(1,(Xt y).map fun q=>.ifr q g z t),(3,(Xt z).map fun q=>.ifr y g q t)] (op rfl) (by show _++(_++[])=List.map rwE (_++_);rw[aW,bG]) (by show(List.map rwE (_++_)).length<=900;rw[aB,aI,aB,aB];have:=il (o:=y);have:=il (o:=z);omega) fun p hp j hj=>?_
  simp only[aG,aT,or_false]at hp;rcases hp with rfl|rfl
  ·exact one (f:=fun q=>.ifr q g z t) rfl (by show 5<=5;decide) rfl fun q=>rfl
  ·exact one (f:=fun q=>.ifr y g q t) rfl (by show 5<=5;decide) rfl fun q=>rfl
 |tell y=>
  refine fin [(1,(Xt y).map .tell)] (op rfl) (by show _++[]=_;rw[aW];rfl) (by show(List.map rwE (List.map _ _)).length<=900;rw[aB,aB];have:=il (o:=y);omega) fun p hp j hj=>?_
  rw[aP.mp hp];exact one (f:=.tell) rfl (by show 2<=5;decide) rfl fun q=>rfl
 |go t=>exact fin [] (op rfl) rfl (aU _) fun p hp=>nomatch hp
 |skip=>exact fin [] (op rfl) rfl (aU _) fun p hp=>nomatch hp
end
structure Stp where
 c:Nat
 t:Nat
 v:Nat
 w:Str
 f:Rw->List Rw
def stp(sz:Nat):Li Stp:=[⟨169,171,170,S "sign",sgR⟩,⟨149,151,150,S "more",moR⟩,⟨157,159,158,S "turn",tuR⟩,⟨152,154,153,S "out",ouR⟩,⟨160,162,161,S "swap",swR⟩,⟨163,165,164,S "far",faR sz⟩]
def tD(p:Nat×Str×Rw):D:=.tup [.int (p.1:Int),.str p.2.1,rwE p.2.2]
def fkR(sz k:Nat)(r:Rw):Li (Nat×Str×Rw):=(stp sz).flatMap fun p=>(p.f r).map fun q=>(k,p.w,q)
def fkL(rs:Li Rw):Li (Nat×Str×Rw):=rs.zipIdx.flatMap fun p=>fkR rs.length p.2 p.1
section
variable {F:Nat->Fn}{s st st1:Za}{e a b c:CE}{ρ ρ':Env}{d x y tk:D}{n w m k i j i0 L sz:Nat}{r:Rw}{rs:Li Rw}{xs ys acc ds:Li D}{q:CS}{obj:D}
theorem Y.methO{cl:Nat}{tab:Li (Nat×Nat)}(ho:Y F s e ρ (.obj cl))(ht:tab.lookup cl=some j)(ha:Y F s a ρ (.tup xs))(h:C F s j (.obj cl :: xs) d):Y F s (.meth tab e a) ρ d:=fun st g=>by
 obtain⟨s1,e1,k1⟩:=ho st g;obtain⟨s2,e2,k2⟩:=ha s1 (g.trans k1);obtain⟨s3,e3,k3⟩:=h s2 (g.trans (k1.trans k2));refine⟨s3,?_,k1.trans (k2.trans k3)⟩;show Wn F tab (ev F e) (ev F a) ρ st=_;unfold Wn;rw[e1];show(match tab.lookup cl with
  |some j=>(match ev F a ρ s1 with
   |some (.tup xs,st2)=>F j (.obj cl :: xs) st2
   |_=>none)
  |none=>none)=_
 rw[ht];show(match ev F a ρ s1 with
   |some (.tup xs,st2)=>F j (.obj cl :: xs) st2
   |_=>none)=_
 rw[e2];exact e3
theorem ZdY:(moR r).length<=2:=by
 have il:∀ {o:Op},(Xt o).length<=1:=fun {o}=>by
  cases o with
  |nm i=>exact aU _
  |nu v=>exact aD _
 cases r with
 |put x y g z=>show(_++_:Li Rw).length<=2;rw[aI,aB,aB];have:=il (o:=y);have:=il (o:=z);omega
 |ifr y g z t=>show(_++_:Li Rw).length<=2;rw[aI,aB,aB];have:=il (o:=y);have:=il (o:=z);omega
 |tell y=>show(List.map _ _).length<=2;rw[aB];have:=il (o:=y);omega
 |go t=>exact aU _
 |skip=>exact aU _
theorem Qg{p:Stp}(hp:p∈stp sz):(p.f r).length<=2:=by
 simp only[stp,aG,aT,or_false]at hp;rcases hp with rfl|rfl|rfl|rfl|rfl|rfl
 ·cases r<;>first|exact aU _|exact(by decide:1<=2)
 ·exact ZdY
 ·cases r<;>first|exact aU _|exact(by decide:1<=2)
 ·cases r<;>first|exact aU _|exact(by decide:1<=2)
 ·cases r with
  |put x y g z=>show(if y=z then [] else [Rw.put x z g y]).length<=2;split<;>first|exact aU _|exact(by decide:1<=2)
  |ifr y g z t=>show(if y=z then [] else [Rw.ifr z g y t]).length<=2;split<;>first|exact aU _|exact(by decide:1<=2)
  |_=>exact aU _
 ·cases r with
  |go t=>show(if sz<=t then [] else [Rw.go (t+1)]).length<=2;split<;>first|exact aU _|exact(by decide:1<=2)
  |ifr y g z t=>show(if sz<=t then [] else [Rw.ifr y g z (t+1)]).length<=2;split<;>first|exact aU _|exact(by decide:1<=2)
  |_=>exact aU _
theorem WN{p:Stp}(hp:p∈stp sz)(h:YN m sz r):C (run T (n+2)) s p.t [.obj p.c,rwE r,.int (sz:Int)] (.tup ((p.f r).map rwE))/\C (run T (n+2)) s p.v [.obj p.c] (.str p.w)/\List.lookup p.c [(146,148),(169,171),(149,151),(157,159),(152,154),(160,162),(163,165)]=some p.t/\List.lookup p.c [(146,147),(169,170),(149,150),(157,158),(152,153),(160,161),(163,164)]=some p.v:=by
 simp only[stp,aG,aT,or_false]at hp;rcases hp with rfl|rfl|rfl|rfl|rfl|rfl
 ·exact⟨Zf7 h,.of (v:=c_Sign_word) rfl rfl (.ret (.r rf)),rfl,rfl⟩
 ·exact⟨Zf4 h,.of (v:=c_More_word) rfl rfl (.ret (.r rf)),rfl,rfl⟩
 ·exact⟨Zga h,.of (v:=c_Turn_word) rfl rfl (.ret (.r rf)),rfl,rfl⟩
 ·exact⟨Zf5,.of (v:=c_Out_word) rfl rfl (.ret (.r rf)),rfl,rfl⟩
 ·exact⟨Zf9,.of (v:=c_Swap_word) rfl rfl (.ret (.r rf)),rfl,rfl⟩
 ·exact⟨Zf3,.of (v:=c_Far_word) rfl rfl (.ret (.r rf)),rfl,rfl⟩
theorem Zfs{q2:Nat}{p:Stp}(hr:Rs m rs)(hp:p∈stp rs.length)(h:YN m rs.length r):Ap (run T (n+3)) s j XD [some (pgD tk m rs),some (.tup (rs.map rwE)),some (.lst q2),some (.lst j),some (.int (k:Int)),some (rwE r),some (.obj p.c)] [some (pgD tk m rs),some (.tup (rs.map rwE)),some (.lst q2),some (.lst j),some (.int (k:Int)),some (rwE r),some (.obj p.c)] (((p.f r).map fun q=>(k,p.w,q)).map tD):=by
 refine .one (.ext rfl ?_);rw[bN];refine ZdT (b:=one) (en:=rwE) (g:=tD ∘ fun q=>(k,p.w,q)) (l:=p.f r) (.of (x:=.tup ((p.f r).map rwE)) (.methO (xs:=[rwE r,.int (rs.length:Int)]) (.r rf) (WN (n:=n) (s:=s) hp h).2.2.1 (.cons (.r rf) (.cons ?_ .nil)) ?_) fun st=>rfl) (by have:=Qg (r:=r) hp;omega) fun q hq=>.cons (.r rf) (.cons (.methO (xs:=[]) (.r rf) (WN (n:=n) (s:=s) hp h).2.2.2 (.r rf) ?_) (.cons (.r rf) .nil))
 ·have:=Y.lnT (F:=run T (n+3)) (s:=s) (a:=.v 1) (ρ:=[some (pgD tk m rs),some (.tup (rs.map rwE)),some (.lst q2),some (.lst j),some (.int (k:Int)),some (rwE r),some (.obj p.c)]) (xs:=rs.map rwE) (.r rf)
  rw[aB]at this;exact this
 ·exact(WN (n:=n+1) hp h).1
 ·exact(WN (n:=n+1) hp h).2.1
theorem ZdE:(fkR sz k r).length<=12:=by
 have h:∀ l:Li Stp,(∀ p∈l,(p.f r).length<=2)->(l.flatMap fun p=>(p.f r).map fun q=>(k,p.w,q)).length<=2 * l.length:=fun l=>by
  induction l with
  |nil=>intro _;exact aD _
  |cons p l ih=>
   intro h;rw[cD,aI,aB,aO];have h1:=h p lQ7;have h2:=ih fun q hq=>h q (lM7 _ hq)
   omega
 exact h (stp sz) fun p hp=>Qg hp
theorem Jw:∀ {rs:Li Rw}{k:Nat},Wa k (rs.map rwE)=(rs.zipIdx k).map fun p=>(D.int (p.2:Int),rwE p.1)
 |[],_=>rfl
 |r :: rs,k=>by
  rw[aL,Wa,Jw,List.zipIdx_cons,aL]
theorem Xr:(fkL rs).length<=12 * rs.length:=by
 have h:∀ {l:Li (Rw×Nat)},(l.flatMap fun p=>fkR rs.length p.2 p.1).length<=12 * l.length:=fun {l}=>by
  induction l with
  |nil=>exact aD _
  |cons p l ih=>
   rw[cD,aI,aO];have:=ZdE (sz:=rs.length) (k:=p.2) (r:=p.1);omega
 have:=h (l:=rs.zipIdx);rw[List.length_zipIdx]at this;exact this
theorem UJ(hr:Rs m rs):C (run T (n+4)) s 172 [pgD tk m rs] (.tup ((fkL rs).map tD)):=fun st g=>by
 have fl:=Xr (rs:=rs);have rl:=hr.l;have p2:ex (run T (n+3)) (.set 2 (.lstE (.aC (.new 169) (.aC (.new 149) (.aC (.new 157) (.aC (.new 152) (.aC (.new 160) (.aC (.new 163) .aN)))))))) [some (pgD tk m rs),some (.tup (rs.map rwE)),none,none,none,none,none] st=some (.nx [some (pgD tk m rs),some (.tup (rs.map rwE)),some (.lst st.length),none,none,none,none],st++[(true,(stp rs.length).map fun p=>.obj p.c)]):=Zj rfl
 have hs2:(st++[(true,(stp rs.length).map fun p=>D.obj p.c)])[st.length]?=some (true,(stp rs.length).map fun p=>.obj p.c):=Zl
 obtain⟨s2,es2⟩:∃ s2,st++[(true,(stp rs.length).map fun p=>D.obj p.c)]=s2:=⟨_,rfl⟩
 rw[es2]at p2 hs2;have g2:Grw st s2:=by rw[<-es2];exact .push
 have p3:ex (run T (n+3)) (.set 3 (.lstE .aN)) [some (pgD tk m rs),some (.tup (rs.map rwE)),some (.lst st.length),none,none,none,none] s2=some (.nx [some (pgD tk m rs),some (.tup (rs.map rwE)),some (.lst st.length),some (.lst s2.length),none,none,none],s2++[(true,[])]):=Zj rfl;have hlt:=Zd hs2;obtain⟨y',z',w',s3,e3,k3,h3⟩:=Zgb (F:=run T (n+3)) (s:=s2) (j:=s2.length) (q:=XE) (i:=4) (i':=5) (E:=fun y z w=>[some (pgD tk m rs),some (.tup (rs.map rwE)),some (.lst st.length),some (.lst s2.length),y,z,w]) (u:=fun p:Rw×Nat=>D.int (p.2:Int)) (v:=fun p=>rwE p.1) (g:=fun p=>(fkR rs.length p.2 p.1).map tD) (l:=rs.zipIdx) (fun _ _ _ _ _=>rfl) (aD _) (fun p hp w st1 acc g1 h1 hl1=>by
  have ok:YN m rs.length p.1:=hr.ok _ (List.fst_mem_of_mem_zipIdx hp);obtain⟨w',s4,e4,k4,h4⟩:=Zfd (F:=run T (n+3)) (s:=s2) (j:=s2.length) (q:=XD) (i:=6) (la:=st.length) (bb:=true) (E:=fun w=>[some (pgD tk m rs),some (.tup (rs.map rwE)),some (.lst st.length),some (.lst s2.length),some (.int (p.2:Int)),some (rwE p.1),w]) (en:=fun p:Stp=>D.obj p.c) (g:=fun q=>((q.f p.1).map fun z=>(p.2,q.w,z)).map tD) (all:=stp rs.length) (fun _ _=>rfl) (aD _) (by omega) (fun q hq=>Zfs hr hq ok) 6 0 (y:=w) rfl g1 (g1.get hs2) h1 (by rw[cR];rw[show(stp rs.length).flatMap (fun q=>((q.f p.1).map fun z=>(p.2,q.w,z)).map tD)=(fkR rs.length p.2 p.1).map tD from(dX ..).symm];exact hl1)
  rw[cR,show(stp rs.length).flatMap (fun q=>((q.f p.1).map fun z=>(p.2,q.w,z)).map tD)=(fkR rs.length p.2 p.1).map tD from(dX ..).symm]at h4
  exact⟨_,s4,⟨_,_,w',rfl⟩,(Zc ((WU (bb:=true) (xs:=(stp rs.length).map fun p=>.obj p.c) rfl (g1.get hs2)).trans e4)).trans Ze,k4,h4⟩) (y:=none) (z:=none) (w:=none) (.push:Grw s2 (s2++[(true,[])])) Zl (by rw[dD,bD,<-dX,aB];show(fkL rs).length<=900;omega)
 rw[dB,<-dX]at h3;have fe:ex (run T (n+3)) (.forE 4 5 (.v 1) XE) [some (pgD tk m rs),some (.tup (rs.map rwE)),some (.lst st.length),some (.lst s2.length),none,none,none] (s2++[(true,[])])=some (.nx [some (pgD tk m rs),some (.tup (rs.map rwE)),some (.lst st.length),some (.lst s2.length),y',z',w'],s3):=by
  rw[<-e3,<-Jw];rfl
 refine⟨s3,Ye (v:=c_fakes) rfl rfl ((Zc (Zj rfl)).trans ((Zc p2).trans ((Zc p3).trans ((Zc fe).trans (Zn (ZJ (Yn (c:=(true,(fkL rs).map tD)) rfl h3))))))),?_⟩;exact g2.trans (k3.grw (aD _) .push)
end
section
variable {m k sz i j:Nat}{r q:Rw}{rs:Li Rw}{o z:Op}{g:Str}{v:Int}
theorem ZdN(h:Sm v):arI (v+1)≠v:=by
 unfold Sm at h;unfold arI;have:=Zp (v+1+1000000000) (j:=2000000000) (by decide)
 intro e;have h1:=Int.mul_ediv_add_emod (v+1+1000000000) 2000000000;generalize (v+1+1000000000) / 2000000000=u at *
 omega
theorem Wf(h:XU m o):∀ q∈Xt o,XU m q/\q≠o:=fun q hq=>by
 cases o with
 |nm i=>cases hq
 |nu v=>
  rw[aP.mp hq];exact⟨Vh,fun e=>ZdN h (by injection e)⟩
theorem ZeQ:(∀ g∈psL,nxt psL g∈psL/\nxt psL g≠g)/\∀ g∈isL,(nxt isL g∈isL/\nxt isL g≠g)/\(cnt g∈isL/\cnt g≠g)/\nxt isL g≠cnt g:=by decide +kernel
theorem ZeS(h:YN m sz r){p:Stp}(hp:p∈stp sz):∀ q∈p.f r,YN m sz q:=fun q hq=>by
 simp only[stp,aG,aT,or_false]at hp;rcases hp with rfl|rfl|rfl|rfl|rfl|rfl
 ·cases r with
  |put x y g z=>rw[aP.mp hq];exact⟨h.1,h.2.1,(ZeQ.1 g h.2.2.1).1,h.2.2.2⟩
  |ifr y g z t=>rw[aP.mp hq];exact⟨h.1,(ZeQ.2 g h.2.1).1.1,h.2.2⟩
  |_=>cases hq
 ·cases r with
  |put x y g z=>
   rcases bI.mp hq with hq|hq
   ·obtain⟨u,hu,rfl⟩:=bB.mp hq;exact⟨h.1,(Wf h.2.1 u hu).1,h.2.2⟩
   ·obtain⟨u,hu,rfl⟩:=bB.mp hq;exact⟨h.1,h.2.1,h.2.2.1,(Wf h.2.2.2 u hu).1⟩
  |ifr y g z t=>
   rcases bI.mp hq with hq|hq
   ·obtain⟨u,hu,rfl⟩:=bB.mp hq;exact⟨(Wf h.1 u hu).1,h.2⟩
   ·obtain⟨u,hu,rfl⟩:=bB.mp hq;exact⟨h.1,h.2.1,(Wf h.2.2.1 u hu).1,h.2.2.2⟩
  |tell y=>obtain⟨u,hu,rfl⟩:=bB.mp hq;exact(Wf h u hu).1
  |_=>cases hq
 ·cases r with
  |ifr y g z t=>rw[aP.mp hq];exact⟨h.1,(ZeQ.2 g h.2.1).2.1.1,h.2.2⟩
  |_=>cases hq
 ·cases r with
  |skip=>cases hq
  |_=>rw[aP.mp hq];trivial
 ·cases r with
  |put x y g z=>
   have hq:q∈if y=z then [] else [Rw.put x z g y]:=hq
   split at hq
   ·cases hq
   ·rw[aP.mp hq];exact⟨h.1,h.2.2.2,h.2.2.1,h.2.1⟩
  |ifr y g z t=>
   have hq:q∈if y=z then [] else [Rw.ifr z g y t]:=hq
   split at hq
   ·cases hq
   ·rw[aP.mp hq];exact⟨h.2.2.1,h.2.1,h.1,h.2.2.2⟩
  |_=>cases hq
 ·cases r with
  |go t=>
   have hq:q∈if sz<=t then [] else [Rw.go (t+1)]:=hq
   split at hq
   ·cases hq
   ·rw[aP.mp hq];show t+1<=sz;omega
  |ifr y g z t=>
   have hq:q∈if sz<=t then [] else [Rw.ifr y g z (t+1)]:=hq
   split at hq
   ·cases hq
   ·rw[aP.mp hq];exact⟨h.1,h.2.1,h.2.2.1,by omega⟩
  |_=>cases hq
theorem Ui{p:Nat×Str×Rw}(hr:Rs m rs)(h:p∈fkL rs):p.1 < rs.length/\YN m rs.length p.2.2:=by
 obtain⟨u,hu,hp⟩:=List.mem_flatMap.mp h;obtain⟨t,ht,hq⟩:=List.mem_flatMap.mp hp;obtain⟨q,hq',rfl⟩:=bB.mp hq;exact⟨by have:=List.snd_lt_of_mem_zipIdx hu;simpa using this,ZeS (hr.ok _ (List.fst_mem_of_mem_zipIdx hu)) ht q hq'⟩
theorem Rs.set(hr:Rs m rs)(h:YN m rs.length q):Rs m (rs.set k q):=by
 refine⟨by rw[aY];exact hr.l,fun r h'=>?_⟩
 rw[aY];rcases List.mem_or_eq_of_mem_set h' with h'|h'
 ·exact hr.ok r h'
 ·rw[h'];exact h
def cdL(rs:Li Rw):Li (Nat×Rw):=(fkL rs).map fun p=>(p.1,p.2.2)
end
section
variable {F:Nat->Fn}{s st st1:Za}{e a b c:CE}{ρ ρ':Env}{d x y:D}{n w m k i0 L:Nat}{i j:Int}{vs ins:Li Int}{r:Rw}{rs:Li Rw}{xs ys acc ds:Li D}{q:CS}{g:Str}{o:Op}{bb:Bool}
theorem U1{k:Str}:∀ {M:Li Str},Yt k (M.map D.str)=some (decide (k∈M))
 |[]=>rfl
 |x :: M=>by
  show(Yt k (M.map D.str)).map (fun b=>decide (x=k)||b)=_
  rw[U1];show some (decide (x=k)||decide (k∈M))=_;rw[show decide (k∈x :: M)=(decide (x=k)||decide (k∈M)) by rw[<-dO];exact decide_eq_decide.mpr ⟨fun h=>(aG.mp h).imp Eq.symm id,fun h=>aG.mpr (h.imp Eq.symm id)⟩]
theorem Y.inL{l:Li Str}(ha:Y F s a ρ (.str g))(hb:Lv s (ev F b ρ) (l.map D.str)):Y F s (.cmp .In a b) ρ (.bl (decide (g∈l))):=fun st gr=>by
 obtain⟨s1,e1,k1⟩:=ha st gr;obtain⟨s2,q,bb,e2,h2,k2⟩:=hb s1 (gr.trans k1);refine⟨s2,?_,k1.trans k2⟩;show Zv (ev F a) (ev F b) (Ya .In) ρ st=_;unfold Zv;simp only[e1,e2];show Ya .In (.str g) (.lst q) s2=_;unfold Ya;have:X6 .In (.str g) (.lst q) s2=some (decide (g∈l)):=by
  show(match s2[q]? with
   |some (_,xs)=>Yt g xs
   |none=>none)=_
  rw[h2];exact U1
 rw[this]
theorem Xl:C (run T (n+1)) s 89 [.int i] (.int (arI i)):=.of (v:=c__law_round) rfl rfl (.ret (.arx (.r rf)))
theorem Y.eq0(ha:Y F s a ρ (.int j)):Y F s (.cmp .Eq a (.c (.int 0))) ρ (.bl (decide (j=0))):=.cmp ha (.r rf) fun _=>rfl
theorem Zdd(hi:Sm i)(hj:Sm j):C (run T (n+2)) s 187 [.int i,.str g,.int j] (.int (rkI i g j)):=by
 unfold rkI;refine .of (v:=c__law_sum) rfl rfl (.pick (.eqs (.r rf) (.r rf)) (fun h=>?_) fun h=>.pick (.eqs (.r rf) (.r rf)) (fun h'=>?_) fun h'=>.pick (.eqs (.r rf) (.r rf)) (fun h2=>?_) fun h2=>.pick (.eqs (.r rf) (.r rf)) (fun h3=>?_) fun h3=>?_)
 ·rw[if_pos (of_decide_eq_true h)];exact .ret (.call1 (.add (.r rf) (.r rf)) Xl)
 ·rw[if_neg (of_decide_eq_false h),if_pos (of_decide_eq_true h')];exact .ret (.call1 (.sub (.r rf) (.r rf)) Xl)
 ·rw[if_neg (of_decide_eq_false h),if_neg (of_decide_eq_false h'),if_pos (of_decide_eq_true h2)];exact .ret (.call1 (.mul (.r rf) (.r rf) (W0 hj)) Xl)
 ·rw[if_neg (of_decide_eq_false h),if_neg (of_decide_eq_false h'),if_neg (of_decide_eq_false h2),if_pos (of_decide_eq_true h3)]
  refine .ret (.ife (.eq0 (.r rf)) ?_);by_cases c:j=0
  ·rw[aH c,if_pos c];exact .r rf
  ·rw[aE c,if_neg c];exact .call1 (.fdv (.r rf) (.r rf) c hj) Xl
 ·rw[if_neg (of_decide_eq_false h),if_neg (of_decide_eq_false h'),if_neg (of_decide_eq_false h2),if_neg (of_decide_eq_false h3)]
  refine .ret (.ife (.eq0 (.r rf)) ?_);by_cases c:j=0
  ·rw[aH c,if_pos c];exact .r rf
  ·rw[aE c,if_neg c]
   refine .sub (.r rf) (.bi (i:=j) (j:=fdI i j) (.r rf) (.fdv (.r rf) (.r rf) c hj) ?_);show(if Z8 j||Z8 (fdI i j) then some (j * fdI i j) else none)=_
   rw[W0 hj];rfl
theorem Ze6(hg:g∈isL):C (run T (n+1)) s 33 [.int i,.str g,.int j] (.bl (soI i g j)):=by
 have l3:∀ {F:Nat->Fn}{ρ:Env}{a b c:Str},Lv s (ev F (.lstE (.aC (.c (.str a)) (.aC (.c (.str b)) (.aC (.c (.str c)) .aN)))) ρ) ([a,b,c].map D.str):=.mk (.r rf);have fin:∀ {k:Bool},k=soI i g j->C (run T (n+1)) s 33 [.int i,.str g,.int j] (.bl k)->C (run T (n+1)) s 33 [.int i,.str g,.int j] (.bl (soI i g j)):=fun h1 h2=>h1 ▸ h2
 have mem:g=S "<"\/g=S "<="\/g=S "="\/g=S ">="\/g=S ">"\/g=S "!=":=by simpa[isL] using hg
 by_cases h:i < j
 ·refine fin ?_ (.of (v:=c__law_so) rfl rfl (.yes (.cmp (.r rf) (.r rf) fun _=>congrArg some (aH h)) (.inL (.r rf) l3)))
  rcases mem with rfl|rfl|rfl|rfl|rfl|rfl
  ·exact(by decide +kernel:decide (S "<"∈[S "<",S "<=",S "!="])=true).trans (aH h).symm
  ·exact(by decide +kernel:decide (S "<="∈[S "<",S "<=",S "!="])=true).trans (aH (by omega:i<=j)).symm
  ·exact(by decide +kernel:decide (S "="∈[S "<",S "<=",S "!="])=false).trans (aE (by omega:¬i=j)).symm
  ·exact(by decide +kernel:decide (S ">="∈[S "<",S "<=",S "!="])=false).trans (aE (by omega:¬j<=i)).symm
  ·exact(by decide +kernel:decide (S ">"∈[S "<",S "<=",S "!="])=false).trans (aE (by omega:¬j < i)).symm
  ·show _=!decide (i=j)
   rw[aE (by omega:¬i=j)];decide +kernel
 ·have n1:Y (run T n) s (.cmp .Lt (.v 0) (.v 2)) [some (.int i),some (.str g),some (.int j)] (.bl false):=.cmp (.r rf) (.r rf) fun _=>congrArg some (aE h)
  by_cases h':j < i
  ·refine fin ?_ (.of (v:=c__law_so) rfl rfl (.no n1 (.yes (.cmp (.r rf) (.r rf) fun _=>congrArg some (aH h')) (.inL (.r rf) l3))))
   rcases mem with rfl|rfl|rfl|rfl|rfl|rfl
   ·exact(by decide +kernel:decide (S "<"∈[S ">",S ">=",S "!="])=false).trans (aE h).symm
   ·exact(by decide +kernel:decide (S "<="∈[S ">",S ">=",S "!="])=false).trans (aE (by omega:¬i<=j)).symm
   ·exact(by decide +kernel:decide (S "="∈[S ">",S ">=",S "!="])=false).trans (aE (by omega:¬i=j)).symm
   ·exact(by decide +kernel:decide (S ">="∈[S ">",S ">=",S "!="])=true).trans (aH (by omega:j<=i)).symm
   ·exact(by decide +kernel:decide (S ">"∈[S ">",S ">=",S "!="])=true).trans (aH h').symm
   ·show _=!decide (i=j)
    rw[aE (by omega:¬i=j)];decide +kernel
  ·refine fin ?_ (.of (v:=c__law_so) rfl rfl (.no n1 (.no (.cmp (.r rf) (.r rf) fun _=>congrArg some (aE h')) (.ret (.inL (.r rf) l3)))))
   rcases mem with rfl|rfl|rfl|rfl|rfl|rfl
   ·exact(by decide +kernel:decide (S "<"∈[S "<=",S "=",S ">="])=false).trans (aE h).symm
   ·exact(by decide +kernel:decide (S "<="∈[S "<=",S "=",S ">="])=true).trans (aH (by omega:i<=j)).symm
   ·exact(by decide +kernel:decide (S "="∈[S "<=",S "=",S ">="])=true).trans (aH (by omega:i=j)).symm
   ·exact(by decide +kernel:decide (S ">="∈[S "<=",S "=",S ">="])=true).trans (aH (by omega:j<=i)).symm
   ·exact(by decide +kernel:decide (S ">"∈[S "<=",S "=",S ">="])=false).trans (aE h').symm
   ·show _=!decide (i=j)
    rw[aH (by omega:i=j)];decide +kernel
theorem Q5(hv:Vs m vs)(h:XU m o)(hw:s[w]?=some (bb,inZ vs)):C (run T (n+1)) s 34 [opE o,.lst w] (.int (woI vs o)):=by
 cases o with
 |nm i=>exact .of (v:=c__law_worth) rfl rfl (.yes (.r rf) (.ixl (j:=i) hw (.r rf) (.r rf) (Zc4 hv h)))
 |nu v=>exact .of (v:=c__law_worth) rfl rfl (.no (.r rf) (.ret (.r rf)))
end
structure Kb(b kp:Nat)(st st':Za):Prop where
 old:∀ i,i < st.length->i≠b->i≠kp->st'[i]?=st[i]?
 len:st.length<=st'.length
def whB:CS->CE×CS
 |.seq _ (.seq _ (.seq _ (.seq (.whl c b) _)))=>(c,b)
 |_=>(.nop,.skip)
def lrB:CS:=(whB c__law_run.body).2
section
variable {F:Nat->Fn}{s st st1 st':Za}{e a b c:CE}{ρ ρ':Env}{d x y:D}{n w m k i0 L j bo kp:Nat}{vs ins:Li Int}{r:Rw}{rs:Li Rw}{xs ys acc ds:Li D}{q:CS}{g:Str}{o:Op}{bb:Bool}
theorem Grw.kb(g:Grw st st'):Kb bo kp st st':=⟨fun i h _ _=>g.old i h,g.len⟩
theorem Kb.trans(a:Kb bo kp st st1)(b:Kb bo kp st1 st'):Kb bo kp st st':=⟨fun i h h1 h2=>(b.old i (aS h a.len) h1 h2).trans (a.old i h h1 h2),aM a.len b.len⟩
theorem Kb.get{c:Z4}(k:Kb bo kp st st')(h:st[j]?=some c)(h1:j≠bo)(h2:j≠kp):st'[j]?=some c:=(k.old j (Zd h) h1 h2).trans h
theorem Kb.setK{c:Z4}:Kb bo kp st (st.set kp c):=⟨fun i h h1 h2=>by rw[bJ (Ne.symm h2)],by rw[aY];exact aD _⟩
theorem Kb.setB{c:Z4}:Kb bo kp st (st.set bo c):=⟨fun i h h1 h2=>by rw[bJ (Ne.symm h1)],by rw[aY];exact aD _⟩
theorem Kb.grw(k:Kb bo kp st st')(h1:s.length<=bo)(h2:s.length<=kp)(g:Grw s st):Grw s st':=⟨fun i h=>(k.old i (aS h g.len) (by omega) (by omega)).trans (g.old i h),aM g.len k.len⟩
abbrev loE(m:Nat)(rs:Li Rw)(ins L:D)(w:Nat)(k:Int)(j:Nat)(z u:Ot D):Env:=[some (.tup (rs.map rwE)),some (.int (m:Int)),some ins,some L,some (.lst w),some (.int k),some (.lst j),z,u]
theorem ZfK(h:YN m rs.length r)(hk:k < rs.length):pkN k vs r<=rs.length:=by
 cases r with
 |put x y g z=>exact hk
 |ifr y g z t=>show(if _ then t else k+1)<=_;split;exact h.2.2.2;exact hk
 |go t=>exact h
 |tell y=>exact hk
 |skip=>exact hk
theorem Zc6{v:D}{p:Nat}(e1:ev F e ρ st=some (v,st1))(hi:ρ[i0]?=some (some (.lst w)))(e2:ev F a ρ st1=some (.int (p:Int),st1))(h:st1[w]?=some (true,xs))(hp:p < xs.length):ex F (.put i0 a e) ρ st=some (.nx ρ,st1.set w (true,xs.set p v)):=by
 show Uu i0 (ev F a) (ev F e) ρ st=_;unfold Uu;simp only[e1,hi,e2];show(match X1 w (p:Int) v st1 with
  |some st3=>some (Fl.nx ρ,st3)
  |none=>none)=_
 unfold X1 ixN;simp only[h];rw[if_pos (by omega),if_pos (by omega),aZ]
theorem V4{i:Nat}(hi:ρ[i]?=some (some (.lst j)))(e1:ev F e ρ st=some (d,st1))(h:st1[j]?=some (true,acc))(hl:acc.length < 900):ex F (.app i e) ρ st=some (.nx ρ,st1.set j (true,acc++[d])):=by
 show Ua i (ev F e) ρ st=_;unfold Ua Qt;simp only[hi,e1,h];rw[if_pos (by unfold Zu;omega)]
theorem ZbM{ins L:D}{z u:Ot D}(hr:Rs m rs)(hv:Vs m vs)(hk:k < rs.length)(h:st[w]?=some (true,inZ vs))(hj:st[j]?=some (true,acc))(hw:w≠j)(hl:acc.length < 900):match mv rs k vs with
  |.inl d=>∃ st',Kb w j st st'/\st'[j]?=some (true,acc++[.int (k:Int)])/\ex (run T (n+3)) lrB (loE m rs ins L w k j z u) st=some (.rt (.tup [d,.lst j]),st')
  |.inr p=>∃ st' z' u',Kb w j st st'/\st'[w]?=some (true,inZ p.2)/\st'[j]?=some (true,acc++[.int (k:Int)])/\ex (run T (n+3)) lrB (loE m rs ins L w k j z u) st=some (.nx (loE m rs ins L w p.1 j z' u'),st'):=by
 unfold mv;have q:rs[k]?=some rs[k]:=lG7 hk;generalize rs[k]=r at q;rw[q];have ok:=hr.ok r (aV q);have y7:Y (run T (n+3)) st (.ix (.v 0) (.v 5)) (loE m rs ins L w k j z u) (rwE r):=.ixt (j:=k) (xs:=rs.map rwE) (.r rf) (.r rf) (by rw[aR,q];rfl)
 obtain⟨s2,e2,k2⟩:=y7 st .refl;have ap:=V4 (F:=run T (n+3)) (e:=.v 5) (ρ:=loE m rs ins L w k j (some (rwE r)) u) (i:=6) rfl rfl (k2.get hj) hl;obtain⟨sa,esa⟩:∃ sa,s2.set j (true,acc++[.int (k:Int)])=sa:=⟨_,rfl⟩;rw[esa]at ap;have ja:sa[j]?=some (true,acc++[.int (k:Int)]):=by rw[<-esa,Zk (Zd (k2.get hj)),if_pos rfl]
 have wa:sa[w]?=some (true,inZ vs):=by rw[<-esa,Zk (Zd (k2.get hj)),if_neg (Ne.symm hw)];exact k2.get h
 have ka:Kb w j st sa:=by rw[<-esa];exact k2.kb.trans .setK
 have y5:Y (run T (n+3)) sa (.bin .Add (.v 5) (.c (.int 1))) (loE m rs ins L w k j (some (rwE r)) u) (.int ((k+1:Nat):Int)):=by rw[bQ];exact .add (.r rf) (.r rf)
 obtain⟨s3,e3,k3⟩:=y5 sa .refl;have h3:=k3.get wa;have j3:=k3.get ja;have kk:Kb w j st s3:=ka.trans k3.kb;have pre:∀ {res},ex (run T (n+3)) _ (loE m rs ins L w ((k+1:Nat):Int) j (some (rwE r)) u) s3=res->ex (run T (n+3)) lrB (loE m rs ins L w k j z u) st=res:=fun {res} hh=>(Zc (Zj e2)).trans ((Zc ap).trans ((Zc (Zj e3)).trans hh))
 have wo:∀ {s:Za}{o:Op}{a:CE}{k':Int}{u:Ot D},XU m o->s[w]?=some (true,inZ vs)->Y (run T (n+3)) s a (loE m rs ins L w k' j (some (rwE r)) u) (opE o)->Y (run T (n+3)) s (.call 34 (.aC a (.aC (.v 4) .aN)) []) (loE m rs ins L w k' j (some (rwE r)) u) (.int (woI vs o)):=fun {s o a k' u} ho hw ha=>.call (xs:=[opE o,.lst w]) (.cons ha (.cons (.r rf) .nil)) (Q5 (n:=n+2) hv ho hw)
 cases r with
 |tell y0=>
  obtain⟨s4,e4,k4⟩:=Y.cons (F:=run T (n+3)) (s:=s3) (a:=.tupE (.aC (.c (.str (S "told"))) (.aC (.call 34 (.aC (.ix (.v 7) (.c (.int 1))) (.aC (.v 4) .aN)) []) .aN))) (b:=.aC (.v 6) .aN) (ρ:=loE m rs ins L w ((k+1:Nat):Int) j (some (rwE (.tell y0))) u) (.cons (.r rf) (.cons (wo (a:=.ix (.v 7) (.c (.int 1))) ok h3 (.r rf)) .nil) (by show 1 < 1000;decide)) (.r rf) (by show 1 < 1000;decide) s3 .refl
  exact⟨s4,kk.trans k4.kb,k4.get j3,pre (Zn ((Yi rfl).trans (Zn (ZJ e4))))⟩
 |put x0 y0 g0 z0=>
  obtain⟨hx,hy,hg,hz⟩:=ok;obtain⟨s4,e4,k4⟩:=Y.call (F:=run T (n+3)) (s:=s3) (f:=187) (ds:=[]) (xs:=[.int (woI vs y0),.str g0,.int (woI vs z0)]) (ρ:=loE m rs ins L w ((k+1:Nat):Int) j (some (rwE (.put x0 y0 g0 z0))) u) (.cons (a:=.call 34 (.aC (.ix (.v 7) (.c (.int 2))) (.aC (.v 4) .aN)) []) (wo hy h3 (.r rf)) (.cons (a:=.ix (.v 7) (.c (.int 3))) (.r rf) (.cons (wo (a:=.ix (.v 7) (.c (.int 4))) hz h3 (.r rf)) .nil))) (Zdd (n:=n+1) (WL hv hy) (WL hv hz)) s3 .refl
  have h4:=k4.get h3;have hl:=hv.l;have pu:=Zc6 (F:=run T (n+3)) (i0:=4) (a:=.ix (.v 7) (.c (.int 1))) (p:=x0) (ρ:=loE m rs ins L w ((k+1:Nat):Int) j (some (rwE (.put x0 y0 g0 z0))) u) e4 rfl rfl h4 (by unfold inZ;rw[aB];omega)
  rw[VZ]at pu;refine⟨s4.set w (true,inZ (vs.set x0 (rkI (woI vs y0) g0 (woI vs z0)))),some (rwE (.put x0 y0 g0 z0)),u,kk.trans (k4.kb.trans .setB),(Zk (Zd h4)).trans (if_pos rfl),?_,pre ((Zc ((ZY rfl).trans Ze)).trans ((Zc ((Yi rfl).trans ((Zc pu).trans Ze))).trans ((Zc ((ZY rfl).trans Ze)).trans ((Zc ((ZY rfl).trans Ze)).trans Ze))))⟩;rw[Zk (Zd h4),if_neg hw];exact k4.get j3
 |go t=>exact⟨s3,some (rwE (.go t)),u,kk,h3,j3,pre ((Zc ((ZY rfl).trans Ze)).trans ((Zc ((ZY rfl).trans Ze)).trans ((Zc ((Yi rfl).trans ((Zc (Zj rfl)).trans Ze))).trans ((Zc ((ZY rfl).trans Ze)).trans Ze))))⟩
 |skip=>exact⟨s3,some (rwE .skip),u,kk,h3,j3,pre ((Zc ((ZY rfl).trans Ze)).trans ((Zc ((ZY rfl).trans Ze)).trans ((Zc ((ZY rfl).trans Ze)).trans ((Zc ((ZY rfl).trans Ze)).trans Ze))))⟩
 |ifr y0 g0 z0 t=>
  obtain⟨hy,hg,hz,ht⟩:=ok;obtain⟨s4,e4,k4⟩:=wo (s:=s3) (a:=.ix (.v 7) (.c (.int 1))) (k':=((k+1:Nat):Int)) (u:=u) hy h3 (.r rf) s3 .refl;have h4:=k4.get h3;obtain⟨s5,e5,k5⟩:=Y.call (F:=run T (n+3)) (s:=s4) (f:=33) (ds:=[]) (xs:=[.int (woI vs y0),.str g0,.int (woI vs z0)]) (ρ:=loE m rs ins L w ((k+1:Nat):Int) j (some (rwE (.ifr y0 g0 z0 t))) (some (.int (woI vs y0)))) (.cons (a:=.v 8) (.r rf) (.cons (a:=.ix (.v 7) (.c (.int 2))) (.r rf) (.cons (wo (a:=.ix (.v 7) (.c (.int 3))) hz h4 (.r rf)) .nil))) (Ze6 (n:=n+2) hg) s4 .refl
  have tail:∀ {k':Nat},ex (run T (n+3)) (.seq (.set 8 (.call 34 (.aC (.ix (.v 7) (.c (.int 1))) (.aC (.v 4) .aN)) [])) (.seq (.ite (.call 33 (.aC (.v 8) (.aC (.ix (.v 7) (.c (.int 2))) (.aC (.call 34 (.aC (.ix (.v 7) (.c (.int 3))) (.aC (.v 4) .aN)) []) .aN))) []) (.seq (.set 5 (.ix (.v 7) (.c (.int 4)))) .skip) .skip) .skip)) (loE m rs ins L w ((k+1:Nat):Int) j (some (rwE (.ifr y0 g0 z0 t))) u) s3=some (.nx (loE m rs ins L w (k':Int) j (some (rwE (.ifr y0 g0 z0 t))) (some (.int (woI vs y0)))),s5)->k'=pkN k vs (.ifr y0 g0 z0 t)->∃ st' z' u',Kb w j st st'/\st'[w]?=some (true,inZ (vsN vs (.ifr y0 g0 z0 t)))/\st'[j]?=some (true,acc++[.int (k:Int)])/\ex (run T (n+3)) lrB (loE m rs ins L w k j z u) st=some (.nx (loE m rs ins L w (pkN k vs (.ifr y0 g0 z0 t):Int) j z' u'),st'):=fun {k'} e6 ek=>by
   subst ek;exact⟨s5,some (rwE (.ifr y0 g0 z0 t)),some (.int (woI vs y0)),kk.trans (k4.trans k5).kb,k5.get h4,(k4.trans k5).get j3,pre ((Zc ((ZY rfl).trans Ze)).trans ((Zc ((ZY rfl).trans Ze)).trans ((Zc ((ZY rfl).trans Ze)).trans ((Zc ((Yi rfl).trans e6)).trans Ze))))⟩
  cases qs:soI (woI vs y0) g0 (woI vs z0) with
  |true=>
   rw[qs]at e5;exact tail (k':=t) ((Zc (Zj e4)).trans ((Zc ((Yi e5).trans ((Zc (Zj rfl)).trans Ze))).trans Ze)) (by show t=if soI (woI vs y0) g0 (woI vs z0)=true then t else k+1;rw[qs,if_pos rfl])
  |false=>
   rw[qs]at e5;exact tail (k':=k+1) ((Zc (Zj e4)).trans ((Zc ((ZY e5).trans Ze)).trans Ze)) (by show k+1=if soI (woI vs y0) g0 (woI vs z0)=true then t else k+1;rw[qs,if_neg (by decide)])
end
variable{N:Nat}{st2:Za}
section
variable {F:Nat->Fn}{s st st1:Za}{e a b c:CE}{ρ ρ':Env}{d x y:D}{n w m k i0 L j:Nat}{vs ins:Li Int}{r:Rw}{rs:Li Rw}{xs ys acc ds:Li D}{q:CS}{g:Str}{o:Op}{bb:Bool}
theorem ZfH(hr:Rs m rs)(hk:k<=rs.length){p:Nat×Li Int}(h:mv rs k vs=.inr p):p.1<=rs.length:=by
 unfold mv at h;cases q:rs[k]? with
 |none=>rw[q]at h;cases h
 |some r=>
  rw[q]at h;have ok:=hr.ok r (aV q);cases r with
  |tell y=>cases h
  |_=>cases h;exact ZfK (vs:=vs) ok (Zd q)
def inN(l:Li Nat):Li D:=l.map fun(k:Nat)=>.int (k:Int)
theorem Zc3(h:ev F c ρ st=some (.bl false,st1)):ZQ (ev F c) (ex F q) (N+1) ρ st=some (.nx ρ,st1):=by
 show Yk (ev F c) _ _ ρ st=_;unfold Yk;rw[h]
theorem Zf0(h:ev F c ρ st=some (.bl true,st1))(h2:ex F q ρ st1=some (.nx ρ',st2)):ZQ (ev F c) (ex F q) (N+1) ρ st=ZQ (ev F c) (ex F q) N ρ' st2:=by
 show Yk (ev F c) (Ys (ex F q) (ZQ (ev F c) (ex F q) N)) _ ρ st=_;unfold Yk;rw[h];show Ys (ex F q) (ZQ (ev F c) (ex F q) N) ρ st1=_;unfold Ys;rw[h2]
theorem Zf1(h:ev F c ρ st=some (.bl true,st1))(h2:ex F q ρ st1=some (.rt d,st2)):ZQ (ev F c) (ex F q) (N+1) ρ st=some (.rt d,st2):=by
 show Yk (ev F c) (Ys (ex F q) (ZQ (ev F c) (ex F q) N)) _ ρ st=_;unfold Yk;rw[h];show Ys (ex F q) (ZQ (ev F c) (ex F q) N) ρ st1=_;unfold Ys;rw[h2]
inductive Wd(n m:Nat)(rs:List Rw)(ins L:D)(w j N:Nat)(o:D)(acc:List D)(ρ:Env)(st:Za):Prop
 |nx {k':Nat}{z u:Option D}{st':Za} (eo:o=enD rs k') (hk:k'<=rs.length) (e:ZQ (ev (run T (n+3)) (whB c__law_run.body).1) (ex (run T (n+3)) lrB) N ρ st=some (.nx (loE m rs ins L w (k':Int) j z u),st')) (kb:Kb w j st st') (hj:st'[j]?=some (true,acc)):Wd n m rs ins L w j N o acc ρ st
 |rt {st':Za} (e:ZQ (ev (run T (n+3)) (whB c__law_run.body).1) (ex (run T (n+3)) lrB) N ρ st=some (.rt (.tup [o,.lst j]),st')) (kb:Kb w j st st') (hj:st'[j]?=some (true,acc)):Wd n m rs ins L w j N o acc ρ st
theorem ZbL{ins:D}(hr:Rs m rs)(hw:w≠j)(hL:L<=800):∀ (M N k:Nat) (vs:Li Int) (acc:Li Nat) (st:Za) (z u:Ot D),M < N->acc.length+M=L->Vs m vs->k<=rs.length->st[w]?=some (true,inZ vs)->st[j]?=some (true,inN acc)->
  Wd n m rs ins (.int (L:Int)) w j N (oc rs M k vs) (inN (acc++sn rs M k vs)) (loE m rs ins (.int (L:Int)) w k j z u) st:=by
 have cnd:∀ {st:Za}{acc:Li Nat}{k:Nat}{z u:Ot D},st[j]?=some (true,inN acc)->Y (run T (n+3)) st (whB c__law_run.body).1 (loE m rs ins (.int (L:Int)) w k j z u) (.bl (decide (acc.length < L)&&decide (k < rs.length))):=fun {st acc k z u} hj=>.and (.cmp (.lenl hj (.r rf)) (.r rf) fun _=>by
   show some (decide (((inN acc).length:Int) < (L:Int)))=_;unfold inN;rw[aB];exact congrArg some (decide_eq_decide.mpr (by omega))) fun _=>.cmp (.r rf) (by
   have:=Y.lnT (F:=run T (n+3)) (s:=st) (a:=.v 0) (ρ:=loE m rs ins (.int (L:Int)) w k j z u) (xs:=rs.map rwE) (.r rf);rw[aB]at this;exact this) fun _=>by show some (decide ((k:Int) < (rs.length:Int)))=_;exact congrArg some (decide_eq_decide.mpr (by omega))
 have snc:∀ {l:Li Nat}{k:Nat},inN (l++[k])=inN l++[.int (k:Int)]:=fun {l k}=>by unfold inN;rw[bG];rfl
 intro M
 induction M with
 |zero=>
  intro N k vs acc st z u hN ha hv hk h1 h2;obtain⟨s1,e1,k1⟩:=cnd (k:=k) (z:=z) (u:=u) h2 st .refl;rw[aE (by omega),Bool.false_and]at e1
  obtain⟨N,rfl⟩:∃ N',N=N'+1:=⟨N - 1,by omega⟩
  exact .nx (k':=k) rfl hk (Zc3 e1) k1.kb (by rw[show sn rs 0 k vs=[] from rfl,aW];exact k1.get h2)
 |succ M ih=>
  intro N k vs acc st z u hN ha hv hk h1 h2;obtain⟨N,rfl⟩:∃ N',N=N'+1:=⟨N - 1,by omega⟩
  obtain⟨s1,e1,k1⟩:=cnd (k:=k) (z:=z) (u:=u) h2 st .refl;rw[aH (by omega),cV]at e1
  by_cases hk':k < rs.length
  ·rw[aH hk']at e1
   have tt:=ZbM (n:=n) (ins:=ins) (L:=.int (L:Int)) (z:=z) (u:=u) hr hv hk' (k1.get h1) (k1.get h2) hw (by unfold inN;rw[aB];omega)
   unfold oc sn;cases q:mv rs k vs with
   |inl o=>
    rw[q]at tt;obtain⟨st',kb,hj,e2⟩:=tt;refine .rt (Zf1 e1 e2) (k1.kb.trans kb) ?_;show _=some (true,inN (acc++if rs.length<=k then [] else [k]))
    rw[if_neg (by omega),snc]
    exact hj
   |inr p=>
    rw[q]at tt;obtain⟨st',z',u',kb,hw',hj,e2⟩:=tt;rw[<-snc]at hj;have e3:=Zf0 (N:=N) e1 e2;have la:acc++k :: sn rs M p.1 p.2=acc++[k]++sn rs M p.1 p.2:=by rw[bF];rfl
    show Wd n m rs ins (.int (L:Int)) w j (N+1) (oc rs M p.1 p.2) (inN (acc++k :: sn rs M p.1 p.2)) _ _;rw[la];cases ih N p.1 p.2 (acc++[k]) st' z' u' (by omega) (by rw[aI];show _+1+M=L;omega) (ZcQ hv hr q) (ZfH hr hk q) hw' hj with
    |nx eo hk2 e4 kb2 hj2=>exact .nx eo hk2 (e3.trans e4) (k1.kb.trans (kb.trans kb2)) hj2
    |rt e4 kb2 hj2=>exact .rt (e3.trans e4) (k1.kb.trans (kb.trans kb2)) hj2
  ·rw[aE hk']at e1
   have mn:mv rs k vs=.inl noD:=by unfold mv;rw[eB (by omega)]
   refine .nx (k':=k) ?_ hk (Zc3 e1) k1.kb ?_
   ·unfold oc enD;rw[mn,if_pos (by omega)]
   ·unfold sn
    rw[mn];show _=some (true,inN (acc++if rs.length<=k then [] else [k]))
    rw[if_pos (by omega),aW]
    exact k1.get h2
def Lg(s:Za)(f:Za->Res)(xs:Li D):Prop:=∀ st,Grw s st->∃ st' j,f st=some (.lst j,st')/\st'[j]?=some (true,xs)/\Grw st st'/\st.length<=j
theorem Lg.of(h:Y F s a ρ (.tup xs)):Lg s (ev F (.listOf a) ρ) xs:=fun st g=>by
 obtain⟨s1,e1,k1⟩:=h st g;exact⟨_,_,by show Zo (ev F a) U4 ρ st=_;unfold Zo;rw[e1];rfl,Zl,k1.trans .push,k1.len⟩
theorem Lg.mk(h:Y F s a ρ (.tup xs)):Lg s (ev F (.lstE a) ρ) xs:=fun st g=>by
 obtain⟨s1,e1,k1⟩:=h st g;exact⟨_,_,by show Zo (ev F a) QU ρ st=_;unfold Zo;rw[e1];rfl,Zl,k1.trans .push,k1.len⟩
theorem Lg.rep{i:Nat}(h:Lg s (ev F a ρ) [d])(hb:Y F s b ρ (.int (i:Int)))(hi:i<=1000):Lg s (ev F (.bin .Mult a b) ρ) (List.replicate i d):=fun st g=>by
 obtain⟨s1,j,e1,h1,k1,l1⟩:=h st g;obtain⟨s2,e2,k2⟩:=hb s1 (g.trans k1);refine⟨s2++[(true,List.replicate i d)],s2.length,?_,Zl,(k1.trans k2).trans .push,(k1.trans k2).len⟩;show Zv (ev F a) (ev F b) (Vk .Mult) ρ st=_;unfold Zv;simp only[e1,e2];show Zb1 j (i:Int) s2=_;unfold Zb1;simp only[k2.get h1];rw[if_pos ⟨by omega,by omega⟩,aZ]
theorem Lg.cat(h:Lg s (ev F a ρ) xs)(h':Lg s (ev F b ρ) ys)(hl:xs.length+ys.length<=100000):Lg s (ev F (.bin .Add a b) ρ) (xs++ys):=fun st g=>by
 obtain⟨s1,j,e1,h1,k1,l1⟩:=h st g;obtain⟨s2,j2,e2,h2,k2,l2⟩:=h' s1 (g.trans k1);refine⟨s2++[(true,xs++ys)],s2.length,?_,Zl,(k1.trans k2).trans .push,(k1.trans k2).len⟩;show Zv (ev F a) (ev F b) (Vk .Add) ρ st=_;unfold Zv;simp only[e1,e2];show QB j j2 s2=_;unfold QB;simp only[k2.get h1,h2];rw[if_pos (by unfold Zu;omega)]
def Pv(s:Za)(f:Za->Res)(d:D)(xs:Li D):Prop:=∀ st,Grw s st->∃ st' j,f st=some (.tup [d,.lst j],st')/\st'[j]?=some (true,xs)/\Grw st st'
theorem Zdc(hr:Rs m rs)(hm:m<=900)(hi:ins.length<=m)(hs:∀ v∈ins,Sm v)(hL:L<=800):Pv s (run T (n+4) 40 [.tup (rs.map rwE),.int (m:Int),.tup (inZ ins),.int (L:Int)]) (oc rs L 0 (v0 m ins)) (inN (sn rs L 0 (v0 m ins))):=fun st g=>by
 have hv:=Zc2 hi hs;have ln:Y (run T (n+3)) s (.len (.v 2)) [some (.tup (rs.map rwE)),some (.int (m:Int)),some (.tup (inZ ins)),some (.int (L:Int)),none,none,none,none,none] (.int (ins.length:Int)):=by
  have:=Y.lnT (F:=run T (n+3)) (s:=s) (a:=.v 2) (ρ:=[some (.tup (rs.map rwE)),some (.int (m:Int)),some (.tup (inZ ins)),some (.int (L:Int)),none,none,none,none,none]) (xs:=inZ ins) (.r rf);rw[show(inZ ins).length=ins.length from aB _]at this;exact this
 obtain⟨s1,w,e1,h1,k1,l1⟩:=Lg.cat (F:=run T (n+3)) (s:=s) (xs:=inZ ins) (ys:=List.replicate (m - ins.length) (.int 0)) (a:=.listOf (.v 2)) (b:=.bin .Mult (.lstE (.aC (.c (.int 0)) .aN)) (.bin .Sub (.v 1) (.len (.v 2)))) (ρ:=[some (.tup (rs.map rwE)),some (.int (m:Int)),some (.tup (inZ ins)),some (.int (L:Int)),none,none,none,none,none]) (.of (.r rf)) (.rep (.mk (.r rf)) (by rw[Int.natCast_sub hi];exact .sub (.r rf) ln) (by omega)) (by rw[show(inZ ins).length=ins.length from aB _,bT];omega) st g
 rw[show inZ ins++List.replicate (m - ins.length) (.int 0)=inZ (v0 m ins) by unfold inZ v0;rw[bG,List.map_replicate]]at h1
 have hw:w≠s1.length:=aX (Zd h1);have p6:ex (run T (n+3)) (.set 6 (.lstE .aN)) [some (.tup (rs.map rwE)),some (.int (m:Int)),some (.tup (inZ ins)),some (.int (L:Int)),some (.lst w),some (.int 0),none,none,none] s1=some (.nx (loE m rs (.tup (inZ ins)) (.int (L:Int)) w ((0:Nat):Int) s1.length none none),s1++[(true,[])]):=Zj rfl;have ce:∀ {s:Za}{k' j:Nat}{z u:Ot D},k'<=rs.length->Y (run T (n+3)) s (.cmp .Eq (.v 5) (.len (.v 0))) (loE m rs (.tup (inZ ins)) (.int (L:Int)) w (k':Int) j z u) (.bl (decide (rs.length<=k'))):=fun {s k' j z u} hk=>.cmp (.r rf) (by
  have:=Y.lnT (F:=run T (n+3)) (s:=s) (a:=.v 0) (ρ:=loE m rs (.tup (inZ ins)) (.int (L:Int)) w (k':Int) j z u) (xs:=rs.map rwE) (.r rf);rw[aB]at this;exact this) fun _=>by show some (decide ((k':Int)=(rs.length:Int)))=_;exact congrArg some (decide_eq_decide.mpr (by omega))
 have gr:∀ {s2:Za},Kb w s1.length (s1++[(true,[])]) s2->Grw st s2:=fun kb=>kb.grw l1 k1.len (k1.trans .push)
 have pre:∀ {r},ex (run T (n+3)) (.seq (.whl (whB c__law_run.body).1 lrB) _) (loE m rs (.tup (inZ ins)) (.int (L:Int)) w ((0:Nat):Int) s1.length none none) (s1++[(true,[])])=some (.rt r.1,r.2)->run T (n+4) 40 [.tup (rs.map rwE),.int (m:Int),.tup (inZ ins),.int (L:Int)] st=some r:=fun {r} h=>Ye (v:=c__law_run) rfl rfl ((Zc (Zj e1)).trans ((Zc (Zj rfl)).trans ((Zc p6).trans h)))
 cases ZbL (n:=n) (w:=w) (j:=s1.length) (ins:=.tup (inZ ins)) (L:=L) hr hw hL L 1000 0 (v0 m ins) [] (s1++[(true,[])]) none none (by omega) (bD _) hv (aU _) (Grw.push.get h1) Zl with
 |@nx k' z u s2 eo hk e2 kb hj=>
  obtain⟨s3,e3,k3⟩:=ce (j:=s1.length) (z:=z) (u:=u) hk s2 .refl;rw[eo];unfold enD;by_cases c:rs.length<=k'
  ·rw[aH c]at e3
   rw[if_pos c];exact⟨s3,s1.length,pre ((Zc (p:=.whl (whB c__law_run.body).1 lrB) e2).trans (Zn ((Yi e3).trans (Zn (ZJ rfl))))),k3.get hj,(gr kb).trans k3⟩
  ·rw[aE c]at e3
   rw[if_neg c];exact⟨s3,s1.length,pre ((Zc (p:=.whl (whB c__law_run.body).1 lrB) e2).trans ((Zc ((ZY e3).trans Ze)).trans (Zn (ZJ rfl)))),k3.get hj,(gr kb).trans k3⟩
 |@rt s2 e2 kb hj=>exact⟨s2,s1.length,pre (Zn (p:=.whl (whB c__law_run.body).1 lrB) e2),hj,gr kb⟩
end
inductive Oc where
 |no|la|te (v:Int)
 deriving DecidableEq
def oD:Oc->D
 |.no=>noD
 |.la=>laD
 |.te v=>teD v
def ocO(rs:Li Rw):Nat->Nat->Li Int->Oc
 |0,k,_=>if rs.length<=k then .no else .la
 |n+1,k,vs=>match rs[k]? with
  |none=>.no
  |some (.tell y)=>.te (woI vs y)
  |some r=>ocO rs n (pkN k vs r) (vsN vs r)
def unl:Nat->Li Oc->Li Oc->Nat
 |i,x :: xs,y :: ys=>(if x=y then 0 else 2 ^ i)+unl (i+1) xs ys
 |_,_,_=>0
def ocP(m:Nat)(rs:Li Rw)(L:Nat)(ins:Li Int):Oc:=ocO rs L 0 (v0 m ins)
structure Trs(m:Nat)(tr:List (List Int)):Prop where
 l:∀ t∈tr,t.length<=m
 s:∀ t∈tr,∀ v∈t,Sm v
 n:tr.length<=11
def inD(t:Li Int):D:=.tup (inZ t)
def btL(m:Nat)(rs:Li Rw)(L:Nat)(tr:Li (Li Int))(p:Nat×Rw):Nat:=unl 0 (tr.map (ocP m rs L)) (tr.map (ocP m (rs.set p.1 p.2) L))
section
variable {F:Nat->Fn}{s st st1:Za}{e a b c:CE}{ρ ρ':Env}{d x y tk:D}{n w m k i0 L:Nat}{vs ins:Li Int}{r:Rw}{rs:Li Rw}{xs ys acc ds:Li D}{q:CS}{g:Str}{o:Op}{bb:Bool}{p q':Oc}{tr:Li (Li Int)}
theorem Zd1:∀ {n k:Nat}{vs:Li Int},oc rs n k vs=oD (ocO rs n k vs)
 |0,k,vs=>by unfold oc ocO;split<;>rfl
 |n+1,k,vs=>by
  have ih:=fun k vs=>@Zd1 n k vs
  unfold oc ocO mv;cases q:rs[k]? with
  |none=>rfl
  |some r=>cases r<;>first|rfl|exact ih _ _
theorem Zgd:eqS st (oD p) (oD q')=some (decide (p=q')):=by
 have n1:decide (S "none"=S "late")=false/\decide (S "none"=S "told")=false/\decide (S "late"=S "none")=false/\decide (S "late"=S "told")=false/\decide (S "told"=S "none")=false/\decide (S "told"=S "late")=false:=by decide +kernel
 have s1:∀ {x y:Str},eqS st (.tup [.str x]) (.tup [.str y])=some (decide (x=y)&&true):=rfl;have s2:∀ {x y:Str}{v:Int},eqS st (.tup [.str x]) (.tup [.str y,.int v])=some (decide (x=y)&&false):=rfl;have s3:∀ {x y:Str}{v:Int},eqS st (.tup [.str x,.int v]) (.tup [.str y])=some (decide (x=y)&&false):=rfl;have s4:∀ {x y:Str}{v w:Int},eqS st (.tup [.str x,.int v]) (.tup [.str y,.int w])=some (decide (x=y)&&(decide (v=w)&&true)):=rfl
 cases p with
 |no=>cases q' with
  |no=>rw[show oD .no=.tup [.str (S "none")] from rfl,s1,aH rfl];rfl
  |la=>rw[show oD .no=.tup [.str (S "none")] from rfl,show oD .la=.tup [.str (S "late")] from rfl,s1,n1.1];rfl
  |te v=>rw[show oD .no=.tup [.str (S "none")] from rfl,show oD (.te v)=.tup [.str (S "told"),.int v] from rfl,s2,cG];rfl
 |la=>cases q' with
  |no=>rw[show oD .no=.tup [.str (S "none")] from rfl,show oD .la=.tup [.str (S "late")] from rfl,s1,n1.2.2.1];rfl
  |la=>rw[show oD .la=.tup [.str (S "late")] from rfl,s1,aH rfl];rfl
  |te v=>rw[show oD .la=.tup [.str (S "late")] from rfl,show oD (.te v)=.tup [.str (S "told"),.int v] from rfl,s2,cG];rfl
 |te u=>cases q' with
  |no=>rw[show oD .no=.tup [.str (S "none")] from rfl,show oD (.te u)=.tup [.str (S "told"),.int u] from rfl,s3,cG];rfl
  |la=>rw[show oD .la=.tup [.str (S "late")] from rfl,show oD (.te u)=.tup [.str (S "told"),.int u] from rfl,s3,cG];rfl
  |te v=>
   rw[show oD (.te u)=.tup [.str (S "told"),.int u] from rfl,show oD (.te v)=.tup [.str (S "told"),.int v] from rfl,s4,aH rfl,cV,dH];exact congrArg some (decide_eq_decide.mpr ⟨fun h=>by rw[h],fun h=>by injection h⟩)
theorem Y.neOc(ha:Y F s a ρ (oD p))(hb:Y F s b ρ (oD q')):Y F s (.cmp .NotEq a b) ρ (.bl (!decide (p=q'))):=.cmp ha hb fun st=>by
 show(eqS st (oD p) (oD q')).map Bool.not=_;rw[Zgd];rfl
def snP(m:Nat)(rs:Li Rw)(L:Nat)(t:Li Int):Li Nat:=sn rs L 0 (v0 m t)
theorem ZcB(hr:Rs m rs)(hm:m<=900)(ht:Trs m tr){t:Li Int}(h:t∈tr)(hL:L<=800):Pv s (run T (n+4) 40 [.tup (rs.map rwE),.int (m:Int),inD t,.int (L:Int)]) (oD (ocP m rs L t)) (inN (snP m rs L t)):=by
 unfold ocP;rw[<-Zd1];exact Zdc hr hm (ht.l t h) (ht.s t h) hL
theorem Pv.cl{f:Nat}(ha:Y F s a ρ (.tup xs))(h:Pv s (F f (xs++[])) d ys):Pv s (ev F (.call f a []) ρ) d ys:=fun st g=>by
 obtain⟨s1,e1,k1⟩:=ha st g;obtain⟨s2,j,e2,h2,k2⟩:=h s1 (g.trans k1);exact⟨s2,j,by show Zo (ev F a) (XO (F f) []) ρ st=_;unfold Zo;rw[e1];exact e2,h2,k1.trans k2⟩
theorem Y.lr0(h:Pv s (ev F a ρ) d ys):Y F s (.ix a (.c (.int 0))) ρ d:=fun st g=>by
 obtain⟨s2,j,e2,h2,k2⟩:=h st g;exact⟨s2,by show Zv (ev F a) (ev F (.c (.int 0))) ixR ρ st=_;unfold Zv;rw[e2];rfl,k2⟩
theorem Wk.lst{en:Li D}(hs:s[w]?=some (bb,en))(h:Y F s e ρ (.lst w)):Wk F s e ρ (Yh false) en:=fun st k=>by
 obtain⟨s1,e1,k1⟩:=h st k;have g:=(k.trans k1).get hs;refine⟨.lst w,s1,fun s'=>s'[w]?=some (bb,en),e1,k1,?_,fun st' k'=>k'.get g⟩
 show(match s1[w]? with
  |some c=>some (c.2,fun(s:Za)=>s[w]?=some c)
  |none=>none)=_
 rw[g]
theorem V3:∀ {xs ys:Li Oc}{i:Nat}{x y:Oc},xs.length=ys.length->unl i (xs++[x]) (ys++[y])=unl i xs ys+if x=y then 0 else 2 ^ (i+xs.length)
 |[],[],i,x,y,_=>by show(if x=y then 0 else 2 ^ i)+0=0+_;rw[Nat.add_zero,bD];rfl
 |[],_ :: _,_,_,_,h=>nomatch h
 |_ :: _,[],_,_,_,h=>nomatch h
 |a :: xs,b :: ys,i,x,y,h=>by
  show(if a=b then 0 else 2 ^ i)+unl (i+1) (xs++[x]) (ys++[y])=(if a=b then 0 else 2 ^ i)+unl (i+1) xs ys+_
  rw[V3 (by simpa using h),aO,show i+1+xs.length=i+(xs.length+1) by omega,cQ]
end
variable{x9 x10:Ot D}{bt:Bool}
section
variable {F:Nat->Fn}{s st st1:Za}{e a b c:CE}{ρ ρ':Env}{d x y tk:D}{n w wt w6 j m k i0 L:Nat}{vs ins:Li Int}{r:Rw}{rs rs':Li Rw}{xs ys acc ds:Li D}{q:CS}{g:Str}{o:Op}{bb:Bool}{p q':Oc}{tr:Li (Li Int)}
theorem Jc{α:Type}{en g:α->D}{I:Env->Prop}{body:D->Env->Za->Ot (Fl×Za)}(hj:s.length<=j):∀ {l:Li α},(∀ a∈l,∀ ρ,I ρ->∀ st acc,Grw s st->st[j]?=some (true,acc)->acc.length < 900->∃ ρ' st',body (en a) ρ st=some (.nx ρ',st')/\I ρ'/\Kj j st st'/\st'[j]?=some (true,acc++[g a]))->∀ ρ,I ρ->∀ st acc,Grw s st->st[j]?=some (true,acc)->acc.length+l.length<=900->∃ ρ' st',Zs body (l.map en) ρ st=some (.nx ρ',st')/\I ρ'/\Kj j st st'/\st'[j]?=some (true,acc++l.map g)
 |[],_,ρ,hI,st,acc,k,hk,_=>⟨ρ,st,rfl,hI,Grw.refl.kj,by rw[List.map_nil,aW];exact hk⟩
 |a :: l,h,ρ,hI,st,acc,k,hk,hl=>by
  rw[aO]at hl;obtain⟨ρ1,s1,e1,i1,g1,k1⟩:=h a lQ7 ρ hI st acc k hk (by omega)
  obtain⟨ρ2,s2,e2,i2,g2,k2⟩:=Jc hj (fun c hc=>h c (lM7 _ hc)) ρ1 i1 s1 _ (g1.grw hj k) k1 (by rw[aI];show _+1+_<=_;omega)
  refine⟨ρ2,s2,?_,i2,g1.trans g2,by rw[aL,k2,bF];rfl⟩
  rw[aL];show(match body (en a) ρ st with
   |some (.nx ρ',st')=>Zs body (l.map en) ρ' st'
   |some (.ct ρ',st')=>Zs body (l.map en) ρ' st'
   |some (.bk ρ',st')=>some (.nx ρ',st')
   |some (.rt v,st')=>some (.rt v,st')
   |none=>none)=_
  rw[e1];exact e2
def dE(tk:D)(m:Nat)(rs:Li Rw)(L wt w6 j:Nat)(x8 x9 x10 x11 x12 x13:Ot D):Env:=[some (pgD tk m rs),some (.lst wt),some (.int (L:Int)),some tk,some (.int (m:Int)),some (.tup (rs.map rwE)),some (.lst w6),some (.lst j),x8,x9,x10,x11,x12,x13]
theorem ZdA{x8 x13:Ot D}(hr:Rs m rs')(hm:m<=900)(ht:Trs m tr)(hL:L<=800){b6:Bool}(h1:s[wt]?=some (bt,tr.map inD))(h6:s[w6]?=some (b6,(tr.map (ocP m rs L)).map oD))(g:Grw s st):∃ y st',ex (run T (n+4)) (.for1 13 true (.len (.v 1)) ZR) (dE tk m rs L wt w6 j x8 x9 x10 (some (.tup (rs'.map rwE))) (some (.int ((0:Nat):Int))) x13) st=some (.nx (dE tk m rs L wt w6 j x8 x9 x10 (some (.tup (rs'.map rwE))) (some (.int (unl 0 (tr.map (ocP m rs L)) (tr.map (ocP m rs' L)):Int))) y),st')/\Grw st st':=by
 have tn:=ht.n;obtain⟨s0,e0,k0⟩:=Y.lenl (F:=run T (n+4)) (a:=.v 1) (ρ:=dE tk m rs L wt w6 j x8 x9 x10 (some (.tup (rs'.map rwE))) (some (.int ((0:Nat):Int))) x13) h1 (.r rf) st g;have fr:=Y5 (F:=run T (n+4)) (i:=13) (q:=ZR) (by show((tr.map inD).length:Int) < _;rw[aB];omega) (by show _<=((tr.map inD).length:Int);omega) e0
 rw[aZ]at fr;have ln:(tr.map inD).length=tr.length:=aB _;obtain⟨ρ',s2,e2,k2,y,rfl⟩:=Wl (st1:=s0) (I:=fun i ρ=>∃ y,ρ=dE tk m rs L wt w6 j x8 x9 x10 (some (.tup (rs'.map rwE))) (some (.int (unl 0 ((tr.map (ocP m rs L)).take i) ((tr.map (ocP m rs' L)).take i):Int))) y) (body:=fun d ρ s=>ex (run T (n+4)) ZR (Zh ρ 13 d) s) (xs:=(List.range (tr.map inD).length).map fun(k:Nat)=>D.int (k:Int)) 0 (dE tk m rs L wt w6 j x8 x9 x10 (some (.tup (rs'.map rwE))) (some (.int ((0:Nat):Int))) x13) (fun i d ρ st2 hd hI g2=>by
  obtain⟨y,rfl⟩:=hI;rw[aR]at hd;obtain⟨z,hz,rfl⟩:=dI.mp hd;have hz':=Zd hz;rw[bX,ln]at hz';rw[List.getElem?_range (by rw[ln];exact hz')]at hz
  cases hz;rw[bD]at *
  have gg:Grw s st2:=(g.trans k0).trans g2;have hti:tr[i]?=some tr[i]:=lG7 hz';have c1:Y (run T (n+4)) s (.cmp .NotEq (.ix (.call 40 (.aC (.v 11) (.aC (.v 4) (.aC (.ix (.v 1) (.v 13)) (.aC (.v 2) .aN)))) []) (.c (.int 0))) (.ix (.v 6) (.v 13))) (dE tk m rs L wt w6 j x8 x9 x10 (some (.tup (rs'.map rwE))) (some (.int (unl 0 ((tr.map (ocP m rs L)).take i) ((tr.map (ocP m rs' L)).take i):Int))) (some (.int (i:Int)))) (.bl (!decide (ocP m rs' L tr[i]=ocP m rs L tr[i]))):=.neOc (.lr0 (.cl (.cons (.r rf) (.cons (.r rf) (.cons (.ixl (t:=(bt,tr.map inD)) h1 (.r rf) (.r rf) (by show(tr.map inD)[i]?=_;rw[aR,hti];rfl)) (.cons (.r rf) .nil)))) (ZcB hr hm ht (dM hz') hL))) (.ixl (t:=(b6,(tr.map (ocP m rs L)).map oD)) h6 (.r rf) (.r rf) (by show((tr.map (ocP m rs L)).map oD)[i]?=_;rw[aR,aR,hti];rfl))
  obtain⟨s3,e3,k3⟩:=c1 st2 gg;have tk1:(tr.map (ocP m rs L)).take (i+1)=(tr.map (ocP m rs L)).take i++[ocP m rs L tr[i]]:=by rw[List.take_succ,aR,hti];rfl
  have tk2:(tr.map (ocP m rs' L)).take (i+1)=(tr.map (ocP m rs' L)).take i++[ocP m rs' L tr[i]]:=by rw[List.take_succ,aR,hti];rfl
  have us:unl 0 ((tr.map (ocP m rs L)).take (i+1)) ((tr.map (ocP m rs' L)).take (i+1))=unl 0 ((tr.map (ocP m rs L)).take i) ((tr.map (ocP m rs' L)).take i)+if ocP m rs L tr[i]=ocP m rs' L tr[i] then 0 else 2 ^ i:=by
   rw[tk1,tk2,V3 (by simp only[bH,aB]),bH,aB,bD,Nat.min_eq_left (by omega)]
  by_cases c:ocP m rs L tr[i]=ocP m rs' L tr[i]
  ·rw[aH c.symm]at e3
   rw[if_pos c,Nat.add_zero]at us;refine⟨_,s3,(Zc ((ZY e3).trans Ze)).trans Ze,k3,some (.int (i:Int)),?_⟩;rw[us];rfl
  ·rw[aE (fun h=>c h.symm)]at e3
   rw[if_neg c]at us;have p2:Y (run T (n+4)) s3 (.bin .Add (.v 12) (.bin .LShift (.c (.int 1)) (.v 13))) (dE tk m rs L wt w6 j x8 x9 x10 (some (.tup (rs'.map rwE))) (some (.int (unl 0 ((tr.map (ocP m rs L)).take i) ((tr.map (ocP m rs' L)).take i):Int))) (some (.int (i:Int)))) (.int ((unl 0 ((tr.map (ocP m rs L)).take i) ((tr.map (ocP m rs' L)).take i):Nat)+((2 ^ i:Nat):Int))):=.add (.r rf) (.bi (i:=1) (j:=(i:Int)) (.r rf) (.r rf) (by
    show(if 0<=(i:Int)/\(i:Int)<=1000/\Z8 1=true then some (1 * 2 ^ (i:Int).toNat) else none)=_
    rw[if_pos ⟨by omega,by omega,rfl⟩,aZ,Int.one_mul,Int.natCast_pow]
    rfl))
   obtain⟨s4,e4,k4⟩:=p2 s3 .refl;refine⟨_,s4,(Zc ((Yi e3).trans ((Zc (Zj e4)).trans Ze))).trans Ze,k3.trans k4,some (.int (i:Int)),?_⟩;rw[us,bQ];rfl) ⟨x13,rfl⟩
 simp only[aB,bX,bD]at e2;rw[eE (by rw[aB];exact aD _),eE (by rw[aB];exact aD _)]at e2
 exact⟨y,s2,fr.trans (by rw[ln];exact e2),k0.trans k2⟩
theorem Qf(h:k < xs.length):xs.take k++[d]++xs.drop (k+1)=xs.set k d:=by
 rw[List.set_eq_take_append_cons_drop,if_pos h,bF];rfl
theorem Ze4(hr:Rs m rs)(hm:m<=900)(ht:Trs m tr)(hL:L<=800)(h1:s[wt]?=some (bt,tr.map inD)):Lg s (run T (n+5) 38 [pgD tk m rs,.lst wt,.int (L:Int)]) ((cdL rs).map fun c=>.int (btL m rs L tr c:Int)):=fun st g=>by
 have tn:=ht.n;have fl:=Xr (rs:=rs);have rl:=hr.l;have c6:Lv s (ev (run T (n+4)) Xo [some (pgD tk m rs),some (.lst wt),some (.int (L:Int)),some tk,some (.int (m:Int)),some (.tup (rs.map rwE)),none,none,none,none,none,none,none,none]) ((tr.map (ocP m rs L)).map oD):=by
  rw[bN];exact VI (F:=run T (n+4)) (b:=one) (wk:=Yh false) (fr:=[2,4,5]) (it:=.v 1) (elt:=.ix (.call 40 (.aC (.v 3) (.aC (.v 2) (.aC (.v 0) (.aC (.v 1) .aN)))) []) (.c (.int 0))) (en:=inD) (g:=fun t=>oD (ocP m rs L t)) (l:=tr) (.lst h1 (.r rf)) (by omega) fun t hh=>.lr0 (.cl (xs:=[.tup (rs.map rwE),.int (m:Int),inD t,.int (L:Int)]) (.r rf) (ZcB hr hm ht hh hL))
 obtain⟨s1,w6,b6,e1,h6,k1⟩:=c6 st g;have g1:=g.trans k1;have p7:ex (run T (n+4)) (.set 7 (.lstE .aN)) [some (pgD tk m rs),some (.lst wt),some (.int (L:Int)),some tk,some (.int (m:Int)),some (.tup (rs.map rwE)),some (.lst w6),none,none,none,none,none,none,none] s1=some (.nx (dE tk m rs L wt w6 s1.length none none none none none none),s1++[(true,[])]):=Zj rfl
 obtain⟨s2,e2,k2⟩:=Y.call1 (F:=run T (n+4)) (s:=s1) (a:=.v 0) (ρ:=dE tk m rs L wt w6 s1.length none none none none none none) (.r rf) (UJ (tk:=tk) hr) (s1++[(true,[])]) .push;have hj:s1.length<=s1.length:=aD _;obtain⟨ρ',s3,e3,⟨x8,x9,x10,x11,x12,x13,rfl⟩,k3,h3⟩:=Jc (s:=s1) (j:=s1.length) (en:=tD) (g:=fun p=>.int (btL m rs L tr (p.1,p.2.2):Int)) (I:=fun ρ=>∃ x8 x9 x10 x11 x12 x13,ρ=dE tk m rs L wt w6 s1.length x8 x9 x10 x11 x12 x13) (body:=ZeW 8 9 10 (ex (run T (n+4)) (.seq (.set 11 (.bin .Add (.bin .Add (.slice (.v 5) .nop (.part (.v 8))) (.tupE (.aC (.v 10) .aN))) (.slice (.v 5) (.part (.bin .Add (.v 8) (.c (.int 1)))) .nop))) (.seq (.set 12 (.c (.int 0))) (.seq (.for1 13 true (.len (.v 1)) ZR) (.seq (.app 7 (.v 12)) .skip)))))) (l:=fkL rs) hj (fun p hp ρ hI st2 acc g2 ha hl=>by
  obtain⟨x8,x9,x10,x11,x12,x13,rfl⟩:=hI;obtain⟨f1,f2⟩:=Ui hr hp;have f1':p.1 < (rs.map rwE).length:=by rw[aB];exact f1
  have y1:Y (run T (n+4)) s1 (.bin .Add (.bin .Add (.slice (.v 5) .nop (.part (.v 8))) (.tupE (.aC (.v 10) .aN))) (.slice (.v 5) (.part (.bin .Add (.v 8) (.c (.int 1)))) .nop)) (dE tk m rs L wt w6 s1.length (some (.int (p.1:Int))) (some (.str p.2.1)) (some (rwE p.2.2)) x11 x12 x13) (.tup ((rs.set p.1 p.2.2).map rwE)):=by
   rw[List.map_set,<-Qf f1'];exact .adT (.adT (.tkT (.r rf) (.r rf) (cX f1')) (.cons (.r rf) .nil) (by rw[bH,aB];show _+1<=_;omega)) (.dpT (.r rf) (by rw[bQ];exact .add (.r rf) (.r rf)) f1') (by rw[aI,bH,cM,aB];show _+1+_<=_;omega)
  obtain⟨s4,e4,k4⟩:=y1 st2 g2;obtain⟨x13',s5,e5,k5⟩:=ZdA (n:=n) (tk:=tk) (j:=s1.length) (x8:=some (.int (p.1:Int))) (x9:=some (.str p.2.1)) (x10:=some (rwE p.2.2)) (x13:=x13) (hr.set f2 (k:=p.1)) hm ht hL (g1.get h1) h6 (g2.trans k4);have ap:=Ap.app (F:=run T (n+4)) (s:=s5) (j:=s1.length) (i:=7) (e:=.v 12) (ρ:=dE tk m rs L wt w6 s1.length (some (.int (p.1:Int))) (some (.str p.2.1)) (some (rwE p.2.2)) (some (.tup ((rs.set p.1 p.2.2).map rwE))) (some (.int (btL m rs L tr (p.1,p.2.2):Int))) x13') rfl (.r rf)
  obtain⟨s6,e6,k6,h6'⟩:=ap s5 acc .refl ((k4.trans k5).get ha) (by show acc.length+1<=900;omega)
  exact⟨_,s6,(Zc (Zj e4)).trans ((Zc (Zj rfl)).trans ((Zc e5).trans ((Zc e6).trans Ze))),⟨_,_,_,_,_,_,rfl⟩,(k4.trans k5).kj.trans k6,h6'⟩) (dE tk m rs L wt w6 s1.length none none none none none none) ⟨none,none,none,none,none,none,rfl⟩ s2 [] (Grw.push.trans k2) (k2.get Zl) (by show 0+_<=_;omega)
 have f4:ex (run T (n+4)) (.for4 8 9 10 (.call 172 (.aC (.v 0) .aN) []) (.seq (.set 11 (.bin .Add (.bin .Add (.slice (.v 5) .nop (.part (.v 8))) (.tupE (.aC (.v 10) .aN))) (.slice (.v 5) (.part (.bin .Add (.v 8) (.c (.int 1)))) .nop))) (.seq (.set 12 (.c (.int 0))) (.seq (.for1 13 true (.len (.v 1)) ZR) (.seq (.app 7 (.v 12)) .skip))))) (dE tk m rs L wt w6 s1.length none none none none none none) (s1++[(true,[])])=some (.nx (dE tk m rs L wt w6 s1.length x8 x9 x10 x11 x12 x13),s3):=by
  show Vu 8 9 10 (ev (run T (n+4)) (.call 172 (.aC (.v 0) .aN) [])) _ _ _=_;unfold Vu;rw[e2];exact e3
 refine⟨s3,s1.length,Ye (v:=c__law_due) rfl rfl ((Zc (p:=.set3 3 4 5 (.v 0)) rfl).trans ((Zc (Zj e1)).trans ((Zc p7).trans ((Zc f4).trans (Zn (ZJ rfl)))))),?_,k1.trans ((k2.kj.trans k3).grw hj .push),k1.len⟩;rw[h3,dB];unfold cdL;rw[bN];rfl
end
abbrev Cd:=Ot (Nat×Rw)
def kdE:Cd->D
 |none=>.tup []
 |some p=>.tup [.int (p.1:Int),rwE p.2]
def rO(rs:Li Rw):Cd->Li Rw
 |none=>rs
 |some p=>rs.set p.1 p.2
section
variable {F:Nat->Fn}{s st st1:Za}{e a b c:CE}{ρ ρ':Env}{d x y tk:D}{n w wa wb wt w6 j m k i0 L:Nat}{vs ins ns:Li Int}{r:Rw}{rs rs':Li Rw}{xs ys acc ds:Li D}{q:CS}{g:Str}{o:Op}{bb:Bool}{p q':Oc}{tr:Li (Li Int)}
theorem Za1{v:Int}:C (run T (n+1)) s 17 [.int v] (.bl true):=.of (v:=c__law_whole) rfl rfl (.ret (.r rf))
theorem WS{ok:Za->Prop}{fe fc:D->Za->Res}(ho:∀ st,Grw s st->ok st):∀ {l:Li D},(∀ a∈l,Gv s (fc a) (.bl false))->∀ st,Grw s st->∃ st',ZM ok fe fc l st=some ([],st')/\Grw st st'
 |[],_,st,k=>⟨st,if_pos (ho st k),.refl⟩
 |x :: xs,h,st,k=>by
  obtain⟨s1,e1,k1⟩:=h x lQ7 st k;obtain⟨s2,e2,k2⟩:=WS ho (fun d hd=>h d (lM7 _ hd)) s1 (k.trans k1)
  refine⟨s2,?_,k1.trans k2⟩;rw[ZM,if_pos (ho st k),e1];exact e2
theorem Vj:∀ {l:Li Int},Zw (l.map D.int) (l.map D.int)=true
 |[]=>rfl
 |x :: l=>by show(decide (x=x)&&Zw (l.map D.int) (l.map D.int))=true;rw[Vj,aH rfl];rfl
theorem Zd2{v:Int}:∀ k,okD k (.int v)=true
 |0=>rfl
 |_+1=>rfl
theorem U9:∀ {l:Li Int}{k:Nat},ZT k (l.map D.int)=true
 |[],0=>rfl
 |[],_+1=>rfl
 |x :: l,k=>by
  have ih:=U9 (l:=l) (k:=k);rw[aL,ZT,Zd2,ih];rfl
theorem UV:WT (ns.map D.int) (ns.map D.int)=some true:=by
 unfold WT;split
 ·rename_i h;rw[Bool.or_self]at h;rw[h];rfl
 ·rw[U9,Vj];rfl
theorem ZaU(hl:ns.length<=900)(h:s[w]?=some (bb,ns.map D.int)):C (run T (n+2)) s 36 [.tup (ns.map D.int),.lst w] (.bl true):=.of (v:=c__law_alike) rfl rfl (by
 have cl:Lv s (ev (run T (n+1)) Z1 [some (.tup (ns.map D.int)),some (.lst w)]) []:=fun st g=>by
  obtain⟨s2,e2,k2⟩:=WS (s:=st) (ok:=fun _=>True) (fe:=fun d=>ev (run T (n+1)) (.v 0) (ZK one [some (.tup (ns.map D.int)),some (.lst w)] [] d)) (fc:=fun d=>ev (run T (n+1)) (.not (.call 17 (.aC (.v 0) .aN) [])) (ZK one [some (.tup (ns.map D.int)),some (.lst w)] [] d)) (l:=ns.map D.int) (fun _ _=>trivial) (fun a ha=>by
   obtain⟨v,_,rfl⟩:=bB.mp ha;exact Y.not (k:=true) (.call1 (x:=.int v) (.r rf) Za1)) st .refl
  refine⟨s2++[(true,[])],s2.length,true,?_,Zl,k2.trans .push⟩;show ZX one (Yh false) [] (ev (run T (n+1)) (.v 0)) (ev (run T (n+1)) (.v 0)) (ev (run T (n+1)) (.not (.call 17 (.aC (.v 0) .aN) []))) _ st=_;unfold ZX;show(if (ns.map D.int).length<=1000 then _ else none)=_
  rw[if_pos (by rw[aB];omega)]
  simp only[e2]
 have ne:Y (run T (n+1)) s (.cmp .NotEq Z1 (.lstE .aN)) [some (.tup (ns.map D.int)),some (.lst w)] (.bl false):=fun st g=>by
  obtain⟨s1,j1,b1,e1,h1,k1⟩:=cl st g;refine⟨s1++[(true,[])],?_,k1.trans .push⟩;show Zv (ev (run T (n+1)) Z1) (ev (run T (n+1)) (.lstE .aN)) (Ya .NotEq) _ st=_;unfold Zv;rw[e1];show Ya .NotEq (.lst j1) (.lst s1.length) (s1++[(true,[])])=_;unfold Ya;have:X6 .NotEq (.lst j1) (.lst s1.length) (s1++[(true,[])])=some false:=by
   show((o2 (fun(c d:Z4)=>WT c.2 d.2) (s1++[(true,[])])[j1]? (s1++[(true,[])])[s1.length]?).join).map not=_
   rw[Grw.push.get h1,Zl];rfl
  rw[this]
 refine .no (.or (k:=false) (m:=false) (.r rf) fun _=>ne) (.ret ?_)
 intro st g;refine⟨st++[(true,ns.map D.int)],?_,.push⟩;show Ya .Eq (.lst st.length) (.lst w) (st++[(true,ns.map D.int)])=_;unfold Ya;have:X6 .Eq (.lst st.length) (.lst w) (st++[(true,ns.map D.int)])=some true:=by
  show(o2 (fun(c d:Z4)=>WT c.2 d.2) (st++[(true,ns.map D.int)])[st.length]? (st++[(true,ns.map D.int)])[w]?).join=_
  rw[(g.trans .push).get h,Zl];exact UV
 rw[this])
theorem UH(h:xs.length<=10):C (run T (n+1)) s 181 [.tup xs] .non:=fun st g=>by
 have:Y (run T n) s (.cmp .Gt (.len (.v 0)) (.c (.int 10))) [some (.tup xs)] (.bl false):=.cmp (.lnT (.r rf)) (.r rf) fun _=>by show some (decide ((10:Int) < (xs.length:Int)))=_;rw[aE (by omega)]
 obtain⟨s1,e1,k1⟩:=this st g;exact⟨s1,ZbY (v:=c_check_trials) rfl rfl ((Zc ((ZY e1).trans Ze)).trans Ze),k1⟩
theorem Zcz(hk:k < rs.length)(hl:rs.length<=900):C (run T (n+2)) s 180 [pgD tk m rs,.int (k:Int),rwE r] (pgD tk m (rs.set k r)):=.of (v:=c_fake_of) rfl rfl (.ret (by
 have:=XA (n:=n) (s:=s) (i:=k) (d:=rwE r) (xs:=rs.map rwE) (by rw[aB];exact hk) (by rw[aB];omega)
 rw[<-List.map_set]at this;exact .cons (.r rf) (.cons (.r rf) (.cons (.call (xs:=[.tup (rs.map rwE),.int (k:Int),rwE r]) (.r rf) this) .nil))))
theorem Zaa{b:D->Li (Ot D)}{en g:α->D}{l:Li α}(hi:Wk F s it ρ wk (l.map en))(hl:l.length<=1000)(h:∀ a∈l,Y F s elt (ZK b ρ fr (en a)) (g a)):Lg s (ZX b wk fr (ev F it) (ev F elt) (ev F (.c (.bl true))) ρ) (l.map g):=fun st k=>by
 obtain⟨x,s1,ok,e1,k1,e2,ho⟩:=hi st k;obtain⟨s2,e3,k2⟩:=XX (s:=s1) (ok:=ok) (fe:=fun d=>ev F elt (ZK b ρ fr d)) (fc:=fun d=>ev F (.c (.bl true)) (ZK b ρ fr d)) (fun _ _=>rfl) ho (fun a ha=>Gv.mono (h a ha) (k.trans k1)) s1 .refl
 refine⟨s2++[(true,l.map g)],_,?_,Zl,(k1.trans k2).trans .push,(k1.trans k2).len⟩;unfold ZX;simp only[e1,e2,aB,if_pos hl,e3]
theorem UI(hr:Rs m rs):Lg s (run T (n+5) 262 [pgD tk m rs]) ((cdL rs).map fun p=>kdE (some p)):=fun st g=>by
 have fl:=Xr (rs:=rs);have rl:=hr.l;have:Lg s (ev (run T (n+4)) (.comp3 [] (.call 172 (.aC (.v 0) .aN) []) (.tupE (.aC (.v 0) (.aC (.v 2) .aN))) (.c (.bl true))) [some (pgD tk m rs)]) ((fkL rs).map fun p=>kdE (some (p.1,p.2.2))):=Zaa (F:=run T (n+4)) (b:=Qi) (wk:=ZaQ) (fr:=[]) (it:=.call 172 (.aC (.v 0) .aN) []) (elt:=.tupE (.aC (.v 0) (.aC (.v 2) .aN))) (en:=tD) (g:=fun p=>kdE (some (p.1,p.2.2))) (l:=fkL rs) (.of (.call1 (.r rf) (UJ hr)) fun st=>by
   show(if ((fkL rs).map tD).all ZbG=true then some ((fkL rs).map tD,fun(_:Za)=>True) else none)=_
   rw[if_pos (by rw[List.all_map];exact cC.mpr fun _ _=>rfl)]) (by omega) fun p hp=>.cons (.r rf) (.cons (.r rf) .nil)
 obtain⟨s1,j1,e1,h1,k1,l1⟩:=this st g;refine⟨s1,j1,Ye (v:=c_codes_of) rfl rfl (Zn (ZJ e1)),?_,k1,l1⟩;rw[h1];unfold cdL;rw[bN];rfl
theorem UQ{F:Nat->Fn}{ca cb:Z4}:∀ {xs ys:Li Oc}{i v:Nat}{x4 x5:Ot D}{st:Za},Grw s st->s[wa]?=some ca->s[wb]?=some cb->∃ x4' x5' v' st',ZE (fun s=>s[wa]?=some ca/\s[wb]?=some cb) (fun x y ρ s=>ex F Zz (Zh (Zh ρ 4 x) 5 y) s) ((xs.map oD).zip (ys.map oD)) [some (.lst wa),some (.lst wb),some (.int (v:Int)),some (.int ((2 ^ i:Nat):Int)),x4,x5] st=some (.nx [some (.lst wa),some (.lst wb),some (.int ((v+unl i xs ys:Nat):Int)),v',x4',x5'],st')/\Grw st st'
 |[],ys,i,v,x4,x5,st,g,ha,hb=>⟨x4,x5,_,st,if_pos ⟨g.get ha,g.get hb⟩,.refl⟩
 |x :: xs,[],i,v,x4,x5,st,g,ha,hb=>⟨x4,x5,_,st,if_pos ⟨g.get ha,g.get hb⟩,.refl⟩
 |x :: xs,y :: ys,i,v,x4,x5,st,g,ha,hb=>by
  obtain⟨s1,e1,k1⟩:=Y.neOc (F:=F) (s:=st) (a:=.v 4) (b:=.v 5) (p:=x) (q':=y) (ρ:=[some (.lst wa),some (.lst wb),some (.int (v:Int)),some (.int ((2 ^ i:Nat):Int)),some (oD x),some (oD y)]) (.r rf) (.r rf) st .refl;have p3:∀ v:Nat,Y F s1 (.bin .Mult (.v 3) (.c (.int 2))) [some (.lst wa),some (.lst wb),some (.int (v:Int)),some (.int ((2 ^ i:Nat):Int)),some (oD x),some (oD y)] (.int ((2 ^ (i+1):Nat):Int)):=fun v=>by
   rw[show((2 ^ (i+1):Nat):Int)=((2 ^ i:Nat):Int) * 2 by rw[Nat.pow_succ,Int.natCast_mul];rfl]
   exact .mul (.r rf) (.r rf) rfl
  have bd:∃ s3,ex F Zz [some (.lst wa),some (.lst wb),some (.int (v:Int)),some (.int ((2 ^ i:Nat):Int)),some (oD x),some (oD y)] st=some (.nx [some (.lst wa),some (.lst wb),some (.int ((v+(if x=y then 0 else 2 ^ i):Nat):Int)),some (.int ((2 ^ (i+1):Nat):Int)),some (oD x),some (oD y)],s3)/\Grw st s3:=by
   by_cases c:x=y
   ·rw[aH c]at e1
    obtain⟨s3,e3,k3⟩:=p3 v s1 .refl;rw[if_pos c];exact⟨s3,(Zc ((ZY e1).trans Ze)).trans ((Zc (Zj e3)).trans Ze),k1.trans k3⟩
   ·rw[aE c]at e1
    obtain⟨s3,e3,k3⟩:=p3 (v+2 ^ i) s1 .refl;rw[if_neg c];exact⟨s3,(Zc ((Yi e1).trans ((Zc (Zj rfl)).trans Ze))).trans ((Zc (Zj e3)).trans Ze),k1.trans k3⟩
  obtain⟨s3,e3,k3⟩:=bd;obtain⟨x4',x5',v',s4,e4,k4⟩:=UQ (xs:=xs) (ys:=ys) (i:=i+1) (v:=v+(if x=y then 0 else 2 ^ i)) (x4:=some (oD x)) (x5:=some (oD y)) (g.trans k3) ha hb
  refine⟨x4',x5',v',s4,?_,k3.trans k4⟩;rw[aL,aL,List.zip_cons_cons,ZE,if_pos ⟨g.get ha,g.get hb⟩];show(match ex F Zz [some (.lst wa),some (.lst wb),some (.int (v:Int)),some (.int ((2 ^ i:Nat):Int)),some (oD x),some (oD y)] st with
   |some (.nx ρ',st')=>ZE _ _ _ ρ' st'
   |some (.ct ρ',st')=>ZE _ _ _ ρ' st'
   |some (.bk ρ',st')=>some (.nx ρ',st')
   |some (.rt v,st')=>some (.rt v,st')
   |none=>none)=_
  rw[e3];rw[cQ]at e4;exact e4
theorem Zf2{os pq:Li Oc}{ba bc:Bool}(ha:s[wa]?=some (ba,os.map oD))(hb:s[wb]?=some (bc,pq.map oD)):C (run T (n+1)) s 183 [.lst wa,.lst wb] (.int (unl 0 os pq:Int)):=fun st g=>by
 obtain⟨x4,x5,v',s1,e1,k1⟩:=UQ (F:=run T n) (s:=st) (xs:=os) (ys:=pq) (i:=0) (v:=0) (x4:=none) (x5:=none) .refl (g.get ha) (g.get hb);have fp:ex (run T n) (.forP 4 5 (.aC (.v 0) (.aC (.v 1) .aN)) Zz) [some (.lst wa),some (.lst wb),some (.int ((0:Nat):Int)),some (.int ((2 ^ 0:Nat):Int)),none,none] st=some (.nx [some (.lst wa),some (.lst wb),some (.int ((0+unl 0 os pq:Nat):Int)),v',x4,x5],s1):=by
  show(match st[wa]?,st[wb]? with
   |some ca,some cb=>ZE (fun s=>s[wa]?=some ca/\s[wb]?=some cb) (fun x y ρ s=>ex (run T n) Zz (Zh (Zh ρ 4 x) 5 y) s) (ca.2.zip cb.2) _ st
   |_,_=>none)=_
  rw[g.get ha,g.get hb];exact e1
 rw[bD]at fp;exact⟨s1,Ye (v:=c_bits_unlike) rfl rfl ((Zc (Zj rfl)).trans ((Zc (Zj rfl)).trans ((Zc fp).trans (Zn (ZJ rfl))))),k1⟩
end
mutual
theorem Ud:∀ {x y:D},Zr x y=true->x=y
 |.non,.non,_=>rfl
 |.bl a,.bl b,h=>by have h:(a==b)=true:=h;rw[eq_of_beq h]
 |.int a,.int b,h=>by rw[of_decide_eq_true (p:=a=b) h]
 |.str a,.str b,h=>by rw[of_decide_eq_true (p:=a=b) h]
 |.tup a,.tup b,h=>by rw[UO (xs:=a) (ys:=b) h]
theorem UO:∀ {xs ys:Li D},Zw xs ys=true->xs=ys
 |[],[],_=>rfl
 |x :: xs,y :: ys,h=>by
  have h:(Zr x y&&Zw xs ys)=true:=h;rw[bA7]at h;rw[Ud h.1,UO h.2]
end
theorem WB{n:Nat}(ih:∀ x,okN n x=true->Zr x x=true):∀ {ds:Li D},ds.all (okN n)=true->Zw ds ds=true
 |[],_=>rfl
 |d :: ds,h=>by
  rw[bC,bA7]at h;show(Zr d d&&Zw ds ds)=true;rw[ih d h.1,WB ih h.2];rfl
theorem Xn:∀ {n:Nat}{x:D},okN n x=true->Zr x x=true
 |n,x,h=>by
  cases x with
  |int a=>exact aH rfl
  |str a=>exact aH rfl
  |tup ds=>cases n with
   |zero=>cases h
   |succ n=>exact WB (fun x=>Xn) h
  |_=>cases n<;>cases h
abbrev Ky:=Cd×Li Int
def kyE(k:Ky):D:=.tup [kdE k.1,inD k.2]
def vlE(m:Nat)(rs:Li Rw)(L:Nat)(k:Ky):D:=.tup [oD (ocP m (rO rs k.1) L k.2),.int (ZC (sn (rO rs k.1) L 0 (v0 m k.2)):Int)]
def enE(m:Nat)(rs:Li Rw)(L:Nat)(k:Ky):D:=.tup [kyE k,vlE m rs L k]
variable{o:Op}
section
variable {m L k n:Nat}{rs:Li Rw}{ks:Li Ky}{vs:Li Int}{tr:Li (Li Int)}
theorem ZfJ:okN (n+1) (opE o)=true:=by cases o<;>cases n<;>rfl
theorem Zan{r:Rw}:okN (n+2) (rwE r)=true:=by
 have h:∀ {o:Op},okN (n+1) (opE o)=true:=ZfJ;cases r with
 |put x y g z=>show(true&&(true&&(okN (n+1) (opE y)&&(true&&(okN (n+1) (opE z)&&true)))))=true;rw[h,h];rfl
 |ifr y g z t=>show(true&&(okN (n+1) (opE y)&&(true&&(okN (n+1) (opE z)&&(true&&true)))))=true;rw[h,h];rfl
 |tell y=>show(true&&(okN (n+1) (opE y)&&true))=true;rw[h];rfl
 |_=>rfl
theorem ZfI{t:Li Int}:okN (n+1) (inD t)=true:=by
 show(inZ t).all (okN n)=true;unfold inZ;rw[List.all_map];exact cC.mpr fun _ _=>by cases n<;>rfl
theorem VT{k:Ky}:okN 8 (kyE k)=true:=by
 show(okN 7 (kdE k.1)&&(okN 7 (inD k.2)&&true))=true;rw[ZfI];cases k.1 with
 |none=>rfl
 |some p=>show((true&&(okN 6 (rwE p.2)&&true))&&_)=true;rw[Zan];rfl
theorem ZS{a b:Str}{xs ys:Li D}(h:D.tup (.str a :: xs)=.tup (.str b :: ys)):a=b:=by injection h with h;injection h with h _;injection h
theorem Wq{z:Op}(h:opE o=opE z):o=z:=by
 cases o with
 |nm i=>cases z with
  |nm j=>
   have h:D.tup [.str (S "name"),.int (i:Int)]=.tup [.str (S "name"),.int (j:Int)]:=h
   injection h with h;injection h with _ h;injection h with h _;injection h with h;rw[Int.ofNat.inj h]
  |nu v=>exact absurd (ZS h) (by decide +kernel)
 |nu u=>cases z with
  |nm j=>exact absurd (ZS h) (by decide +kernel)
  |nu v=>
   have h:D.tup [.str (S "number"),.int u]=.tup [.str (S "number"),.int v]:=h
   injection h with h;injection h with _ h;injection h with h _;injection h with h;rw[h]
theorem Uz{r q:Rw}(h:rwE r=rwE q):r=q:=by
 have nn:S "put"≠S "if"/\S "put"≠S "go"/\S "put"≠S "tell"/\S "put"≠S "skip"/\S "if"≠S "go"/\S "if"≠S "tell"/\S "if"≠S "skip"/\S "go"≠S "tell"/\S "go"≠S "skip"/\S "tell"≠S "skip":=by decide +kernel
 obtain⟨a1,a2,a3,a4,a5,a6,a7,a8,a9,a10⟩:=nn;cases r with
 |put x y g z=>cases q with
  |put x' y' g' z'=>
   have h:D.tup [.str (S "put"),.int (x:Int),opE y,.str g,opE z]=.tup [.str (S "put"),.int (x':Int),opE y',.str g',opE z']:=h
   injection h with h;injection h with _ h;injection h with h1 h;injection h with h2 h;injection h with h3 h;injection h with h4 _;injection h1 with h1;injection h3 with h3
   rw[Int.ofNat.inj h1,Wq h2,h3,Wq h4]
  |ifr _ _ _ _=>exact absurd (ZS h) a1
  |go _=>exact absurd (ZS h) a2
  |tell _=>exact absurd (ZS h) a3
  |skip=>exact absurd (ZS h) a4
 |ifr y g z t=>cases q with
  |put _ _ _ _=>exact absurd (ZS h) a1.symm
  |ifr y' g' z' t'=>
   have h:D.tup [.str (S "if"),opE y,.str g,opE z,.int (t:Int)]=.tup [.str (S "if"),opE y',.str g',opE z',.int (t':Int)]:=h
   injection h with h;injection h with _ h;injection h with h1 h;injection h with h2 h;injection h with h3 h;injection h with h4 _;injection h4 with h4;injection h2 with h2
   rw[Wq h1,h2,Wq h3,Int.ofNat.inj h4]
  |go _=>exact absurd (ZS h) a5
  |tell _=>exact absurd (ZS h) a6
  |skip=>exact absurd (ZS h) a7
 |go t=>cases q with
  |put _ _ _ _=>exact absurd (ZS h) a2.symm
  |ifr _ _ _ _=>exact absurd (ZS h) a5.symm
  |go t'=>
   have h:D.tup [.str (S "go"),.int (t:Int)]=.tup [.str (S "go"),.int (t':Int)]:=h
   injection h with h;injection h with _ h;injection h with h _;injection h with h;rw[Int.ofNat.inj h]
  |tell _=>exact absurd (ZS h) a8
  |skip=>exact absurd (ZS h) a9
 |tell y=>cases q with
  |put _ _ _ _=>exact absurd (ZS h) a3.symm
  |ifr _ _ _ _=>exact absurd (ZS h) a6.symm
  |go _=>exact absurd (ZS h) a8.symm
  |tell y'=>
   have h:D.tup [.str (S "tell"),opE y]=.tup [.str (S "tell"),opE y']:=h
   injection h with h;injection h with _ h;injection h with h _;rw[Wq h]
  |skip=>exact absurd (ZS h) a10
 |skip=>cases q with
  |put _ _ _ _=>exact absurd (ZS h) a4.symm
  |ifr _ _ _ _=>exact absurd (ZS h) a7.symm
  |go _=>exact absurd (ZS h) a9.symm
  |tell _=>exact absurd (ZS h) a10.symm
  |skip=>rfl
theorem VE:∀ {a b:Li Int},a.map D.int=b.map D.int->a=b
 |[],[],_=>rfl
 |x :: a,y :: b,h=>by
  rw[aL,aL]at h
  injection h with h1 h2;injection h1 with h1
  rw[h1,VE h2]
theorem ZdR{a b:Ky}(h:kyE a=kyE b):a=b:=by
 obtain⟨c,t⟩:=a;obtain⟨c',t'⟩:=b;have h:D.tup [kdE c,inD t]=.tup [kdE c',inD t']:=h
 injection h with h;injection h with h1 h;injection h with h2 _
 have h2:D.tup (t.map D.int)=.tup (t'.map D.int):=h2
 injection h2 with h2
 rw[VE h2];cases c with
 |none=>cases c' with
  |none=>rfl
  |some p=>exact nomatch h1
 |some p=>cases c' with
  |none=>exact nomatch h1
  |some p'=>
   obtain⟨i,r⟩:=p;obtain⟨i',r'⟩:=p';have h1:D.tup [.int (i:Int),rwE r]=.tup [.int (i':Int),rwE r']:=h1
   injection h1 with h1;injection h1 with h1 h;injection h with h3 _;injection h1 with h1
   rw[Int.ofNat.inj h1,Uz h3]
theorem ZcO{a b:Ky}:Wx (kyE a) (enE m rs L b)=decide (b=a):=by
 show Zr (kyE b) (kyE a)=_;by_cases h:b=a
 ·rw[h,aH rfl];exact Xn VT
 ·rw[aE h]
  cases q:Zr (kyE b) (kyE a) with
  |false=>rfl
  |true=>exact absurd (ZdR (Ud q)) h
theorem V9{k:Ky}:∀ {ks:Li Ky},(ks.map (enE m rs L)).any (Wx (kyE k))=decide (k∈ks)
 |[]=>rfl
 |a :: ks=>by
  rw[aL,cF,V9,ZcO,<-dO];exact decide_eq_decide.mpr ⟨fun h=>aG.mpr (h.imp Eq.symm id),fun h=>(aG.mp h).imp Eq.symm id⟩
theorem W2{k:Ky}:∀ {ks:Li Ky},Yo (ks.map (enE m rs L)) (kyE k)=if k∈ks then some (vlE m rs L k) else none
 |[]=>rfl
 |a :: ks=>by
  have ih:=W2 (k:=k) (ks:=ks);unfold Yo at ih ⊢
  rw[aL,cP,ZcO];by_cases h:a=k
  ·rw[aH h,if_pos (aG.mpr (.inl h.symm)),h];rfl
  ·rw[aE h]
   by_cases c:k∈ks
   ·rw[if_pos c]at ih
    rw[if_pos (lM7 _ c)];exact ih
   ·rw[if_neg c]at ih
    rw[if_neg fun z=>c ((aG.mp z).resolve_left fun z=>h z.symm)]
    exact ih
theorem VS:Y7 (ks.map (enE m rs L))=false:=by cases ks<;>rfl
theorem ZcZ:∀ {n k:Nat}{vs:Li Int},∀ z∈sn rs n k vs,z < rs.length
 |0,_,_,z,h=>nomatch h
 |n+1,k,vs,z,h=>by
  unfold sn at h;cases q:mv rs k vs with
  |inl o=>
   rw[q]at h;have h:z∈if rs.length<=k then [] else [k]:=h
   split at h
   ·cases h
   ·rw[aP.mp h];omega
  |inr p=>
   rw[q]at h;rcases aG.mp h with h|h
   ·rw[h]
    unfold mv at q;cases c:rs[k]? with
    |none=>rw[c]at q;cases q
    |some r=>exact Zd c
   ·exact ZcZ z h
def Wt(ks:Li Ky)(k:Ky):Li Ky:=if k∈ks then ks else ks++[k]
end
def bkF(tk:D)(m:Nat)(rs:Li Rw)(tr:Li (Li Int))(L kp dn:Nat):Li D:=[.tup [.str (S "program"),pgD tk m rs],.tup [.str (S "trials"),.tup (tr.map inD)],.tup [.str (S "limit"),.int (L:Int)],.tup [.str (S "kept"),.dic kp],.tup [.str (S "done"),.int (dn:Int)]]
structure Bk(tk:D)(m:Nat)(rs:List Rw)(tr:List (List Int))(L b kp d0:Nat)(ks:List Ky)(s:Za):Prop where
 ob:s[b]?=some (true,.int 263 :: bkF tk m rs tr L kp (d0+ks.length))
 ke:s[kp]?=some (true,ks.map (enE m rs L))
 ne:b≠kp
structure Fit(m:Nat)(rs:List Rw)(tr:List (List Int))(L:Nat):Prop where
 r:Rs m rs
 b:m<=900
 t:Trs m tr
 l:L<=800
def Q1(rs:Li Rw):Cd->Prop
 |none=>True
 |some p=>p∈cdL rs
section
variable {F:Nat->Fn}{s st st1 st':Za}{e a b c:CE}{ρ ρ':Env}{d x y tk:D}{n w wa wb j m k i0 L bo kp dn d0:Nat}{vs ins ns t:Li Int}{r:Rw}{rs rs':Li Rw}{xs ys acc ds es:Li D}{q:CS}{g f:Str}{bb:Bool}{tr:Li (Li Int)}{ks:Li Ky}{cd:Cd}
theorem Bk.grw(h:Bk tk m rs tr L bo kp d0 ks s)(g:Grw s st):Bk tk m rs tr L bo kp d0 ks st:=⟨g.get h.ob,g.get h.ke,h.ne⟩
theorem YU:YA (bkF tk m rs tr L kp dn) (S "program")=some (pgD tk m rs)/\YA (bkF tk m rs tr L kp dn) (S "trials")=some (.tup (tr.map inD))/\YA (bkF tk m rs tr L kp dn) (S "limit")=some (.int (L:Int))/\YA (bkF tk m rs tr L kp dn) (S "kept")=some (.dic kp)/\YA (bkF tk m rs tr L kp dn) (S "done")=some (.int (dn:Int)):=by
 have n0:∀ {x:Str},decide (x=x)=true:=aH rfl;have n1:decide (S "program"=S "trials")=false/\decide (S "program"=S "limit")=false/\decide (S "program"=S "kept")=false/\decide (S "program"=S "done")=false/\decide (S "trials"=S "limit")=false/\decide (S "trials"=S "kept")=false/\decide (S "trials"=S "done")=false/\decide (S "limit"=S "kept")=false/\decide (S "limit"=S "done")=false/\decide (S "kept"=S "done")=false:=by decide +kernel
 obtain⟨a1,a2,a3,a4,a5,a6,a7,a8,a9,a10⟩:=n1;unfold YA bkF;refine⟨?_,?_,?_,?_,?_⟩<;>simp only[List.find?,isK,n0,a1,a2,a3,a4,a5,a6,a7,a8,a9,a10]<;>rfl
theorem Y.fl(hs:s[w]?=some (bb,.int k' :: es))(h:Y F s a ρ (.dic w))(hd:YA es f=some d):Y F s (.fld f a) ρ d:=g1 h (gs fun st g=>by
 show(match st[w]? with
  |some (_,.int _ :: es)=>(match YA es f with
   |some v=>some (v,st)
   |none=>none)
  |_=>none)=_
 rw[g.get hs];show(match YA es f with
   |some v=>some (v,st)
   |none=>none)=_
 rw[hd])
theorem Zdx(hs:s[w]?=some (bb,.int 263 :: es)):Zdw s (.dic w)=some 263:=by
 show(match s[w]? with
  |some (_,.int c :: _)=>some c.toNat
  |_=>none)=_
 rw[hs];rfl
theorem Xh{tab:Li (Nat×Nat)}(hs:st1[w]?=some (bb,.int 263 :: es))(e1:ev F a ρ st=some (.dic w,st1))(ht:tab.lookup 263=some j)(e2:ev F b ρ st1=some (.tup xs,st')):ev F (.meth tab a b) ρ st=F j (.dic w :: xs) st':=by
 show Wn F tab (ev F a) (ev F b) ρ st=_;unfold Wn;rw[e1];show(match (Zdw st1 (.dic w)).bind fun c=>tab.lookup c with
  |some j=>(match ev F b ρ st1 with
   |some (.tup xs,st2)=>F j (.dic w :: xs) st2
   |_=>none)
  |none=>none)=_
 rw[Zdx hs,oB7,ht];show(match ev F b ρ st1 with
   |some (.tup xs,st2)=>F j (.dic w :: xs) st2
   |_=>none)=_
 rw[e2]
theorem Y.meth{tab:Li (Nat×Nat)}(hs:s[w]?=some (bb,.int 263 :: es))(ho:Y F s a ρ (.dic w))(ht:tab.lookup 263=some j)(ha:Y F s b ρ (.tup xs))(h:C F s j (.dic w :: xs) d):Y F s (.meth tab a b) ρ d:=fun st g=>by
 obtain⟨s1,e1,k1⟩:=ho st g;obtain⟨s2,e2,k2⟩:=ha s1 (g.trans k1);obtain⟨s3,e3,k3⟩:=h s2 (g.trans (k1.trans k2));exact⟨s3,(Xh ((g.trans k1).get hs) e1 ht e2).trans e3,k1.trans (k2.trans k3)⟩
theorem Ze8(hf:Fit m rs tr L)(hb:Bk tk m rs tr L bo kp d0 ks s)(hc:Q1 rs cd):C (run T (n+3)) s 265 [.dic bo,kdE cd] (pgD tk m (rO rs cd)):=.of (v:=c_Book_program_of) rfl rfl (by
 have f1:=YU (tk:=tk) (m:=m) (rs:=rs) (tr:=tr) (L:=L) (kp:=kp) (dn:=ks.length);cases cd with
 |none=>exact .yes (.r rf) (.fl hb.ob (.r rf) f1.1)
 |some p=>
  have hp:p.1 < rs.length:=by
   obtain⟨u,hu,rfl⟩:=bB.mp (show p∈(fkL rs).map fun p=>(p.1,p.2.2) from hc)
   exact(Ui hf.r hu).1
  have rl:=hf.r.l;refine .no (.cmp (x:=.tup [.int (p.1:Int),rwE p.2]) (y:=.tup []) (.r rf) (.r rf) fun st=>?_) (.ret (.call (xs:=[pgD tk m rs,.int (p.1:Int),rwE p.2]) (.cons (.fl hb.ob (.r rf) f1.1) (.cons (.r rf) (.cons (.r rf) .nil))) (Zcz hp (by omega))))
  show(match eqT [.int (p.1:Int),rwE p.2] (.tup []) with
   |some k=>some k
   |none=>Qc st [.int (p.1:Int),rwE p.2] [])=_
  have:eqT [.int (p.1:Int),rwE p.2] (.tup [])=some false:=by
   unfold eqT;have:okD 8 (.tup [.int (p.1:Int),rwE p.2])=true:=by
    have h:∀ {o:Op},okD 6 (opE o)=true:=fun {o}=>by cases o<;>rfl
    show(true&&(okD 7 (rwE p.2)&&true))=true;cases p.2 with
    |put x y g z=>show(true&&((true&&(true&&(okD 6 (opE y)&&(true&&(okD 6 (opE z)&&true)))))&&true))=true;rw[h,h];rfl
    |ifr y g z t=>show(true&&((true&&(okD 6 (opE y)&&(true&&(okD 6 (opE z)&&(true&&true)))))&&true))=true;rw[h,h];rfl
    |tell y=>show(true&&((true&&(okD 6 (opE y)&&true))&&true))=true;rw[h];rfl
    |_=>rfl
   rw[this];rfl
  rw[this])
theorem Y.ky(hb:Bk tk m rs tr L bo kp d0 ks s)(ha:Y F s a ρ (kyE (cd,t)))(hd:Y F s b ρ (.dic kp)):Y F s (.cmp .NotIn a b) ρ (.bl (!decide ((cd,t)∈ks))):=g2 ha hd (gs fun st g=>by
 show Ya .NotIn (kyE (cd,t)) (.dic kp) st=_;unfold Ya;have:X6 .NotIn (kyE (cd,t)) (.dic kp) st=some (!decide ((cd,t)∈ks)):=by
  show(((match st[kp]? with
   |some (_,xs)=>if Y7 xs=false/\okN 8 (kyE (cd,t))=true then some (Yo xs (kyE (cd,t))) else none
   |none=>none)).map Option.isSome).map Bool.not=_
  rw[g.get hb.ke];show(((if Y7 (ks.map (enE m rs L))=false/\okN 8 (kyE (cd,t))=true then some (Yo (ks.map (enE m rs L)) (kyE (cd,t))) else none)).map Option.isSome).map Bool.not=_
  rw[if_pos ⟨VS,VT⟩,W2];by_cases h:(cd,t)∈ks
  ·rw[if_pos h,aH h];rfl
  ·rw[if_neg h,aE h];rfl
 rw[this])
theorem Y.kv(hb:Bk tk m rs tr L bo kp d0 ks s)(ha:Y F s a ρ (kyE (cd,t)))(hd:Y F s b ρ (.dic kp))(h:(cd,t)∈ks):Y F s (.ix b a) ρ (vlE m rs L (cd,t)):=g2 hd ha (gs fun st g=>by
 show ixR (.dic kp) (kyE (cd,t)) st=_;unfold ixR;have:ixD (.dic kp) (kyE (cd,t)) st=some (vlE m rs L (cd,t)):=by
  show(match st[kp]? with
   |some (_,xs)=>if Y7 xs=false/\okN 8 (kyE (cd,t))=true then some (Yo xs (kyE (cd,t))) else none
   |none=>none).join=_
  rw[g.get hb.ke];show(if Y7 (ks.map (enE m rs L))=false/\okN 8 (kyE (cd,t))=true then some (Yo (ks.map (enE m rs L)) (kyE (cd,t))) else none).join=_
  rw[if_pos ⟨VS,VT⟩,W2,if_pos h];rfl
 rw[this])
end
def XC(cd:Cd)(ks:Li Ky)(l:Li (Li Int)):Li Ky:=l.foldl (fun ks t=>Wt ks (cd,t)) ks
section
variable {F:Nat->Fn}{s st st1 st2 st3 st4 st':Za}{e a b c:CE}{ρ ρ':Env}{d x y tk:D}{n w wa wb j m k i i0 L bo kp dn d0:Nat}{vs ins ns t:Li Int}{r:Rw}{rs rs':Li Rw}{xs ys acc ds es:Li D}{q:CS}{g f:Str}{bb:Bool}{tr:Li (Li Int)}{ks:Li Ky}{cd:Cd}
theorem ZeZ(e1:ev F e ρ st=some (d,st1))(e2:ev F a ρ st1=some (.dic w,st2))(e3:ev F b ρ st2=some (.tup xs,st3))(h:dput w (.tup xs) d st3=some st4):ex F (.dput i a b e) ρ st=some (.nx ρ,st4):=by
 show X7 (ev F a) (ev F b) (ev F e) ρ st=_;unfold X7;simp only[e1,e2,e3,h]
theorem YJ{c:Int}(e1:ev F e ρ st=some (d,st1))(h:ρ[i]?=some (some (.dic w)))(h1:st1[w]?=some (true,.int c :: es))(hl:es.length < 900):ex F (.fset i f e) ρ st=some (.nx ρ,st1.set w (true,.int c :: Z2 f d es)):=by
 show Vw i f (ev F e) ρ st=_;unfold Vw;simp only[e1,h,h1];rw[if_pos hl]
theorem Zbm:Z2 (S "done") (.int ((dn+1:Nat):Int)) (bkF tk m rs tr L kp dn)=bkF tk m rs tr L kp (dn+1):=by
 have n0:∀ {x:Str},decide (x=x)=true:=aH rfl;have n1:decide (S "program"=S "done")=false/\decide (S "trials"=S "done")=false/\decide (S "limit"=S "done")=false/\decide (S "kept"=S "done")=false:=by decide +kernel
 obtain⟨a1,a2,a3,a4⟩:=n1;unfold bkF;simp only[Z2,isK,n0,a1,a2,a3,a4,cH,if_false,if_true];rfl
theorem ZfP(hf:Fit m rs tr L)(hc:Q1 rs cd):Rs m (rO rs cd):=by
 cases cd with
 |none=>exact hf.r
 |some p=>
  obtain⟨u,hu,rfl⟩:=bB.mp (show p∈(fkL rs).map fun p=>(p.1,p.2.2) from hc)
  exact hf.r.set (Ui hf.r hu).2
theorem ZdS{l:Li D}(h:l≠[]):(x :: l).getLastD y=l.getLastD y:=by
 cases l with
 |nil=>exact absurd rfl h
 |cons a l=>rfl
theorem VJ{k:Ky}:(Wt ks k).length<=ks.length+1:=by
 unfold Wt;split
 ·omega
 ·rw[aI];exact aD _
theorem Zde(hn:ks.length < 900000)(hf:Fit m rs tr L)(hb:Bk tk m rs tr L bo kp d0 ks s)(hc:Q1 rs cd)(ht:t∈tr):∃ st',run T (n+7) 266 [.dic bo,kdE cd,inD t] s=some (oD (ocP m (rO rs cd) L t),st')/\Kb bo kp s st'/\Bk tk m rs tr L bo kp d0 (Wt ks (cd,t)) st':=by
 have f1:=fun dn=>YU (tk:=tk) (m:=m) (rs:=rs) (tr:=tr) (L:=L) (kp:=kp) (dn:=dn)
 have fin:∀ {s:Za}{ks:Li Ky}{z:Ot D},Bk tk m rs tr L bo kp d0 ks s->(cd,t)∈ks->Y (run T (n+6)) s (.ix (.ix (.fld (S "kept") (.v 0)) (.tupE (.aC (.v 1) (.aC (.v 2) .aN)))) (.c (.int 0))) [some (.dic bo),some (kdE cd),some (inD t),z] (oD (ocP m (rO rs cd) L t)):=fun hb h=>.ixt (j:=0) (xs:=[oD (ocP m (rO rs cd) L t),.int (ZC (sn (rO rs cd) L 0 (v0 m t)):Int)]) (.kv (cd:=cd) (t:=t) hb (.r rf) (.fl hb.ob (.r rf) (f1 _).2.2.2.1) h) (.r rf) rfl
 obtain⟨s1,e1,k1⟩:=Y.ky (F:=run T (n+6)) (cd:=cd) (t:=t) (a:=.tupE (.aC (.v 1) (.aC (.v 2) .aN))) (b:=.fld (S "kept") (.v 0)) (ρ:=[some (.dic bo),some (kdE cd),some (inD t),none]) hb (.r rf) (.fl hb.ob (.r rf) (f1 _).2.2.2.1) s .refl;unfold Wt;by_cases h:(cd,t)∈ks
 ·rw[aH h]at e1
  obtain⟨s2,e2,k2⟩:=fin (z:=none) (hb.grw k1) h s1 .refl;rw[if_pos h];exact⟨s2,Ye (v:=c_Book_outcome_of) rfl rfl ((Zc ((ZY e1).trans Ze)).trans (Zn (ZJ e2))),(k1.trans k2).kb,hb.grw (k1.trans k2)⟩
 ·rw[aE h]at e1
  rw[if_neg h];have ro:=ZfP hf hc;have tlh:=hf.t.l t ht;have ts:=hf.t.s t ht;have mb:=hf.b;have y3:Y (run T (n+6)) s (.call 12 (.aC (.meth [(263,265)] (.v 0) (.aC (.v 1) .aN)) (.aC (.v 2) (.aC (.fld (S "limit") (.v 0)) .aN))) []) [some (.dic bo),some (kdE cd),some (inD t),none] (.tup (stD 0 (v0 m t) :: tl (rO rs cd) L 0 (v0 m t))):=.call (xs:=[pgD tk m (rO rs cd),inD t,.int (L:Int)]) (.cons (.meth hb.ob (.r rf) rfl (.cons (.r rf) .nil) (Ze8 hf hb hc)) (.cons (.r rf) (.cons (.fl hb.ob (.r rf) (f1 _).2.2.1) .nil))) (Za0 ro (by omega) tlh ts hf.l)
  obtain⟨s2,e2,k2⟩:=y3 s1 k1;have lo:(stD 0 (v0 m t) :: tl (rO rs cd) L 0 (v0 m t)).getLastD .non=oD (ocP m (rO rs cd) L t):=by
   rw[ZdS Qj,Vf,Zd1];rfl
  have hL:=hf.l;have ll:(stD 0 (v0 m t) :: tl (rO rs cd) L 0 (v0 m t)).length<=100000:=by
   have:=UD (rs:=rO rs cd) (M:=L) (k:=0) (vs:=v0 m t);rw[aO];omega
  have rl:=ro.l;have y4:Y (run T (n+6)) s (.tupE (.aC (.ix (.v 3) (.neg (.c (.int 1)))) (.aC (.call 44 (.aC (.v 3) .aN) []) .aN))) [some (.dic bo),some (kdE cd),some (inD t),some (.tup (stD 0 (v0 m t) :: tl (rO rs cd) L 0 (v0 m t)))] (vlE m rs L (cd,t)):=.cons (by rw[<-lo];exact .lastT (.r rf) (dU _ _) ll) (.cons (.call1 (.r rf) (Zdg hL fun z hz=>by have:=ZcZ z hz;omega)) .nil)
  obtain⟨s3,e3,k3⟩:=y4 s2 (k1.trans k2);have g3:=k1.trans (k2.trans k3);obtain⟨s4,e4,k4⟩:=Y.fl (F:=run T (n+6)) (a:=.v 0) (ρ:=[some (.dic bo),some (kdE cd),some (inD t),some (.tup (stD 0 (v0 m t) :: tl (rO rs cd) L 0 (v0 m t)))]) hb.ob (.r rf) (f1 _).2.2.2.1 s3 g3;have g4:=g3.trans k4;have hk:=g4.get hb.ke;have ho:=g4.get hb.ob;have p5:dput kp (kyE (cd,t)) (vlE m rs L (cd,t)) s4=some (s4.set kp (true,(ks++[(cd,t)]).map (enE m rs L))):=by
   unfold dput;rw[hk];show(if ((Y7 (ks.map (enE m rs L))=false/\okN 8 (kyE (cd,t))=true)/\WZ (vlE m rs L (cd,t))=true)/\(ks.map (enE m rs L)).length < Zu/\(ks.map (enE m rs L)).any (Wx (kyE (cd,t)))=false then _ else none)=_
   rw[if_pos ⟨⟨⟨VS,VT⟩,rfl⟩,by rw[aB];unfold Zu;omega,by rw[V9,aE h]⟩,bG]
   rfl
  obtain⟨s5,es5⟩:∃ s5,s4.set kp (true,(ks++[(cd,t)]).map (enE m rs L))=s5:=⟨_,rfl⟩;have o5:s5[bo]?=some (true,.int 263 :: bkF tk m rs tr L kp (d0+ks.length)):=by rw[<-es5,Zk (Zd hk),if_neg (Ne.symm hb.ne)];exact ho
  have d5:s5[kp]?=some (true,(ks++[(cd,t)]).map (enE m rs L)):=by rw[<-es5,Zk (Zd hk),if_pos rfl]
  have kb5:Kb bo kp s4 s5:=by rw[<-es5];exact .setK
  rw[es5]at p5;have y6:Y (run T (n+6)) s5 (.bin .Add (.fld (S "done") (.v 0)) (.c (.int 1))) [some (.dic bo),some (kdE cd),some (inD t),some (.tup (stD 0 (v0 m t) :: tl (rO rs cd) L 0 (v0 m t)))] (.int ((d0+ks.length+1:Nat):Int)):=by
   rw[bQ];exact .add (.fl o5 (.r rf) (f1 _).2.2.2.2) (.r rf)
  obtain⟨s6,e6,k6⟩:=y6 s5 .refl;have o6:=k6.get o5;have p7:=YJ (f:=S "done") (i:=0) e6 rfl o6 (by show 5 < 900;decide)
  rw[Zbm]at p7;obtain⟨s7,es7⟩:∃ s7,s6.set bo (true,.int 263 :: bkF tk m rs tr L kp (d0+ks.length+1))=s7:=⟨_,rfl⟩;rw[es7]at p7;have b7:Bk tk m rs tr L bo kp d0 (ks++[(cd,t)]) s7:=by
   refine⟨?_,?_,hb.ne⟩
   ·rw[<-es7,Zk (Zd o6),if_pos rfl,aI];rfl
   ·rw[<-es7,Zk (Zd o6),if_neg hb.ne];exact k6.get d5
  have kb7:Kb bo kp s6 s7:=by rw[<-es7];exact .setB
  obtain⟨s8,e8,k8⟩:=fin (z:=some (.tup (stD 0 (v0 m t) :: tl (rO rs cd) L 0 (v0 m t)))) b7 (bI.mpr (.inr lQ7)) s7 .refl;exact⟨s8,Ye (v:=c_Book_outcome_of) rfl rfl ((Zc ((Yi e1).trans ((Zc (Zj e2)).trans ((Zc (ZeZ e3 e4 rfl p5)).trans ((Zc p7).trans Ze))))).trans (Zn (ZJ e8))),g4.kb.trans (kb5.trans (k6.kb.trans (kb7.trans k8.kb))),b7.grw k8⟩
theorem Xv{l:Li (Li Int)}:∀ {ks:Li Ky},(XC cd ks l).length<=ks.length+l.length:=by
 induction l with
 |nil=>intro ks;exact aD _
 |cons t l ih=>
  intro ks;have h1:(XC cd (Wt ks (cd,t)) l).length<=_:=ih;have h2:=VJ (ks:=ks) (k:=(cd,t));show(XC cd (Wt ks (cd,t)) l).length<=_;rw[aO];omega
theorem Zap(hf:Fit m rs tr L)(hc:Q1 rs cd){F:Nat->Fn}{g:D->Za->Res}(hg:∀ t ks s,t∈tr->ks.length < 900000->Bk tk m rs tr L bo kp d0 ks s->∃ st',g (inD t) s=some (oD (ocP m (rO rs cd) L t),st')/\Kb bo kp s st'/\Bk tk m rs tr L bo kp d0 (Wt ks (cd,t)) st'):∀ {l:Li (Li Int)}{ks:Li Ky}{s:Za},(∀ t∈l,t∈tr)->ks.length+l.length < 900000->Bk tk m rs tr L bo kp d0 ks s->∃ st',ZM (fun _=>True) g (fun _ st=>some (.bl true,st)) (l.map inD) s=some ((l.map (ocP m (rO rs cd) L)).map oD,st')/\Kb bo kp s st'/\Bk tk m rs tr L bo kp d0 (XC cd ks l) st'
 |[],ks,s,_,_,hb=>⟨s,if_pos trivial,Grw.refl.kb,hb⟩
 |t :: l,ks,s,hl,hn,hb=>by
  rw[aO]at hn;obtain⟨s1,e1,k1,b1⟩:=hg t ks s (hl t lQ7) (by omega) hb
  have h2:=VJ (ks:=ks) (k:=(cd,t));obtain⟨s2,e2,k2,b2⟩:=Zap hf hc (F:=F) hg (l:=l) (fun u hu=>hl u (lM7 _ hu)) (by omega) b1
  refine⟨s2,?_,k1.trans k2,b2⟩;rw[aL,ZM,if_pos trivial];simp only[e1,e2,aL]
theorem Q8(hn:ks.length < 800000)(hf:Fit m rs tr L)(hb:Bk tk m rs tr L bo kp d0 ks s)(hc:Q1 rs cd):∃ st' j,run T (n+8) 267 [.dic bo,kdE cd] s=some (.lst j,st')/\st'[j]?=some (true,(tr.map (ocP m (rO rs cd) L)).map oD)/\s.length<=j/\Kb bo kp s st'/\Bk tk m rs tr L bo kp d0 (XC cd ks tr) st':=by
 have tn:=hf.t.n;obtain⟨s1,e1,k1⟩:=Y.fl (F:=run T (n+7)) (a:=.v 0) (ρ:=[some (.dic bo),some (kdE cd)]) hb.ob (.r rf) (YU (tk:=tk) (m:=m) (rs:=rs) (tr:=tr) (L:=L) (kp:=kp) (dn:=d0+ks.length)).2.1 s .refl;obtain⟨s2,e2,k2,b2⟩:=Zap hf hc (F:=run T (n+7)) (g:=fun d s=>ev (run T (n+7)) (.meth [(263,266)] (.v 2) (.aC (.v 1) (.aC (.v 0) .aN))) (ZK one [some (.dic bo),some (kdE cd)] [1,0] d) s) (fun t ks s ht hn hb=>by
  obtain⟨s1,e1,k1,b1⟩:=Zde (n:=n) hn hf hb hc ht;exact⟨s1,(Xh (st':=s) hb.ob rfl rfl rfl).trans e1,k1,b1⟩) (l:=tr) (fun _ h=>h) (by omega) (hb.grw k1)
 refine⟨s2++[(true,(tr.map (ocP m (rO rs cd) L)).map oD)],s2.length,Ye (v:=c_Book_outcomes_of) rfl rfl (Zn (ZJ ?_)),Zl,aM k1.len k2.len,k1.kb.trans (k2.trans Grw.push.kb),b2.grw .push⟩;show ZX one (Yh false) [1,0] (ev (run T (n+7)) (.fld (S "trials") (.v 0))) (ev (run T (n+7)) (.meth [(263,266)] (.v 2) (.aC (.v 1) (.aC (.v 0) .aN)))) (ev (run T (n+7)) (.c (.bl true))) [some (.dic bo),some (kdE cd)] s=_
 unfold ZX;rw[e1];show(if (tr.map inD).length<=1000 then _ else none)=_
 rw[if_pos (by rw[aB];omega)]
 show(match ZM (fun _=>True) (fun d s=>ev (run T (n+7)) (.meth [(263,266)] (.v 2) (.aC (.v 1) (.aC (.v 0) .aN))) (ZK one [some (.dic bo),some (kdE cd)] [1,0] d) s) (fun _ st=>some (.bl true,st)) (tr.map inD) s1 with
  |some (ys,st2)=>some (D.lst st2.length,st2++[(true,ys)])
  |none=>none)=_
 rw[e2]
end
def Qs(tr:Li (Li Int))(ks:Li Ky)(l:Li (Nat×Rw)):Li Ky:=l.foldl (fun ks p=>XC (some p) ks tr) ks
section
variable {F:Nat->Fn}{s st st1 st2 st3 st4 st':Za}{e a b c:CE}{ρ ρ':Env}{d x y tk:D}{n w wa wb j j0 j1 m k i i0 L bo kp dn d0:Nat}{vs ins ns t:Li Int}{r:Rw}{rs rs':Li Rw}{xs ys acc ds es:Li D}{q:CS}{g f:Str}{bb:Bool}{tr:Li (Li Int)}{ks:Li Ky}{cd:Cd}
theorem Zac{l:Li (Nat×Rw)}:∀ {ks:Li Ky},(Qs tr ks l).length<=ks.length+l.length * tr.length:=by
 induction l with
 |nil=>intro ks;show ks.length<=_;omega
 |cons p l ih=>
  intro ks;have h1:(Qs tr (XC (some p) ks tr) l).length<=_:=ih;have h2:=Xv (cd:=some p) (ks:=ks) (l:=tr);show(Qs tr (XC (some p) ks tr) l).length<=_;rw[aO,Nat.add_mul];omega
theorem Jh{c1:Z4}{b0:Bool}(hf:Fit m rs tr L){g:D->Za->Res}(hg:∀ p ks s,p∈cdL rs->ks.length < 800000->Bk tk m rs tr L bo kp d0 ks s->s[j0]?=some (b0,(tr.map (ocP m rs L)).map oD)->∃ st',g (kdE (some p)) s=some (.int (btL m rs L tr p:Int),st')/\Kb bo kp s st'/\Bk tk m rs tr L bo kp d0 (XC (some p) ks tr) st')(hj:j0≠bo/\j0≠kp/\j1≠bo/\j1≠kp):∀ {l:Li (Nat×Rw)}{ks:Li Ky}{s:Za},(∀ p∈l,p∈cdL rs)->ks.length+l.length * tr.length < 800000->Bk tk m rs tr L bo kp d0 ks s->s[j0]?=some (b0,(tr.map (ocP m rs L)).map oD)->s[j1]?=some c1->∃ st',ZM (fun s=>s[j1]?=some c1) g (fun _ st=>some (.bl true,st)) (l.map fun p=>kdE (some p)) s=some (l.map fun p=>.int (btL m rs L tr p:Int),st')/\Kb bo kp s st'/\Bk tk m rs tr L bo kp d0 (Qs tr ks l) st'
 |[],ks,s,_,_,hb,h0,h1=>⟨s,if_pos h1,Grw.refl.kb,hb⟩
 |p :: l,ks,s,hl,hn,hb,h0,h1=>by
  rw[aO,Nat.add_mul]at hn;obtain⟨s1,e1,k1,b1⟩:=hg p ks s (hl p lQ7) (by omega) hb h0
  have h2:=Xv (cd:=some p) (ks:=ks) (l:=tr);obtain⟨s2,e2,k2,b2⟩:=Jh hf hg hj (l:=l) (fun u hu=>hl u (lM7 _ hu)) (by omega) b1 (k1.get h0 hj.1 hj.2.1) (k1.get h1 hj.2.2.1 hj.2.2.2)
  refine⟨s2,?_,k1.trans k2,b2⟩;rw[aL,ZM,if_pos h1];simp only[e1,e2,aL]
def Qr(rs:Li Rw)(tr:Li (Li Int))(ks:Li Ky):Li Ky:=Qs tr (XC none ks tr) (cdL rs)
theorem Zc7(hn:ks.length < 700000)(hf:Fit m rs tr L)(hb:Bk tk m rs tr L bo kp d0 ks s):∃ st',run T (n+9) 268 [.dic bo] s=some (.tup ((cdL rs).map fun p=>.int (btL m rs L tr p:Int)),st')/\Kb bo kp s st'/\Bk tk m rs tr L bo kp d0 (Qr rs tr ks) st':=by
 have tn:=hf.t.n;have fl:=Xr (rs:=rs);have rl:=hf.r.l;have cl:(cdL rs).length<=600:=by unfold cdL;rw[aB];omega
 have cm:(cdL rs).length * tr.length<=600 * 11:=Nat.mul_le_mul cl tn;have l1:=Zd hb.ob;have l2:=Zd hb.ke;obtain⟨s1,j0,e1,h1,g1,k1,b1⟩:=Q8 (n:=n) (cd:=none) (by omega) hf hb trivial
 have p1:ex (run T (n+8)) (.set 1 (.meth [(263,267)] (.v 0) (.aC (.c (.tup [])) .aN))) [some (.dic bo),none] s=some (.nx [some (.dic bo),some (.lst j0)],s1):=Zj ((Xh (st':=s) hb.ob rfl rfl rfl).trans e1);obtain⟨s2,e2,k2⟩:=Y.fl (F:=run T (n+8)) (a:=.v 0) (ρ:=[some (.dic bo),some (.lst j0)]) b1.ob (.r rf) (YU (tk:=tk) (m:=m) (rs:=rs) (tr:=tr) (L:=L) (kp:=kp) (dn:=d0+(XC none ks tr).length)).1 s1 .refl
 obtain⟨s3,j1,e3,h3,k3,l3⟩:=UI (n:=n+3) (tk:=tk) hf.r s2 (.refl:Grw s2 s2);have c3:ev (run T (n+8)) (.call 262 (.aC (.fld (S "program") (.v 0)) .aN) []) [some (.dic bo),some (.lst j0)] s1=some (.lst j1,s3):=by
  show Zo (Zv (ev (run T (n+8)) (.fld (S "program") (.v 0))) (ev (run T (n+8)) .aN) Y9) (XO (run T (n+8) 262) []) [some (.dic bo),some (.lst j0)] s1=_;unfold Zo Zv;rw[e2];exact e3
 have b3:=b1.grw (k2.trans k3);have q1:=k1.len;have q2:=k2.len;have la:=Xv (cd:=none) (ks:=ks) (l:=tr);obtain⟨s4,e4,k4,b4⟩:=Jh (g:=fun d s=>ev (run T (n+8)) (.call 183 (.aC (.v 1) (.aC (.meth [(263,267)] (.v 2) (.aC (.v 0) .aN)) .aN)) []) (ZK one [some (.dic bo),some (.lst j0)] [1,0] d) s) (j0:=j0) (j1:=j1) (b0:=true) hf (fun p ks s hp hn hb h0=>by
  have l1:=Zd hb.ob;have l2:=Zd hb.ke;obtain⟨s5,j5,e5,h5,g5,k5,b5⟩:=Q8 (n:=n) (cd:=some p) hn hf hb hp;have h0':=k5.get h0 (by omega) (by omega)
  obtain⟨s6,e6,k6⟩:=Zf2 (n:=n+7) (os:=tr.map (ocP m rs L)) (pq:=tr.map (ocP m (rs.set p.1 p.2) L)) h0' h5 s5 .refl;refine⟨s6,?_,k5.trans k6.kb,b5.grw k6⟩;have m5:ev (run T (n+8)) (.meth [(263,267)] (.v 2) (.aC (.v 0) .aN)) [some (kdE (some p)),some (.lst j0),some (.dic bo)] s=some (.lst j5,s5):=(Xh (st':=s) hb.ob rfl rfl rfl).trans e5;show Zo (Zv (ev (run T (n+8)) (.v 1)) (Zv (ev (run T (n+8)) (.meth [(263,267)] (.v 2) (.aC (.v 0) .aN))) (ev (run T (n+8)) .aN) Y9) Y9) (XO (run T (n+8) 183) []) [some (kdE (some p)),some (.lst j0),some (.dic bo)] s=_
  unfold Zo Zv;rw[show ev (run T (n+8)) (CE.v 1) [some (kdE (some p)),some (D.lst j0),some (D.dic bo)] s=some (.lst j0,s) from rfl];dsimp only;rw[m5];exact e6) ⟨by omega,by omega,by omega,by omega⟩ (l:=cdL rs) (fun _ h=>h) (by omega) b3 ((k2.trans k3).get h1) h3
 have c4:ev (run T (n+8)) Xa [some (.dic bo),some (.lst j0)] s1=some (.lst s4.length,s4++[(true,(cdL rs).map fun p=>.int (btL m rs L tr p:Int))]):=by
  show ZX one (Yh false) [1,0] (ev (run T (n+8)) (.call 262 (.aC (.fld (S "program") (.v 0)) .aN) [])) (ev (run T (n+8)) (.call 183 (.aC (.v 1) (.aC (.meth [(263,267)] (.v 2) (.aC (.v 0) .aN)) .aN)) [])) (ev (run T (n+8)) (.c (.bl true))) [some (.dic bo),some (.lst j0)] s1=_;unfold ZX;rw[c3];have wk:Yh false (.lst j1) s3=some ((cdL rs).map fun p=>kdE (some p),fun s=>s[j1]?=some (true,(cdL rs).map fun p=>kdE (some p))):=by
   show(match s3[j1]? with
    |some c=>some (c.2,fun(s:Za)=>s[j1]?=some c)
    |none=>none)=_
   rw[h3]
  simp only[wk];rw[if_pos (by rw[aB];omega)]
  show(match ZM (fun s=>s[j1]?=some (true,(cdL rs).map fun p=>kdE (some p))) (fun d s=>ev (run T (n+8)) (.call 183 (.aC (.v 1) (.aC (.meth [(263,267)] (.v 2) (.aC (.v 0) .aN)) .aN)) []) (ZK one [some (.dic bo),some (.lst j0)] [1,0] d) s) (fun _ st=>some (.bl true,st)) ((cdL rs).map fun p=>kdE (some p)) s3 with
   |some (ys,st2)=>some (D.lst st2.length,st2++[(true,ys)])
   |none=>none)=_
  rw[e4]
 exact⟨_,Ye (v:=c_Book_bits) rfl rfl ((Zc p1).trans (Zn (ZJ (Yn c4 Zl)))),k1.trans ((k2.trans k3).kb.trans (k4.trans Grw.push.kb)),b4.grw .push⟩
theorem Zdf(hb:Bk tk m rs tr L bo kp d0 ks s):C (run T (n+1)) s 269 [.dic bo] (.int ((d0+ks.length:Nat):Int)):=.of (v:=c_Book_runs) rfl rfl (.ret (.fl hb.ob (.r rf) YU.2.2.2.2))
theorem Ze7(hb:Bk tk m rs tr L bo kp d0 ks s):C (run T (n+1)) s 270 [.dic bo] (pgD tk m rs):=.of (v:=c_Book_now) rfl rfl (.ret (.fl hb.ob (.r rf) YU.1))
end
section
variable {F:Nat->Fn}{s st st1 st2 st3 st4 st':Za}{e a b c:CE}{ρ ρ':Env}{d x y tk:D}{n w wa wb wt j j0 j1 m k i i0 L bo kp dn d0:Nat}{vs ins ns t:Li Int}{r:Rw}{rs rs':Li Rw}{xs ys acc ds es:Li D}{q:CS}{g f:Str}{bb:Bool}{tr l:Li (Li Int)}{ks:Li Ky}{cd:Cd}{z:Ky}
theorem ZdF{v1 v2 v3 v4 v5:D}:Z2 (S "program") v1 []=[.tup [.str (S "program"),v1]]/\Z2 (S "trials") v2 [.tup [.str (S "program"),v1]]=[.tup [.str (S "program"),v1],.tup [.str (S "trials"),v2]]/\Z2 (S "limit") v3 [.tup [.str (S "program"),v1],.tup [.str (S "trials"),v2]]=[.tup [.str (S "program"),v1],.tup [.str (S "trials"),v2],.tup [.str (S "limit"),v3]]/\Z2 (S "kept") v4 [.tup [.str (S "program"),v1],.tup [.str (S "trials"),v2],.tup [.str (S "limit"),v3]]=[.tup [.str (S "program"),v1],.tup [.str (S "trials"),v2],.tup [.str (S "limit"),v3],.tup [.str (S "kept"),v4]]/\Z2 (S "done") v5 [.tup [.str (S "program"),v1],.tup [.str (S "trials"),v2],.tup [.str (S "limit"),v3],.tup [.str (S "kept"),v4]]=[.tup [.str (S "program"),v1],.tup [.str (S "trials"),v2],.tup [.str (S "limit"),v3],.tup [.str (S "kept"),v4],.tup [.str (S "done"),v5]]:=by
 have n1:decide (S "program"=S "trials")=false/\decide (S "program"=S "limit")=false/\decide (S "program"=S "kept")=false/\decide (S "program"=S "done")=false/\decide (S "trials"=S "limit")=false/\decide (S "trials"=S "kept")=false/\decide (S "trials"=S "done")=false/\decide (S "limit"=S "kept")=false/\decide (S "limit"=S "done")=false/\decide (S "kept"=S "done")=false:=by decide +kernel
 obtain⟨a1,a2,a3,a4,a5,a6,a7,a8,a9,a10⟩:=n1;refine⟨rfl,?_,?_,?_,?_⟩<;>simp only[Z2,isK,a1,a2,a3,a4,a5,a6,a7,a8,a9,a10,cH,if_false]
theorem Zc9(ht:tr.length<=10)(hs:st[bo]?=some (true,[.int 263])):∃ st' kp,run T (n+2) 264 [.dic bo,pgD tk m rs,.tup (tr.map inD),.int (L:Int)] st=some (.non,st')/\Kj bo st st'/\Bk tk m rs tr L bo kp 0 [] st'/\st.length<=kp:=by
 obtain⟨s1,e1,k1⟩:=Y.call1 (F:=run T (n+1)) (s:=st) (a:=.v 2) (ρ:=[some (.dic bo),some (pgD tk m rs),some (.tup (tr.map inD)),some (.int (L:Int))]) (.r rf) (UH (n:=n) (s:=st) (xs:=tr.map inD) (by rw[aB];exact ht)) st .refl
 have o1:=k1.get hs;have st1:∀ {s:Za}{c c':Z4},s[bo]?=some c->(s.set bo c')[bo]?=some c':=fun h=>by rw[Zk (Zd h),if_pos rfl]
 have kj:∀ {s:Za}{c':Z4},Kj bo s (s.set bo c'):=fun {s c'}=>⟨fun i _ h=>by rw[bJ (Ne.symm h)],by rw[aY];exact aD _⟩
 obtain⟨s4,es4⟩:∃ s4,((s1.set bo (true,[.int 263,.tup [.str (S "program"),pgD tk m rs]])).set bo (true,[.int 263,.tup [.str (S "program"),pgD tk m rs],.tup [.str (S "trials"),.tup (tr.map inD)]])).set bo (true,[.int 263,.tup [.str (S "program"),pgD tk m rs],.tup [.str (S "trials"),.tup (tr.map inD)],.tup [.str (S "limit"),.int (L:Int)]])=s4:=⟨_,rfl⟩;obtain⟨f1,f2,f3,f4,f5⟩:=ZdF (v1:=pgD tk m rs) (v2:=.tup (tr.map inD)) (v3:=.int (L:Int)) (v4:=.dic s4.length) (v5:=.int ((0:Nat):Int))
 have p2:=YJ (F:=run T (n+1)) (ρ:=[some (.dic bo),some (pgD tk m rs),some (.tup (tr.map inD)),some (.int (L:Int))]) (i:=0) (f:=S "program") (e:=.v 1) (st:=s1) rfl rfl o1 (by decide)
 rw[f1]at p2;have o2:=st1 (c':=(true,[.int 263,.tup [.str (S "program"),pgD tk m rs]])) o1;have p3:=YJ (F:=run T (n+1)) (ρ:=[some (.dic bo),some (pgD tk m rs),some (.tup (tr.map inD)),some (.int (L:Int))]) (i:=0) (f:=S "trials") (e:=.v 2) rfl rfl o2 (by show 1 < 900;decide)
 rw[f2]at p3;have o3:=st1 (c':=(true,[.int 263,.tup [.str (S "program"),pgD tk m rs],.tup [.str (S "trials"),.tup (tr.map inD)]])) o2;have p4:=YJ (F:=run T (n+1)) (ρ:=[some (.dic bo),some (pgD tk m rs),some (.tup (tr.map inD)),some (.int (L:Int))]) (i:=0) (f:=S "limit") (e:=.v 3) rfl rfl o3 (by show 2 < 900;decide)
 rw[f3]at p4;have o4:=st1 (c':=(true,[.int 263,.tup [.str (S "program"),pgD tk m rs],.tup [.str (S "trials"),.tup (tr.map inD)],.tup [.str (S "limit"),.int (L:Int)]])) o3;rw[es4]at p4 o4;have p5:=YJ (F:=run T (n+1)) (ρ:=[some (.dic bo),some (pgD tk m rs),some (.tup (tr.map inD)),some (.int (L:Int))]) (i:=0) (f:=S "kept") (e:=.dnew) (st:=s4) (d:=.dic s4.length) (st1:=s4++[(true,[])]) rfl rfl (Grw.push.get o4) (by show 3 < 900;decide)
 rw[f4]at p5;have o5:=st1 (c':=(true,[.int 263,.tup [.str (S "program"),pgD tk m rs],.tup [.str (S "trials"),.tup (tr.map inD)],.tup [.str (S "limit"),.int (L:Int)],.tup [.str (S "kept"),.dic s4.length]])) ((Grw.push (t:=(true,[]))).get o4);have p6:=YJ (F:=run T (n+1)) (ρ:=[some (.dic bo),some (pgD tk m rs),some (.tup (tr.map inD)),some (.int (L:Int))]) (i:=0) (f:=S "done") (e:=.c (.int 0)) rfl rfl o5 (by show 4 < 900;decide)
 rw[show D.int 0=.int ((0:Nat):Int) from rfl,f5]at p6;have o6:=st1 (c':=(true,.int 263 :: bkF tk m rs tr L s4.length 0)) o5;have l4:=Zd o4;have kk:Kj bo s1 s4:=by rw[<-es4];exact kj.trans (kj.trans kj)
 refine⟨_,s4.length,ZbY (v:=c_Book___init__) rfl rfl ((Zc (Zc5 e1)).trans ((Zc p2).trans ((Zc p3).trans ((Zc p4).trans ((Zc p5).trans ((Zc p6).trans Ze)))))),k1.kj.trans (kk.trans ((Grw.push (t:=(true,[]))).kj.trans (kj.trans kj))),⟨o6,?_,by omega⟩,aM k1.len kk.len⟩
 rw[bJ (by omega),bJ (by omega)]
 exact Zl
theorem ZfG(ht:tr.length<=10)(e1:ev (run T (n+2)) a ρ st=some (.tup xs,st1))(hx:xs++ds=[pgD tk m rs,.tup (tr.map inD),.int (L:Int)]):∃ st' kp,ev (run T (n+2)) (.mk 263 264 a ds) ρ st=some (.dic st1.length,st')/\Grw st1 st'/\Bk tk m rs tr L st1.length kp 0 [] st'/\st1.length<=kp:=by
 obtain⟨s2,kp,e2,k2,b2,l2⟩:=Zc9 (n:=n) (tk:=tk) (m:=m) (rs:=rs) (L:=L) (bo:=st1.length) ht (Zl (s:=st1) (t:=(true,[.int 263])));refine⟨s2,kp,?_,k2.grw (aD _) .push,b2,?_⟩
 ·show Zo (ev (run T (n+2)) a) (mkR (run T (n+2)) 263 264 ds) ρ st=_
  unfold Zo;rw[e1];show(match run T (n+2) 264 (.dic st1.length :: (xs++ds)) (st1++[(true,[.int 263])]) with
   |some (.non,st')=>some (D.dic st1.length,st')
   |_=>none)=_
  rw[hx,e2]
 ·rw[aI]at l2;omega
end
section
variable {F:Nat->Fn}{s st st1 st2 st':Za}{e a b c:CE}{ρ ρ':Env}{d x y tk:D}{n w wa wb wt j m k i i0 L bo kp dn d0:Nat}{vs ins ns t:Li Int}{r:Rw}{rs rs':Li Rw}{xs ys acc ds es:Li D}{q:CS}{g f:Str}{bb:Bool}{tr l:Li (Li Int)}{ks:Li Ky}{cd:Cd}{z:Ky}
theorem UL{α:Type}[DecidableEq α]{en:α->D}(inj:∀ a b,en a=en b->a=b)(self:∀ a,Zr (en a) (en a)=true){x:α}:∀ {l:Li α},(l.map en).any (fun d=>Zr d (en x))=decide (x∈l)
 |[]=>rfl
 |a :: l=>by
  have:Zr (en a) (en x)=decide (a=x):=by
   by_cases h:a=x
   ·rw[h,aH rfl];exact self x
   ·rw[aE h]
    cases q:Zr (en a) (en x) with
    |false=>rfl
    |true=>exact absurd (inj _ _ (Ud q)) h
  rw[aL,cF,UL inj self,this,<-dO];exact decide_eq_decide.mpr ⟨fun h=>aG.mpr (h.imp Eq.symm id),fun h=>(aG.mp h).imp Eq.symm id⟩
theorem Wp{α:Type}{en:α->D}{n:Nat}(h:∀ a,okD n (en a)=true):∀ {l:Li α},ZT n (l.map en)=true
 |[]=>rfl
 |a :: l=>by
  show(okD n (en a)&&ZT n (l.map en))=true;rw[h,Wp h];rfl
structure En{α:Type}[DecidableEq α](en:α->D):Prop where
 inj:∀ a b,en a=en b->a=b
 self:∀ a,Zr (en a) (en a)=true
 ok:∀ a,okD 8 (en a)=true
 tp:∀ a,∃ xs,en a=.tup xs
theorem ZdM[DecidableEq α]{en:α->D}(E:En en){x:α}{l:Li α}[Decidable (x∈l)]{q:Nat}(h:st[q]?=some (bb,l.map en)):inS st (en x) (.lst q)=some (decide (x∈l)):=by
 obtain⟨xs,hx⟩:=E.tp x;have ok:=E.ok x;have an:=UL E.inj E.self (x:=x) (l:=l);rw[hx]at ok an ⊢;show(match st[q]? with
  |some (_,ys)=>if okD 8 (.tup xs)&&ZT 8 ys then some (ys.any fun d=>Zr d (.tup xs)) else none
  |none=>none)=_
 rw[h];show(if okD 8 (.tup xs)&&ZT 8 (l.map en) then some ((l.map en).any fun d=>Zr d (.tup xs)) else none)=_
 rw[ok,Wp E.ok,an];exact congrArg some (decide_eq_decide.mpr Iff.rfl)
theorem Y.inE[DecidableEq α]{en:α->D}(E:En en){x:α}{l:Li α}[Decidable (x∈l)](ha:Y F s a ρ (en x))(hb:Lv s (ev F b ρ) (l.map en)):Y F s (.cmp .In a b) ρ (.bl (decide (x∈l))):=fun st g=>by
 obtain⟨s1,e1,k1⟩:=ha st g;obtain⟨s2,q,bb,e2,h2,k2⟩:=hb s1 (g.trans k1);refine⟨s2,?_,k1.trans k2⟩;show Zv (ev F a) (ev F b) (Ya .In) ρ st=_;unfold Zv;simp only[e1,e2];unfold Ya;rw[show X6 .In (en x) (.lst q) s2=inS s2 (en x) (.lst q) from rfl,ZdM E h2]
theorem U0{k:Int}:∀ {l:Li Int},Yd k (l.map D.int)=some (decide (k∈l))
 |[]=>rfl
 |x :: M=>by
  show(Yd k (M.map D.int)).map (fun b=>decide (x=k)||b)=_
  rw[U0];show some (decide (x=k)||decide (k∈M))=_;rw[<-dO];exact congrArg some (decide_eq_decide.mpr ⟨fun h=>aG.mpr (h.imp Eq.symm id),fun h=>(aG.mp h).imp Eq.symm id⟩)
theorem Y.inN{l:Li Nat}(ha:Y F s a ρ (.int (k:Int)))(hb:Lv s (ev F b ρ) (inN l)):Y F s (.cmp .In a b) ρ (.bl (decide (k∈l))):=fun st g=>by
 obtain⟨s1,e1,k1⟩:=ha st g;obtain⟨s2,q,bb,e2,h2,k2⟩:=hb s1 (g.trans k1);refine⟨s2,?_,k1.trans k2⟩;show Zv (ev F a) (ev F b) (Ya .In) ρ st=_;unfold Zv;simp only[e1,e2];unfold Ya;have:X6 .In (.int (k:Int)) (.lst q) s2=some (decide (k∈l)):=by
  show(match s2[q]? with
   |some (_,xs)=>Yd (k:Int) xs
   |none=>none)=_
  rw[h2];show Yd (k:Int) (Dp.inN l)=_;rw[show Dp.inN l=(l.map fun(k:Nat)=>(k:Int)).map D.int by unfold Dp.inN;rw[bN];rfl,U0]
  exact congrArg some (decide_eq_decide.mpr ⟨fun h=>by obtain⟨z,hz,e⟩:=bB.mp h;rw[<-Int.ofNat.inj e];exact hz,fun h=>bB.mpr ⟨k,h,rfl⟩⟩)
 rw[this]
theorem Zd3:okD (n+1) (opE o)=true:=by cases o<;>cases n<;>rfl
theorem Us{r:Rw}:okD (n+2) (rwE r)=true:=by
 have h:∀ {o:Op},okD (n+1) (opE o)=true:=Zd3;cases r with
 |put x y g z=>show(true&&(true&&(okD (n+1) (opE y)&&(true&&(okD (n+1) (opE z)&&true)))))=true;rw[h,h];rfl
 |ifr y g z t=>show(true&&(okD (n+1) (opE y)&&(true&&(okD (n+1) (opE z)&&(true&&true)))))=true;rw[h,h];rfl
 |tell y=>show(true&&(okD (n+1) (opE y)&&true))=true;rw[h];rfl
 |_=>rfl
theorem En.rw:En rwE:=⟨fun _ _=>Uz,fun a=>Xn (n:=8) Zan,fun a=>Us,fun r=>by cases r<;>exact⟨_,rfl⟩⟩
theorem En.code:En (fun p:Nat×Rw=>kdE (some p)):=⟨fun a b h=>by
  have h:D.tup [.int (a.1:Int),rwE a.2]=.tup [.int (b.1:Int),rwE b.2]:=h
  injection h with h;injection h with h1 h;injection h with h2 _;injection h1 with h1
  exact Prod.ext (Int.ofNat.inj h1) (Uz h2),fun p=>Xn (n:=8) (by show(true&&(okN 7 (rwE p.2)&&true))=true;rw[Zan];rfl),fun p=>by show(true&&(okD 7 (rwE p.2)&&true))=true;rw[Us];rfl,fun p=>⟨_,rfl⟩⟩
theorem Za8{l:Li Nat}:∀ {b:Nat},(l.foldl (fun b k=>b ||| 2 ^ k) b).testBit k=(b.testBit k||decide (k∈l)):=by
 induction l with
 |nil=>intro b;rw[aE (fun h=>nomatch h),dA];rfl
 |cons x l ih=>
  intro b;show(l.foldl _ (b ||| 2 ^ x)).testBit k=_;rw[ih,Nat.testBit_or,Nat.testBit_two_pow,Bool.or_assoc,<-dO];exact congrArg _ (decide_eq_decide.mpr ⟨fun h=>aG.mpr (h.imp Eq.symm id),fun h=>(aG.mp h).imp Eq.symm id⟩)
theorem Za3{a:Nat}:decide (((a &&& 2 ^ k:Nat):Int)=0)=!a.testBit k:=by
 have:(a &&& 2 ^ k=0)↔a.testBit k=false:=by
  constructor
  ·intro h
   have:=congrArg (fun z=>z.testBit k) h
   simp only[Nat.testBit_and,Nat.testBit_two_pow_self,dH,Nat.zero_testBit]at this;exact this
  ·intro h
   refine Nat.eq_of_testBit_eq fun i=>?_
   rw[Nat.testBit_and,Nat.testBit_two_pow,Nat.zero_testBit];by_cases c:k=i
   ·rw[<-c,h];rfl
   ·rw[aE c,cG]
 cases q:a.testBit k with
 |false=>rw[aH (by rw[this.mpr q];rfl)];rfl
 |true=>rw[aE (fun h=>by have:=this.mp (Int.ofNat.inj h);rw[q]at this;cases this)];rfl
theorem Ze5{l:Li Nat}(hk:k<=60):C (run T (n+2)) s 114 [.int (ZC l:Int),.int (k:Int)] (.bl (decide (k∈l))):=by
 have h1:Y (run T (n+1)) s (.bin .BitAnd (.v 0) (.call 43 (.aC (.v 1) .aN) [])) [some (.int (ZC l:Int)),some (.int (k:Int))] (.int ((ZC l &&& 2 ^ k:Nat):Int)):=.bi (.r rf) (.call1 (.r rf) (Zcx hk)) (by
  show(if 0<=(ZC l:Int)/\0<=((2 ^ k:Nat):Int) then some ((((ZC l:Int)).toNat &&& ((2 ^ k:Nat):Int).toNat:Nat):Int) else if 0<=(ZC l:Int)/\((2 ^ k:Nat):Int) < 0 then some ((ZC l:Int) - (((ZC l:Int).toNat &&& (-((2 ^ k:Nat):Int) - 1).toNat:Nat):Int)) else none)=_
  rw[if_pos ⟨dW _,dW _⟩,aZ,aZ])
 exact .of (v:=c_has_bit) rfl rfl (.ret (.cmp h1 (.r rf) fun st=>by
  show(some (decide (((ZC l &&& 2 ^ k:Nat):Int)=0))).map Bool.not=_;rw[Za3];unfold ZC;rw[Za8,Nat.zero_testBit,Bool.false_or];show some (!!decide (k∈l))=_;rw[Bool.not_not]))
def stB(rs':Li Rw)(k:Nat)(l:Li Nat):Cd->Bool
 |none=>!decide (k∈l)
 |some p=>decide (p∈cdL rs')&&(decide (p.1=k)||!decide (k∈l))
theorem ZdC:∀ {cd:Cd},eqS st (kdE cd) (.tup [])=some cd.isNone
 |none=>rfl
 |some p=>by
  show(match (if okD 8 (.tup [.int (p.1:Int),rwE p.2])&&okD 8 (.tup []) then some (Zw [.int (p.1:Int),rwE p.2] []) else none) with
   |some k=>some k
   |none=>Qc st [.int (p.1:Int),rwE p.2] [])=_
  rw[show okD 8 (.tup [.int (p.1:Int),rwE p.2])=true from En.code.ok p];rfl
theorem ZaZ{l:Li Nat}(hk:k<=60)(hw:s[w]?=some (bb,(cdL rs').map fun p=>kdE (some p))):C (run T (n+3)) s 273 [kdE cd,.int (ZC l:Int),.int (k:Int),.lst w] (.bl (stB rs' k l cd)):=by
 have hb:∀ {x:D},Y (run T (n+2)) s (.not (.call 114 (.aC (.v 1) (.aC (.v 2) .aN)) [])) [some x,some (.int (ZC l:Int)),some (.int (k:Int)),some (.lst w)] (.bl (!decide (k∈l))):=.not (.call (xs:=[.int (ZC l:Int),.int (k:Int)]) (.r rf) (Ze5 hk));have c0:Y (run T (n+2)) s (.cmp .Eq (.v 0) (.c (.tup []))) [some (kdE cd),some (.int (ZC l:Int)),some (.int (k:Int)),some (.lst w)] (.bl cd.isNone):=.cmp (.r rf) (.r rf) fun st=>ZdC
 cases cd with
 |none=>exact .of (v:=c_stays) rfl rfl (.yes c0 hb)
 |some p=>exact .of (v:=c_stays) rfl rfl (.no c0 (.ret (.and (.inE En.code (x:=p) (.r rf) (.v hw (.r rf))) fun _=>.or (.cmp (.ixt (j:=0) (xs:=[.int (p.1:Int),rwE p.2]) (.r rf) (.r rf) rfl) (.r rf) fun st=>by
   show some (decide ((p.1:Int)=(k:Int)))=_;exact congrArg some (decide_eq_decide.mpr (by omega))) fun _=>hb)))
end
section
variable {F:Nat->Fn}{s st st1 st2 st':Za}{e a b c:CE}{ρ ρ':Env}{d x y tk:D}{n w wa wb wt wc j m k i i0 L bo kp dn d0:Nat}{vs ins ns t:Li Int}{r:Rw}{rs rs':Li Rw}{xs ys acc ds es:Li D}{q:CS}{g f:Str}{bb:Bool}{tr l:Li (Li Int)}{ks:Li Ky}{cd:Cd}{z:Ky}
theorem Vb:∀ {n p:Nat}{vs:Li Int},k∉sn rs n p vs->ocO (rs.set k r) n p vs=ocO rs n p vs/\sn (rs.set k r) n p vs=sn rs n p vs
 |0,p,vs,_=>by
  refine⟨?_,rfl⟩;unfold ocO;rw[aY]
 |n+1,p,vs,h=>by
  unfold sn at h;cases q:rs[p]? with
  |none=>
   have q':(rs.set k r)[p]?=none:=by rw[cU,aY];exact cU.mp q
   have m1:mv rs p vs=.inl noD:=by unfold mv;rw[q]
   have m2:mv (rs.set k r) p vs=.inl noD:=by unfold mv;rw[q']
   unfold ocO sn;rw[q,q',m1,m2,aY];exact⟨rfl,rfl⟩
  |some x=>
   have hp:=Zd q;have hne:k≠p:=fun e=>by
    subst e;cases c:mv rs k vs with
    |inl o=>
     rw[c]at h;have h:k∉if rs.length<=k then [] else [k]:=h
     rw[if_neg (by omega)]at h
     exact h lQ7
    |inr u=>rw[c]at h;exact h lQ7
   have q':(rs.set k r)[p]?=some x:=by rw[bJ hne];exact q
   have me:mv (rs.set k r) p vs=mv rs p vs:=by unfold mv;rw[q,q']
   cases c:mv rs p vs with
   |inl o=>
    unfold ocO sn;rw[me,c,q,q',aY];cases x with
    |tell y=>exact⟨rfl,rfl⟩
    |_=>unfold mv at c;rw[q]at c;cases c
   |inr u=>
    rw[c]at h;have ih:=Vb (n:=n) (p:=u.1) (vs:=u.2) fun z=>h (lM7 _ z)
    have eu:∀ {rs':Li Rw},rs'[p]?=some x->ocO rs' (n+1) p vs=ocO rs' n u.1 u.2:=fun {rs'} e=>by
     show(match rs'[p]? with
      |none=>Oc.no
      |some (.tell y)=>.te (woI vs y)
      |some r=>ocO rs' n (pkN p vs r) (vsN vs r))=_
     rw[e];unfold mv at c;rw[q]at c;cases x with
     |tell y=>cases c
     |_=>cases c;rfl
    refine⟨by rw[eu q,eu q',ih.1],?_⟩
    unfold sn;rw[me,c];show p :: sn (rs.set k r) n u.1 u.2=p :: _;rw[ih.2]
theorem Zey{p:Nat×Rw}:rO (rs.set k r) (some p)=if p.1=k then rO rs (some p) else (rO rs (some p)).set k r:=by
 show(rs.set k r).set p.1 p.2=if p.1=k then rs.set p.1 p.2 else (rs.set p.1 p.2).set k r
 by_cases h:p.1=k
 ·rw[if_pos h,h,List.set_set]
 ·rw[if_neg h,List.set_comm _ _ (Ne.symm h)]
theorem Zcs(h:stB rs' k (snP m (rO rs cd) L t) cd=true):ocP m (rO (rs.set k r) cd) L t=ocP m (rO rs cd) L t/\snP m (rO (rs.set k r) cd) L t=snP m (rO rs cd) L t:=by
 cases cd with
 |none=>
  have h:(!decide (k∈snP m rs L t))=true:=h;rw[cT,decide_eq_false_iff_not]at h;exact Vb h
 |some p=>
  have h:(decide (p∈cdL rs')&&(decide (p.1=k)||!decide (k∈snP m (rO rs (some p)) L t)))=true:=h;rw[bA7,bW,decide_eq_true_iff,cT,decide_eq_false_iff_not]at h;rw[Zey];by_cases c:p.1=k
  ·rw[if_pos c];exact⟨rfl,rfl⟩
  ·rw[if_neg c]
   exact Vb (h.2.resolve_left fun z=>c (of_decide_eq_true z))
def stP(m:Nat)(rs:Li Rw)(L k:Nat)(r:Rw)(z:Ky):Bool:=stB (rs.set k r) k (snP m (rO rs z.1) L z.2) z.1
theorem Zbj(h:stP m rs L k r z=true):enE m rs L z=enE m (rs.set k r) L z:=by
 have:=Zcs (m:=m) (L:=L) (r:=r) h;unfold enE vlE;rw[this.1,show sn (rO (rs.set k r) z.1) L 0 (v0 m z.2)=sn (rO rs z.1) L 0 (v0 m z.2) from this.2]
theorem Jv:∀ {ks:Li Ky},(ks.filter (stP m rs L k r)).map (enE m rs L)=(ks.filter (stP m rs L k r)).map (enE m (rs.set k r) L):=List.map_congr_left fun z hz=>Zbj (cW.mp hz).2
theorem J7:∀ {ks:Li Ky},(ks.map (enE m rs L)).filterMap itQ=ks.map fun z=>(kyE z,vlE m rs L z)
 |[]=>rfl
 |z :: ks=>by rw[aL,aL,<-J7];rfl
abbrev chE(bo k:Nat)(r:Rw)(wc w:Nat)(x y:Ot D):Env:=[some (.dic bo),some (.int (k:Int)),some (rwE r),some (.lst wc),some (.dic w),x,y]
def fiB:CS->CS
 |.seq _ (.seq _ (.seq _ (.seq (.forI _ _ _ b) _)))=>b
 |_=>.skip
def chB:CS:=fiB c_Book_change.body
theorem Ze0{ks:Li D}(e1:ev F e ρ st=some (d,st1))(hi:ρ[i0]?=some (some (.dic w)))(e2:ev F a ρ st1=some (.tup ks,st2))(h:dput w (.tup ks) d st2=some st'):ex F (.put i0 a e) ρ st=some (.nx ρ,st'):=by
 show Uu i0 (ev F a) (ev F e) ρ st=_;unfold Uu;simp only[e1,hi,e2,h]
theorem Zbh(hk:st[w]?=some (true,ks.map (enE m rs L)))(hn:ks.length < 900000)(h:z∉ks):dput w (kyE z) (vlE m rs L z) st=some (st.set w (true,(ks++[z]).map (enE m rs L))):=by
 unfold dput;rw[hk];show(if ((Y7 (ks.map (enE m rs L))=false/\okN 8 (kyE z)=true)/\WZ (vlE m rs L z)=true)/\(ks.map (enE m rs L)).length < Zu/\(ks.map (enE m rs L)).any (Wx (kyE z))=false then _ else none)=_
 rw[if_pos ⟨⟨⟨VS,VT⟩,rfl⟩,by rw[aB];unfold Zu;omega,by rw[V9,aE h]⟩,bG]
 rfl
theorem WR{c0:Z4}(hk:k<=60)(h1:w≠wc)(h2:w≠kp):∀ {l acc:Li Ky}{x y:Ot D}{st:Za},(acc++l).Nodup->acc.length+l.length < 900000->st[w]?=some (true,acc.map (enE m rs L))->st[wc]?=some (bb,(cdL (rs.set k r)).map fun p=>kdE (some p))->st[kp]?=some c0->∃ x' y' st',ZE (fun s=>s[kp]?=some c0) (fun x y ρ s=>ex (run T (n+3)) chB (Zh (Zh ρ 5 x) 6 y) s) (l.map fun z=>(kyE z,vlE m rs L z)) (chE bo k r wc w x y) st=some (.nx (chE bo k r wc w x' y'),st')/\Kj w st st'/\st'[w]?=some (true,(acc++l.filter (stP m rs L k r)).map (enE m rs L))
 |[],acc,x,y,st,_,_,hw,hc,hp=>⟨x,y,st,if_pos hp,Grw.refl.kj,by rw[List.filter_nil,aW];exact hw⟩
 |z :: l,acc,x,y,st,nd,hl,hw,hc,hp=>by
  rw[aO]at hl;have lp:∀ {st2:Za},ex (run T (n+3)) chB (chE bo k r wc w (some (kyE z)) (some (vlE m rs L z))) st=some (.nx (chE bo k r wc w (some (kyE z)) (some (vlE m rs L z))),st2)->ZE (fun s=>s[kp]?=some c0) (fun x y ρ s=>ex (run T (n+3)) chB (Zh (Zh ρ 5 x) 6 y) s) ((z :: l).map fun z=>(kyE z,vlE m rs L z)) (chE bo k r wc w x y) st=ZE (fun s=>s[kp]?=some c0) (fun x y ρ s=>ex (run T (n+3)) chB (Zh (Zh ρ 5 x) 6 y) s) (l.map fun z=>(kyE z,vlE m rs L z)) (chE bo k r wc w (some (kyE z)) (some (vlE m rs L z))) st2:=fun {st2} e=>by
   rw[aL,ZE,if_pos hp];show(match ex (run T (n+3)) chB (chE bo k r wc w (some (kyE z)) (some (vlE m rs L z))) st with
    |some (.nx ρ',st')=>ZE _ _ _ ρ' st'
    |some (.ct ρ',st')=>ZE _ _ _ ρ' st'
    |some (.bk ρ',st')=>some (.nx ρ',st')
    |some (.rt v,st')=>some (.rt v,st')
    |none=>none)=_
   rw[e]
  obtain⟨s1,e1,k1⟩:=Y.call (F:=run T (n+3)) (f:=273) (ds:=[]) (xs:=[kdE z.1,.int (ZC (snP m (rO rs z.1) L z.2):Int),.int (k:Int),.lst wc]) (a:=.aC (.ix (.v 5) (.c (.int 0))) (.aC (.ix (.v 6) (.c (.int 1))) (.aC (.v 1) (.aC (.v 3) .aN)))) (ρ:=chE bo k r wc w (some (kyE z)) (some (vlE m rs L z))) (.r rf) (ZaZ hk hc) st .refl;have e1:ev (run T (n+3)) _ _ st=some (.bl (stP m rs L k r z),s1):=e1
  have nd':z∉acc:=fun h=>by
   have:=(dC.mp nd).2.2 z h z lQ7;exact this rfl
  cases c:stP m rs L k r z with
  |false=>
   rw[c]at e1;have nd2:(acc++l).Nodup:=by
    rw[dC]at nd ⊢;exact⟨nd.1,(bR.mp nd.2.1).2,fun a ha b hb=>nd.2.2 a ha b (lM7 _ hb)⟩
   obtain⟨x',y',s2,e2,k2,h3⟩:=WR (c0:=c0) hk h1 h2 (x:=some (kyE z)) (y:=some (vlE m rs L z)) nd2 (by omega) (k1.get hw) (k1.get hc) (k1.get hp)
   rw[List.filter_cons_of_neg (by rw[c];decide)]
   exact⟨x',y',s2,(lp ((Zc ((ZY e1).trans Ze)).trans Ze)).trans e2,k1.kj.trans k2,h3⟩
  |true=>
   rw[c]at e1;have pu:=Ze0 (F:=run T (n+3)) (i0:=4) (a:=.v 5) (e:=.v 6) (ρ:=chE bo k r wc w (some (kyE z)) (some (vlE m rs L z))) (st:=s1) rfl rfl rfl (Zbh (k1.get hw) (by omega) nd')
   obtain⟨s3,es3⟩:∃ s3,s1.set w (true,(acc++[z]).map (enE m rs L))=s3:=⟨_,rfl⟩;rw[es3]at pu;have lw:=Zd (k1.get hw);have nd2:(acc++[z]++l).Nodup:=by rw[bF];exact nd
   obtain⟨x',y',s2,e2,k2,h3⟩:=WR (c0:=c0) hk h1 h2 (x:=some (kyE z)) (y:=some (vlE m rs L z)) (l:=l) (acc:=acc++[z]) (st:=s3) nd2 (by rw[aI];show _+1+_ < _;omega) (by rw[<-es3,Zk lw,if_pos rfl]) (by rw[<-es3,Zk lw,if_neg h1];exact k1.get hc) (by rw[<-es3,Zk lw,if_neg h2];exact k1.get hp)
   have k3:Kj w s1 s3:=⟨fun i hi hn=>by rw[<-es3,Zk lw,if_neg (Ne.symm hn)],by rw[<-es3,aY];exact aD _⟩
   rw[List.filter_cons_of_pos c];exact⟨x',y',s2,(lp ((Zc ((Yi e1).trans ((Zc pu).trans Ze))).trans Ze)).trans e2,k1.kj.trans (k3.trans k2),by rw[h3,bF];rfl⟩
theorem Zbo:Z2 (S "program") (pgD tk m rs') (bkF tk m rs tr L kp dn)=bkF tk m rs' tr L kp dn:=by
 have n0:∀ {x:Str},decide (x=x)=true:=aH rfl;unfold bkF;simp only[Z2,isK,n0,if_true];rfl
theorem Zbn:Z2 (S "kept") (.dic w) (bkF tk m rs tr L kp dn)=bkF tk m rs tr L w dn:=by
 have n0:∀ {x:Str},decide (x=x)=true:=aH rfl;have n1:decide (S "program"=S "kept")=false/\decide (S "trials"=S "kept")=false/\decide (S "limit"=S "kept")=false:=by decide +kernel
 obtain⟨a1,a2,a3⟩:=n1;unfold bkF;simp only[Z2,isK,n0,a1,a2,a3,cH,if_false,if_true];rfl
theorem Kj.get{c:Z4}(k:Kj i st st')(h:st[j]?=some c)(h1:j≠i):st'[j]?=some c:=(k.old j (Zd h) h1).trans h
theorem Kj.set{c:Z4}:Kj i st (st.set i c):=⟨fun j h h1=>by rw[bJ (Ne.symm h1)],by rw[aY];exact aD _⟩
theorem Kj.young{s0:Za}(a:Kj i s0 st)(b:Kj w st st')(h:s0.length<=w):Kj i s0 st':=⟨fun j hj h1=>(b.old j (aS hj a.len) (by omega)).trans (a.old j hj h1),aM a.len b.len⟩
theorem Q3(hf:Fit m rs tr L)(hr':Rs m (rs.set k r))(hk:k < rs.length)(nd:ks.Nodup)(hn:ks.length < 900000)(hb:Bk tk m rs tr L bo kp d0 ks s):∃ st' kp' d1,run T (n+6) 271 [.dic bo,.int (k:Int),rwE r] s=some (.non,st')/\Kj bo s st'/\Bk tk m (rs.set k r) tr L bo kp' d1 (ks.filter (stP m rs L k r)) st'/\s.length<=kp'/\d1+(ks.filter (stP m rs L k r)).length=d0+ks.length:=by
 have f1:=fun rs dn=>YU (tk:=tk) (m:=m) (rs:=rs) (tr:=tr) (L:=L) (kp:=kp) (dn:=dn)
 have rl:=hf.r.l;have lb:=Zd hb.ob;have lk:=Zd hb.ke;obtain⟨s1,e1,k1⟩:=Y.call (F:=run T (n+5)) (f:=180) (ds:=[]) (xs:=[pgD tk m rs,.int (k:Int),rwE r]) (a:=.aC (.fld (S "program") (.v 0)) (.aC (.v 1) (.aC (.v 2) .aN))) (ρ:=[some (.dic bo),some (.int (k:Int)),some (rwE r),none,none,none,none]) (.cons (.fl hb.ob (.r rf) (f1 rs _).1) (.r rf)) (Zcz hk (by omega)) s .refl
 have p1:=YJ (f:=S "program") (i:=0) e1 rfl (k1.get hb.ob) (by show 5 < 900;decide)
 rw[Zbo]at p1;obtain⟨s2,es2⟩:∃ s2,s1.set bo (true,.int 263 :: bkF tk m (rs.set k r) tr L kp (d0+ks.length))=s2:=⟨_,rfl⟩;rw[es2]at p1;have o2:s2[bo]?=some (true,.int 263 :: bkF tk m (rs.set k r) tr L kp (d0+ks.length)):=by rw[<-es2,Zk (Zd (k1.get hb.ob)),if_pos rfl]
 have ke2:s2[kp]?=some (true,ks.map (enE m rs L)):=by rw[<-es2,Zk (Zd (k1.get hb.ob)),if_neg hb.ne];exact k1.get hb.ke
 have j2:Kj bo s s2:=by rw[<-es2];exact k1.kj.trans .set
 obtain⟨s3,e3,k3⟩:=Y.fl (F:=run T (n+5)) (a:=.v 0) (ρ:=[some (.dic bo),some (.int (k:Int)),some (rwE r),none,none,none,none]) o2 (.r rf) (f1 _ _).1 s2 .refl;obtain⟨s4,wc,e4,h4,k4,l4⟩:=UI (n:=n) (tk:=tk) hr' s3 (.refl:Grw s3 s3);have c4:ev (run T (n+5)) (.call 262 (.aC (.fld (S "program") (.v 0)) .aN) []) [some (.dic bo),some (.int (k:Int)),some (rwE r),none,none,none,none] s2=some (.lst wc,s4):=by
  show Zo (Zv (ev (run T (n+5)) (.fld (S "program") (.v 0))) (ev (run T (n+5)) .aN) Y9) (XO (run T (n+5) 262) []) _ s2=_;unfold Zo Zv;rw[e3];exact e4
 have g4:Grw s2 (s4++[(true,[])]):=(k3.trans k4).trans .push;have p5:ex (run T (n+5)) (.set 4 .dnew) [some (.dic bo),some (.int (k:Int)),some (rwE r),some (.lst wc),none,none,none] s4=some (.nx (chE bo k r wc s4.length none none),s4++[(true,[])]):=Zj rfl;obtain⟨s6,e6,k6⟩:=Y.fl (F:=run T (n+5)) (a:=.v 0) (ρ:=chE bo k r wc s4.length none none) (g4.get o2) (.r rf) (f1 _ _).2.2.2.1 (s4++[(true,[])]) .refl
 have ke6:=k6.get (g4.get ke2);have z2:=j2.len;have z4:=(k3.trans k4).len;obtain⟨x',y',s7,e7,k7,h7⟩:=WR (n:=n+2) (bo:=bo) (kp:=kp) (wc:=wc) (w:=s4.length) (c0:=(true,ks.map (enE m rs L))) (m:=m) (rs:=rs) (L:=L) (r:=r) (bb:=true) (l:=ks) (acc:=[]) (x:=none) (y:=none) (st:=s6) (by omega:k<=60) (cZ (Zd h4)) (by omega) nd (by show 0+_ < _;omega) (k6.get Zl) ((Grw.push.trans k6).get h4) ke6
 have p7:ex (run T (n+5)) (.forI 5 6 (.fld (S "kept") (.v 0)) chB) (chE bo k r wc s4.length none none) (s4++[(true,[])])=some (.nx (chE bo k r wc s4.length x' y'),s7):=by
  show Vv 5 6 (ev (run T (n+5)) (.fld (S "kept") (.v 0))) (ex (run T (n+5)) chB) _ _=_;unfold Vv;rw[e6];show(match s6[kp]? with
   |some c=>if Y7 c.2=false then ZE (fun s=>s[kp]?=some c) (fun x y ρ s=>ex (run T (n+5)) chB (Zh (Zh ρ 5 x) 6 y) s) (c.2.filterMap itQ) (chE bo k r wc s4.length none none) s6 else none
   |none=>none)=_
  rw[ke6];show(if Y7 (ks.map (enE m rs L))=false then ZE (fun s=>s[kp]?=some (true,ks.map (enE m rs L))) (fun x y ρ s=>ex (run T (n+5)) chB (Zh (Zh ρ 5 x) 6 y) s) ((ks.map (enE m rs L)).filterMap itQ) (chE bo k r wc s4.length none none) s6 else none)=_
  rw[if_pos VS,J7];exact e7
 have o7:=k7.get (k6.get (g4.get o2)) (by omega:bo≠s4.length)
 have p8:=YJ (F:=run T (n+5)) (f:=S "kept") (i:=0) (e:=.v 4) (d:=.dic s4.length) (ρ:=chE bo k r wc s4.length x' y') (st:=s7) rfl rfl o7 (by show 5 < 900;decide)
 rw[Zbn]at p8;obtain⟨s8,es8⟩:∃ s8,s7.set bo (true,.int 263 :: bkF tk m (rs.set k r) tr L s4.length (d0+ks.length))=s8:=⟨_,rfl⟩;rw[es8]at p8;rw[dB,Jv]at h7;have fl:=List.length_filter_le (stP m rs L k r) ks;refine⟨s8,s4.length,d0+ks.length - (ks.filter (stP m rs L k r)).length,ZbY (v:=c_Book_change) rfl rfl ((Zc p1).trans ((Zc (Zj c4)).trans ((Zc p5).trans ((Zc p7).trans ((Zc p8).trans Ze))))),?_,⟨?_,?_,by omega⟩,by omega,by omega⟩
 ·have a:Kj bo s s7:=(j2.trans (g4.trans k6).kj).young k7 (by omega)
  rw[<-es8];exact a.trans .set
 ·rw[<-es8,Zk (Zd o7),if_pos rfl,show d0+ks.length - (ks.filter (stP m rs L k r)).length+(ks.filter (stP m rs L k r)).length=d0+ks.length by omega]
 ·rw[<-es8,Zk (Zd o7),if_neg (by omega)]
  exact h7
end
structure Ks(l:List Nat)(st st':Za):Prop where
 old:∀ i,i < st.length->i∉l->st'[i]?=st[i]?
 len:st.length<=st'.length
structure Sv where
 (w wt bo kp d0 L:Nat) (rs:List Rw) (tr:List (List Int)) (ks:List Ky)
def Sv.ad(v:Sv):Li Nat:=[v.w,v.wt,v.bo,v.kp]
structure Sd(tk:D)(m N:Nat)(v:Sv)(s:Za):Prop where
 c:s[v.w]?=some (true,[.dic v.bo,pgD tk m v.rs,.lst v.wt,.int (v.L:Int)])
 t:s[v.wt]?=some (true,v.tr.map inD)
 b:Bk tk m v.rs v.tr v.L v.bo v.kp v.d0 v.ks s
 nd:v.ks.Nodup
 ln:v.ks.length<=N * 7000
 f:Fit m v.rs v.tr v.L
 n3:v.tr.length<=3
 dj:v.ad.Nodup
section
variable {F:Nat->Fn}{s st st1 st2 st':Za}{e a b c:CE}{ρ ρ':Env}{d x y tk:D}{n w wa wb wt wc j m k i L bo kp dn d0 N:Nat}{vs ins ns t:Li Int}{r:Rw}{rs rs':Li Rw}{xs ys acc ds es:Li D}{q:CS}{g f:Str}{bb:Bool}{tr l:Li (Li Int)}{ks:Li Ky}{cd:Cd}{z:Ky}{v u:Sv}{la:Li Nat}
theorem Grw.kl(g:Grw st st'):Ks la st st':=⟨fun i h _=>g.old i h,g.len⟩
theorem Kj.kl(g:Kj j st st')(h:j∈la):Ks la st st':=⟨fun i hi hn=>g.old i hi fun e=>hn (e ▸ h),g.len⟩
theorem Kb.kl(g:Kb bo kp st st')(h:bo∈la)(h2:kp∈la):Ks la st st':=⟨fun i hi hn=>g.old i hi (fun e=>hn (e ▸ h)) fun e=>hn (e ▸ h2),g.len⟩
theorem Ks.trans(a:Ks la st st1)(b:Ks la st1 st'):Ks la st st':=⟨fun i h hn=>(b.old i (aS h a.len) hn).trans (a.old i h hn),aM a.len b.len⟩
theorem Ks.get{c:Z4}(k:Ks la st st')(h:st[j]?=some c)(h1:j∉la):st'[j]?=some c:=(k.old j (Zd h) h1).trans h
theorem Sd.keep(h:Sd tk m N v s)(k:Ks la s st)(d:∀ i∈v.ad,i∉la):Sd tk m N v st:=
 have p:=fun i (h:i∈v.ad)=>d i h
 ⟨k.get h.c (p _ (.head _)),k.get h.t (p _ (.tail _ (.head _))),⟨k.get h.b.ob (p _ (.tail _ (.tail _ (.head _)))),k.get h.b.ke (p _ (.tail _ (.tail _ (.tail _ (.head _))))),h.b.ne⟩,h.nd,h.ln,h.f,h.n3,h.dj⟩
theorem Sd.more(h:Sd tk m N v s)(hn:N<=n):Sd tk m n v s:={ h with ln:=aM h.ln (Nat.mul_le_mul_right _ hn) }
theorem ZaR{i1 i2 i3 i4:Nat}{x1 x2 x3 x4:D}(h:ev F e ρ st=some (.lst w,st'))(h2:st'[w]?=some (bb,[x1,x2,x3,x4])):ex F (.set4 i1 i2 i3 i4 e) ρ st=some (.nx (Zh (Zh (Zh (Zh ρ i1 x1) i2 x2) i3 x3) i4 x4),st'):=by
 show VY i1 i2 i3 i4 (ev F e) ρ st=_;unfold VY;simp only[h,h2]
theorem ZdG{tr':Li (Li Int)}:Z2 (S "trials") (.tup (tr'.map inD)) (bkF tk m rs tr L kp dn)=bkF tk m rs tr' L kp dn:=by
 have n0:∀ {x:Str},decide (x=x)=true:=aH rfl;have a1:decide (S "program"=S "trials")=false:=by decide +kernel
 unfold bkF;simp only[Z2,isK,n0,a1,if_true,cH,if_false];rfl
theorem ZbQ(h:ks.Nodup):(Wt ks z).Nodup:=by
 unfold Wt;split
 ·exact h
 ·rename_i c
  rw[dC];exact⟨h,bR.mpr ⟨(fun q=>nomatch q),dF⟩,fun a ha b hb e=>c (by rw[<-aP.mp hb,<-e];exact ha)⟩
theorem W5:∀ {l:Li (Li Int)}{ks:Li Ky},ks.Nodup->(XC cd ks l).Nodup
 |[],_,h=>h
 |_ :: l,_,h=>W5 (l:=l) (ZbQ h)
theorem U6:∀ {l:Li (Nat×Rw)}{ks:Li Ky},ks.Nodup->(Qs tr ks l).Nodup
 |[],_,h=>h
 |_ :: l,_,h=>U6 (l:=l) (W5 h)
theorem ZbP(h:ks.Nodup):(Qr rs tr ks).Nodup:=U6 (W5 h)
theorem Jn(hr:Rs m rs):(cdL rs).length<=600:=by
 have fl:=Xr (rs:=rs);have rl:=hr.l;unfold cdL;rw[aB];omega
theorem ZbK(hr:Rs m rs)(ht:tr.length<=11):(Qr rs tr ks).length<=ks.length+7000:=by
 have cl:=Jn hr;have h1:=Zac (tr:=tr) (l:=cdL rs) (ks:=XC none ks tr);have h2:=Xv (cd:=none) (ks:=ks) (l:=tr);have cm:(cdL rs).length * tr.length<=600 * 11:=Nat.mul_le_mul cl ht;unfold Qr;omega
theorem Ze1(ht:tr.length < 10)(hb:Bk tk m rs tr L bo kp d0 ks s):∃ st',run T (n+2) 272 [.dic bo,inD t] s=some (.non,st')/\Kj bo s st'/\Bk tk m rs (tr++[t]) L bo kp d0 ks st':=by
 have f1:=YU (tk:=tk) (m:=m) (rs:=rs) (tr:=tr) (L:=L) (kp:=kp) (dn:=d0+ks.length);have y1:Y (run T (n+1)) s (.bin .Add (.fld (S "trials") (.v 0)) (.tupE (.aC (.v 1) .aN))) [some (.dic bo),some (inD t),none] (.tup ((tr++[t]).map inD)):=by
  rw[bG];exact .adT (.fl hb.ob (.r rf) f1.2.1) (.cons (.r rf) .nil) (by rw[aB];show _+1<=_;omega)
 obtain⟨s1,e1,k1⟩:=y1 s .refl;obtain⟨s2,e2,k2⟩:=Y.call1 (F:=run T (n+1)) (s:=s1) (a:=.v 2) (ρ:=[some (.dic bo),some (inD t),some (.tup ((tr++[t]).map inD))]) (.r rf) (UH (n:=n) (s:=s1) (xs:=(tr++[t]).map inD) (by rw[aB,aI];show _+1<=_;omega)) s1 .refl
 have o2:=(k1.trans k2).get hb.ob;have p3:=YJ (F:=run T (n+1)) (ρ:=[some (.dic bo),some (inD t),some (.tup ((tr++[t]).map inD))]) (i:=0) (f:=S "trials") (e:=.v 2) rfl rfl o2 (by show 5 < 900;decide)
 rw[ZdG]at p3;refine⟨_,ZbY (v:=c_Book_add) rfl rfl ((Zc (Zj e1)).trans ((Zc (Zc5 e2)).trans ((Zc p3).trans Ze))),(k1.trans k2).kj.trans .set,⟨by rw[Zk (Zd o2),if_pos rfl],?_,hb.ne⟩⟩
 rw[Zk (Zd o2),if_neg hb.ne];exact(k1.trans k2).get hb.ke
end
variable{cv:Nat->Int}
section
variable {F:Nat->Fn}{s st st1 st':Za}{e a b:CE}{ρ ρ':Env}{d x y tk:D}{n w wt j m k L sz:Nat}{c v i:Int}{vs ns:Li Int}{r:Rw}{rs:Li Rw}{xs ys acc ds:Li D}{bb:Bool}
def Cv(s:Za)(cv:Nat->Int):Prop:=∀ n k:Nat,k<=1000->C (run T (n+1)) s 27 [.lst 0,.int (k:Int)] (.int (cv k))
theorem Cv.grw(h:Cv s cv)(g:Grw s st):Cv st cv:=fun n k hk=>Gv.mono (h n k hk) g
theorem Q2(hk:k<=1000):∃ v:Int,∀ (n:Nat) (s:Za) (b:Bool),s[0]?=some (b,ns.map D.int)->C (run T (n+1)) s 27 [.lst 0,.int (k:Int)] (.int v):=by
 have c1:∀ {n:Nat}{s:Za}{b:Bool},s[0]?=some (b,ns.map D.int)->Y (run T n) s (.cmp .Lt (.v 1) (.len (.v 0))) [some (.lst 0),some (.int (k:Int))] (.bl (decide (k < ns.length))):=fun hs=>.cmp (.r rf) (.lenl hs (.r rf)) fun _=>by
  show some (decide ((k:Int) < ((ns.map D.int).length:Int)))=_;rw[aB];exact congrArg some (decide_eq_decide.mpr (by omega))
 have lk:Z8 (k:Int)=true:=Up (by omega)
 by_cases h:k < ns.length
 ·rw[aH h]at c1
  exact⟨ns[k],fun n s b hs=>.of (v:=c__law_cell_at) rfl rfl (.yes (c1 hs) (.ixl (j:=k) hs (.r rf) (.r rf) (by rw[aR,lG7 h];rfl)))⟩
 ·rw[aE h]at c1
  have kk:∀ {n:Nat}{s},Y (run T n) s (.bin .Mult (.v 1) (.v 1)) [some (.lst 0),some (.int (k:Int))] (.int ((k:Int) * k)):=.mul (.r rf) (.r rf) lk;have ca:∀ {n:Nat}{s:Za}{b:Bool},s[0]?=some (b,ns.map D.int)->Lv s (ev (run T n) (.bin .Add (.v 0) (.lstE (.aC (.c (.int 0)) .aN))) [some (.lst 0),some (.int (k:Int))]) ((ns++[0]).map D.int):=fun hs=>by
   rw[bG];exact .cat (.v hs (.r rf)) (.mk (.r rf)) (by rw[aB];show _+1<=1000000;omega)
  obtain⟨a,ha⟩:∃ a,(ns++[0])[0]?=some a:=by cases ns<;>exact⟨_,rfl⟩
  have am:=Zp a (j:=1000003) (by decide)
  exact⟨_,fun n s b hs=>.of (v:=c__law_cell_at) rfl rfl (.no (c1 hs) (.ret (.md (.mul (.add (.md (.ixL (j:=0) (ca hs) (.r rf) (by rw[aR,ha];rfl)) (.r rf) (by decide)) (.r rf)) (.add kk (.r rf)) (Up (by
   have h3:(k:Int) * k<=1000 * 1000:=Int.mul_le_mul (by omega) (by omega) (by omega) (by omega)
   have h4:0<=(k:Int) * k:=Int.mul_nonneg (by omega) (by omega)
   omega))) (.r rf) (by decide))))⟩
theorem cells{b:Bool}(hs:s[0]?=some (b,ns.map D.int)):∃ cv:Nat->Int,Cv s cv:=by
 have h:∀ k:Nat,∃ v:Int,k<=1000->∀ n,C (run T (n+1)) s 27 [.lst 0,.int (k:Int)] (.int v):=fun k=>by
  by_cases hk:k<=1000
  ·obtain⟨v,hv⟩:=Q2 (ns:=ns) hk;exact⟨v,fun _ n=>hv n s b hs⟩
  ·exact⟨0,fun h=>absurd h hk⟩
 exact⟨fun k=>Classical.choose (h k),fun n k hk=>Classical.choose_spec (h k) hk n⟩
theorem Y.cell(h:Cv s cv)(h0:ρ[0]?=some (some (.lst 0)))(hk:k<=1000):Y (run T (n+1)) s (.call 27 (.aC (.v 0) (.aC (.c (.int (k:Int))) .aN)) []) ρ (.int (cv k)):=.call (xs:=[.lst 0,.int (k:Int)]) (.cons (.v h0) (.cons (.r rf) .nil)) (h n k hk)
theorem Q6:∃ v,Sm v/\C (run T (n+1)) s 185 [.int c] (.int v):=by
 have q4:∀ {s},Y (run T n) s (.bin .FloorDiv (.v 0) (.c (.int 4))) [some (.int c)] (.int (c / 4)):=.fd (.r rf) (.r rf) (by decide)
 have m4:∀ {s} (z:Int),Y (run T n) s (.cmp .Eq (.bin .Mod (.v 0) (.c (.int 4))) (.c (.int z))) [some (.int c)] (.bl (decide (c % 4=z))):=fun z=>.cmp (.md (.r rf) (.r rf) (by decide)) (.r rf) fun _=>rfl
 by_cases h0:c % 4=0
 ·have y0:=m4 (s:=s) 0
  rw[aH h0]at y0;have:=Zp (c / 4) (j:=2000000000) (by decide)
  exact⟨_,⟨by omega,by omega⟩,.of (v:=c__law_number) rfl rfl (.yes y0 (.sub (.md q4 (.r rf) (by decide)) (.r rf)))⟩
 ·have y0:=m4 (s:=s) 0
  rw[aE h0]at y0;by_cases h1:c % 4=1
  ·have y1:=m4 (s:=s) 1
   rw[aH h1]at y1;have em:=Zp (c / 4) (j:=5) (by decide)
   obtain⟨u,hu,yu⟩:=Y.ixE (F:=run T n) (s:=s) (f:=D.int) (l:=([999999999,-1000000000,-1,0,1]:Li Int)) (a:=.lstE (.aC (.c (.int 999999999)) (.aC (.neg (.c (.int 1000000000))) (.aC (.neg (.c (.int 1))) (.aC (.c (.int 0)) (.aC (.c (.int 1)) .aN)))))) (.mk (.r rf)) (b:=.bin .Mod (.bin .FloorDiv (.v 0) (.c (.int 4))) (.c (.int 5))) (.md q4 (.r rf) (by decide)) em.1 em.2
   exact⟨u,(by decide:∀ v∈([999999999,-1000000000,-1,0,1]:Li Int),-1000000000<=v/\v<=999999999) u hu,.of (v:=c__law_number) rfl rfl (.no y0 (.yes y1 yu))⟩
  ·have y1:=m4 (s:=s) 1
   rw[aE h1]at y1;have:=Zp (c / 4) (j:=7) (by decide)
   exact⟨_,⟨by omega,by omega⟩,.of (v:=c__law_number) rfl rfl (.no y0 (.no y1 (.ret (.sub (.md q4 (.r rf) (by decide)) (.r rf)))))⟩
theorem Q7(hm:0 < m):∃ o,XU m o/\C (run T (n+2)) s 28 [.int c,.int (m:Int)] (opE o):=by
 have hm':(0:Int) < (m:Int):=by omega
 have q3:Y (run T (n+1)) s (.bin .FloorDiv (.v 0) (.c (.int 3))) [some (.int c),some (.int (m:Int))] (.int (c / 3)):=.fd (.r rf) (.r rf) (by decide)
 have y:Y (run T (n+1)) s (.cmp .Eq (.bin .Mod (.v 0) (.c (.int 3))) (.c (.int 0))) [some (.int c),some (.int (m:Int))] (.bl (decide (c % 3=0))):=.cmp (.md (.r rf) (.r rf) (by decide)) (.r rf) fun _=>rfl
 by_cases h:c % 3=0
 ·rw[aH h]at y
  obtain⟨v,hv,cv⟩:=Q6 (n:=n) (s:=s) (c:=c / 3);exact⟨.nu v,hv,.of (v:=c__law_operand) rfl rfl (.yes y (.cons (.r rf) (.cons (.call1 q3 cv) .nil)))⟩
 ·rw[aE h]at y
  have em:=Zp (c / 3) hm';refine⟨.nm (c / 3 % m).toNat,by show _ < m;omega,.of (v:=c__law_operand) rfl rfl (.no y (.ret (.cons (.r rf) (.cons ?_ .nil))))⟩
  rw[bP em.1];exact .md q3 (.r rf) hm'
theorem Zdb{c0 c1 c2:Int}(hm:0 < m)(hm5:m<=900)(hz:sz<=900)(hs:s[w]?=some (bb,[.int c0,.int c1,.int c2])):∃ r,YN m sz r/\C (run T (n+3)) s 29 [.lst w,.int (m:Int),.int (sz:Int)] (rwE r):=by
 have hm':(0:Int) < (m:Int):=by omega
 obtain⟨y,hy,cy⟩:=Q7 (n:=n) (s:=s) (c:=c1) hm;obtain⟨z,hz',cz⟩:=Q7 (n:=n) (s:=s) (c:=c2) hm;have e0:∀ {ρ:Env},ρ[0]?=some (some (.lst w))->Y (run T (n+2)) s (.ix (.v 0) (.c (.int 0))) ρ (.int c0):=fun h=>.ixl (j:=0) hs (.v h) (.r rf) rfl
 have st:∀ {r q},R (run T (n+2)) s q [some (.lst w),some (.int (m:Int)),some (.int (sz:Int)),some (.int (c0 / 8)),some (opE y),some (opE z)] r->R (run T (n+2)) s (.seq (.set 3 (.bin .FloorDiv (.ix (.v 0) (.c (.int 0))) (.c (.int 8)))) (.seq (.set 4 (.call 28 (.aC (.ix (.v 0) (.c (.int 1))) (.aC (.v 1) .aN)) [])) (.seq (.set 5 (.call 28 (.aC (.ix (.v 0) (.c (.int 2))) (.aC (.v 1) .aN)) [])) q))) [some (.lst w),some (.int (m:Int)),some (.int (sz:Int)),none,none,none] r:=fun {r q} h=>
  .set (x:=.int (c0 / 8)) (.fd (e0 rfl) (.r rf) (by decide)) (.set (x:=opE y) (.call (xs:=[.int c1,.int (m:Int)]) (.cons (.ixl (j:=1) hs (.r rf) (.r rf) rfl) (.cons (.r rf) .nil)) cy) (.set (x:=opE z) (.call (xs:=[.int c2,.int (m:Int)]) (.cons (.ixl (j:=2) hs (.r rf) (.r rf) rfl) (.cons (.r rf) .nil)) cz) h))
 have hc:∀ {zz:Int},Y (run T (n+2)) s (.cmp .Lt (.bin .Mod (.ix (.v 0) (.c (.int 0))) (.c (.int 8))) (.c (.int zz))) [some (.lst w),some (.int (m:Int)),some (.int (sz:Int)),some (.int (c0 / 8)),some (opE y),some (opE z)] (.bl (decide (c0 % 8 < zz))):=fun {zz}=>.cmp (.md (e0 rfl) (.r rf) (by decide)) (.r rf) fun _=>rfl
 have hq:Y (run T (n+2)) s (.cmp .Eq (.bin .Mod (.ix (.v 0) (.c (.int 0))) (.c (.int 8))) (.c (.int 6))) [some (.lst w),some (.int (m:Int)),some (.int (sz:Int)),some (.int (c0 / 8)),some (opE y),some (opE z)] (.bl (decide (c0 % 8=6))):=.cmp (.md (e0 rfl) (.r rf) (by decide)) (.r rf) fun _=>rfl
 have zs:(0:Int) < (sz:Int)+1:=by omega
 by_cases h1:c0 % 8 < 3
 ·have k1:=hc (zz:=3)
  rw[aH h1]at k1;have ex:=Zp (c0 / 8) hm';have em:=Zp (c0 / 8 / m) (j:=5) (by decide)
  obtain⟨x,hx⟩:∃ x:Nat,c0 / 8 % (m:Int)=(x:Int):=⟨_,(bP ex.1).symm⟩;obtain⟨u,hu,yu⟩:=Y.ixE (F:=run T (n+2)) (s:=s) (f:=D.str) (l:=psL) (ρ:=[some (.lst w),some (.int (m:Int)),some (.int (sz:Int)),some (.int (c0 / 8)),some (opE y),some (opE z)]) (a:=.lstE (.aC (.c (.str (S "+"))) (.aC (.c (.str (S "-"))) (.aC (.c (.str (S "*"))) (.aC (.c (.str (S "/"))) (.aC (.c (.str (S "mod"))) .aN)))))) (.mk (.r rf)) (b:=.bin .Mod (.bin .FloorDiv (.v 3) (.v 1)) (.c (.int 5))) (.md (.fd (i:=c0 / 8) (j:=(m:Int)) (a:=.v 3) (b:=.v 1) (.r rf) (.r rf) ⟨hm',by omega⟩) (.r rf) (by decide)) em.1 em.2
  exact⟨.put x y u z,⟨by omega,hy,hu,hz'⟩,.of (v:=c__law_row) rfl rfl (st (.yes k1 (.cons (.r rf) (.cons (by rw[<-hx];exact .md (.r rf) (.r rf) hm') (.cons (.r rf) (.cons yu (.cons (.r rf) .nil)))))))⟩
 ·have k1:=hc (zz:=3)
  rw[aE h1]at k1;by_cases h2:c0 % 8 < 6
  ·have k2:=hc (zz:=6)
   rw[aH h2]at k2;have ea:=Zp (c0 / 8 / 6) zs;obtain⟨t,ht⟩:∃ t:Nat,c0 / 8 / 6 % ((sz:Int)+1)=(t:Int):=⟨_,(bP ea.1).symm⟩;have em:=Zp (c0 / 8) (j:=6) (by decide)
   obtain⟨u,hu,yu⟩:=Y.ixE (F:=run T (n+2)) (s:=s) (f:=D.str) (l:=isL) (ρ:=[some (.lst w),some (.int (m:Int)),some (.int (sz:Int)),some (.int (c0 / 8)),some (opE y),some (opE z)]) (a:=.lstE (.aC (.c (.str (S "<"))) (.aC (.c (.str (S "<="))) (.aC (.c (.str (S "="))) (.aC (.c (.str (S ">="))) (.aC (.c (.str (S ">"))) (.aC (.c (.str (S "!="))) .aN))))))) (.mk (.r rf)) (.md (i:=c0 / 8) (a:=.v 3) (b:=.c (.int 6)) (.r rf) (.r rf) (by decide)) em.1 em.2
   exact⟨.ifr y u z t,⟨hy,hu,hz',by omega⟩,.of (v:=c__law_row) rfl rfl (st (.no k1 (.yes k2 (.cons (.r rf) (.cons (.r rf) (.cons yu (.cons (.r rf) (.cons (by rw[<-ht];exact .md (.fd (.r rf) (.r rf) (by decide)) (.add (.r rf) (.r rf)) zs) .nil))))))))⟩
  ·have k2:=hc (zz:=6)
   rw[aE h2]at k2;by_cases h3:c0 % 8=6
   ·have k3:=hq
    rw[aH h3]at k3;exact⟨.tell z,hz',.of (v:=c__law_row) rfl rfl (st (.no k1 (.no k2 (.yes k3 (.cons (.r rf) (.cons (.r rf) .nil))))))⟩
   ·have k3:=hq
    rw[aE h3]at k3;have ea:=Zp (c0 / 8 / 2) zs;obtain⟨t,ht⟩:∃ t:Nat,c0 / 8 / 2 % ((sz:Int)+1)=(t:Int):=⟨_,(bP ea.1).symm⟩;have em:=Zp (c0 / 8) (j:=2) (by decide)
    obtain⟨u,hu,yu⟩:=Y.ixE (F:=run T (n+2)) (s:=s) (f:=rwE) (l:=[Rw.skip,.go t]) (ρ:=[some (.lst w),some (.int (m:Int)),some (.int (sz:Int)),some (.int (c0 / 8)),some (opE y),some (opE z)]) (a:=.lstE (.aC (.tupE (.aC (.c (.str (S "skip"))) .aN)) (.aC (.tupE (.aC (.c (.str (S "go"))) (.aC (.bin .Mod (.bin .FloorDiv (.v 3) (.c (.int 2))) (.bin .Add (.v 2) (.c (.int 1)))) .aN))) .aN))) (.mk (xs:=[.tup [.str (S "skip")],.tup [.str (S "go"),.int (t:Int)]]) (.cons (.cons (.r rf) .nil) (.cons (.cons (.r rf) (.cons (by rw[<-ht];exact .md (.fd (.r rf) (.r rf) (by decide)) (.add (.r rf) (.r rf)) zs) .nil)) .nil))) (.md (i:=c0 / 8) (a:=.v 3) (b:=.c (.int 2)) (.r rf) (.r rf) (by decide)) em.1 em.2
    refine⟨u,?_,.of (v:=c__law_row) rfl rfl (st (.no k1 (.no k2 (.no k3 (.ret yu)))))⟩;rcases aG.mp hu with rfl|hu
    ·trivial
    ·rw[aP.mp hu];show t<=sz;omega
end
def tkD(a b:Int)(t:Nat):D:=.tup (List.replicate t (.tup [.int a,.int b]))
section
variable {F:Nat->Fn}{s st st1 st':Za}{e a b:CE}{ρ ρ':Env}{d x y tk:D}{n w wt j m k L sz i N t:Nat}{c v:Int}{vs ns:Li Int}{r:Rw}{rs:Li Rw}{xs ys acc ds:Li D}{bb:Bool}{q p:CS}{tr:Li (Li Int)}{cv:Nat->Int}{Q:D->Za->Prop}
theorem Zaw{I:Env->Prop}{P:D->Prop}(hj:s.length<=j)(hb:∀ k,k < N->∀ ρ,I ρ->∀ st acc,Grw s st->st[j]?=some (true,acc)->acc.length < 900->∃ d ρ' st',P d/\I ρ'/\ex F q (Zh ρ i (.int (k:Int))) st=some (.nx ρ',st')/\Kj j st st'/\st'[j]?=some (true,acc++[d])):∀ (M a:Nat),a+M=N->∀ ρ,I ρ->∀ st acc,Grw s st->st[j]?=some (true,acc)->acc.length+M<=900->∃ xs ρ' st',xs.length=M/\(∀ d∈xs,P d)/\I ρ'/\Zs (fun d ρ s=>ex F q (Zh ρ i d) s) ((List.range' a M).map fun(k:Nat)=>D.int (k:Int)) ρ st=some (.nx ρ',st')/\Kj j st st'/\st'[j]?=some (true,acc++xs)
 |0,a,_,ρ,hI,st,acc,g,h,_=>⟨[],ρ,st,rfl,fun d h=>(nomatch h),hI,rfl,Grw.refl.kj,by rw[aW];exact h⟩
 |M+1,a,ha,ρ,hI,st,acc,g,h,hc=>by
  obtain⟨d,ρ1,s1,hP,hI1,e1,k1,h1⟩:=hb a (by omega) ρ hI st acc g h (by omega)
  obtain⟨xs,ρ2,s2,hl,hx,hI2,e2,k2,h2⟩:=Zaw hj hb M (a+1) (by omega) ρ1 hI1 s1 _ (k1.grw hj g) h1 (by rw[aI];show _+1+M<=900;omega)
  refine⟨d :: xs,ρ2,s2,by rw[aO,hl],fun d' h'=>(aG.mp h').elim (fun e=>e ▸ hP) (hx d'),hI2,?_,k1.trans k2,by rw[h2,bF];rfl⟩
  rw[dS,aL];show(match ex F q (Zh ρ i (.int (a:Int))) st with
   |some (.nx ρ',st')=>Zs _ _ ρ' st'
   |some (.ct ρ',st')=>Zs _ _ ρ' st'
   |some (.bk ρ',st')=>some (.nx ρ',st')
   |some (.rt v,st')=>some (.rt v,st')
   |none=>none)=_
  rw[e1];exact e2
theorem fill{I:Env->Prop}{P:D->Prop}(e1:ev F e ρ st=some (.int (N:Int),st))(hN:N<=800)(hI:I ρ)(hj:s.length<=j)(g:Grw s st)(h0:st[j]?=some (true,[]))(hb:∀ k,k < N->∀ ρ,I ρ->∀ st acc,Grw s st->st[j]?=some (true,acc)->acc.length < 900->∃ d ρ' st',P d/\I ρ'/\ex F q (Zh ρ i (.int (k:Int))) st=some (.nx ρ',st')/\Kj j st st'/\st'[j]?=some (true,acc++[d])):∃ xs ρ' st',xs.length=N/\(∀ d∈xs,P d)/\I ρ'/\ex F (.for1 i true e q) ρ st=some (.nx ρ',st')/\Kj j st st'/\st'[j]?=some (true,xs):=by
 obtain⟨xs,ρ',s2,hl,hx,hI',e2,k2,h2⟩:=Zaw (F:=F) (q:=q) (i:=i) hj hb N 0 (by omega) _ hI st [] g h0 (by show 0+N<=900;omega)
 have fr:=Y5 (F:=F) (i:=i) (q:=q) (by omega) (by omega) e1
 rw[aZ,List.range_eq_range']at fr;exact⟨xs,ρ',s2,hl,hx,hI',fr.trans e2,k2,h2⟩
theorem all_map{α:Type}{f:α->D}{Q:α->Prop}:∀ {xs:Li D},(∀ d∈xs,∃ r,Q r/\d=f r)->∃ l:Li α,xs=l.map f/\∀ r∈l,Q r
 |[],_=>⟨[],rfl,fun _ h=>nomatch h⟩
 |d :: xs,h=>by
  obtain⟨r,hr,rfl⟩:=h d lQ7;obtain⟨l,rfl,hl⟩:=all_map (xs:=xs) fun d hd=>h d (lM7 _ hd)
  exact⟨r :: l,rfl,fun u hu=>(aG.mp hu).elim (fun e=>e ▸ hr) (hl u)⟩
theorem Za5(hi:ρ[i]?=some (some (.lst j)))(e1:ev F e ρ st=some (d,st1))(k1:Grw st st1)(hk:st[j]?=some (true,acc))(hl:acc.length < 900):∃ st',ex F (.seq (.app i e) .skip) ρ st=some (.nx ρ,st')/\Kj j st st'/\st'[j]?=some (true,acc++[d]):=by
 have h1:=k1.get hk;refine⟨st1.set j (true,acc++[d]),(Zc (V4 hi e1 h1 hl)).trans Ze,⟨fun m hm hn=>?_,by rw[aY];exact k1.len⟩,by rw[Zk (Zd h1),if_pos rfl]⟩
 rw[Zk (Zd h1),if_neg (Ne.symm hn)];exact k1.old m hm
theorem ZeY{v:Int}(h1:v < 2 ^ 62)(h2:-(2 ^ 62)<=v):Yh true (.int v) st=some ((List.range v.toNat).map fun(k:Nat)=>D.int (k:Int),fun _=>True):=by
 unfold Yh;rw[J5 h1 h2]
theorem Wk.rng(hN:N<=1000)(h:Y F s e ρ (.int (N:Int))):Wk F s e ρ (Yh true) ((List.range N).map fun(k:Nat)=>D.int (k:Int)):=.of h fun st=>by
 rw[ZeY (by omega) (by omega),aZ]
theorem XF(h:ev F a ρ st=some (x,st1))(h2:ev F b ρ st1=some (.tup xs,st2))(hl:xs.length < 1000:=by first|decide | (simp only[aO,dD];decide)):ev F (.aC a b) ρ st=some (.tup (x :: xs),st2):=by
 show Zv (ev F a) (ev F b) Y9 ρ st=_;unfold Zv;simp only[h,h2];exact if_pos hl
theorem YS{f:Nat}(h:ev F a ρ st=some (.tup xs,st1))(h2:F f (xs++[]) st1=some (d,st2)):ev F (.call f a []) ρ st=some (d,st2):=by
 show Zo (ev F a) (XO (F f) []) ρ st=_;unfold Zo;rw[h];exact h2
theorem Zc1{a b:Int}(h:t<=3):okD 7 (tkD a b t)=true:=by
 have:t=0\/t=1\/t=2\/t=3:=by omega
 rcases this with rfl|rfl|rfl|rfl<;>rfl
theorem Zg2{g0:Nat->Int}(hm0:0 < m)(hm:m<=900)(hz:sz<=900)(hi:Y (run T (n+3)) s it ρ (.int ((3:Nat):Int)))(he:∀ a:Nat,a < 3->Y (run T (n+3)) s elt (ZK one ρ fr (.int (a:Int))) (.int (g0 a)))(g:Grw s st)(h2:∀ st,ev (run T (n+3)) b ρ st=some (.tup [.int (m:Int),.int (sz:Int)],st)):∃ r st',YN m sz r/\ev (run T (n+3)) (.call 29 (.aC (.comp true fr it elt (.c (.bl true))) b) []) ρ st=some (rwE r,st')/\Grw st st':=by
 have cl:Lv s (ev (run T (n+3)) (.comp true fr it elt (.c (.bl true))) ρ) ((List.range 3).map fun a=>D.int (g0 a)):=VI (F:=run T (n+3)) (b:=one) (wk:=Yh true) (fr:=fr) (it:=it) (elt:=elt) (en:=fun(k:Nat)=>D.int (k:Int)) (g:=fun a=>D.int (g0 a)) (l:=List.range 3) (Wk.rng (N:=3) (by decide) hi) (by decide) fun a ha=>he a (cJ.mp ha)
 obtain⟨s1,w,b1,e1,h1,k1⟩:=cl st g;obtain⟨r,hr,cr⟩:=Zdb (n:=n) (m:=m) (sz:=sz) hm0 hm hz h1;obtain⟨s3,e3,k3⟩:=cr s1 .refl;exact⟨r,s3,hr,YS (XF (xs:=[.int (m:Int),.int (sz:Int)]) e1 (h2 s1)) e3,k1.trans k3⟩
theorem many(z:Int):∃ t u m:Nat,z % 3=(t:Int)/\(if (t:Int) > 1 then (t:Int) else 1)=(u:Int)/\(u:Int)+z / 3 % (6 - (u:Int))=(m:Int)/\t<=2/\t<=m/\0 < m/\m<=6/\0 < 6 - (u:Int):=by
 have e3:=Zp z (j:=3) (by decide)
 obtain⟨t,ht⟩:∃ t:Nat,z % 3=(t:Int):=⟨_,(bP e3.1).symm⟩;obtain⟨u,hu,hu1,hu2,hut⟩:∃ u:Nat,(if (t:Int) > 1 then (t:Int) else 1)=(u:Int)/\1<=u/\u<=2/\t<=u:=by
  split
  ·exact⟨t,rfl,by omega,by omega,by omega⟩
  ·exact⟨1,rfl,by omega,by omega,by omega⟩
 have em:=Zp (z / 3) (j:=6 - (u:Int)) (by omega)
 obtain⟨m,hm⟩:∃ m:Nat,(u:Int)+z / 3 % (6 - (u:Int))=(m:Int):=⟨_,(bP (by omega)).symm⟩
 exact⟨t,u,m,ht,hu,hm,by omega,by omega,by omega,by omega,by omega⟩
theorem ZfV{g0:Nat->Int}(ht:t<=900)(hi:Y (run T (n+1)) s it ρ (.int (t:Int)))(he:∀ a:Nat,a < t->Y (run T (n+1)) s elt (ZK one ρ fr (.int (a:Int))) (.int (g0 a)))(g:Grw s st):∃ u st',(u.length=t/\∀ v∈u,Sm v)/\ev (run T (n+1)) (.tOf (.comp true fr it (.call 185 (.aC elt .aN) []) (.c (.bl true)))) ρ st=some (inD u,st')/\Grw st st':=by
 have hnv:∀ c:Int,∃ v,Sm v/\C (run T (n+1)) s 185 [.int c] (.int v):=fun c=>Q6 (n:=n)
 have cl:Lv s (ev (run T (n+1)) (.comp true fr it (.call 185 (.aC elt .aN) []) (.c (.bl true))) ρ) ((List.range t).map fun a=>D.int (Classical.choose (hnv (g0 a)))):=VI (F:=run T (n+1)) (b:=one) (wk:=Yh true) (fr:=fr) (it:=it) (elt:=.call 185 (.aC elt .aN) []) (en:=fun(k:Nat)=>D.int (k:Int)) (g:=fun a=>D.int (Classical.choose (hnv (g0 a)))) (l:=List.range t) (Wk.rng (N:=t) (by omega) hi) (by rw[bX];omega) fun a ha=>.call1 (he a (cJ.mp ha)) (Classical.choose_spec (hnv (g0 a))).2
 obtain⟨s4,w,b1,e4,h4,k4⟩:=cl st g;refine⟨(List.range t).map fun a=>Classical.choose (hnv (g0 a)),s4,⟨by rw[aB,bX],fun v hv=>?_⟩,?_,k4⟩
 ·obtain⟨a,_,rfl⟩:=bB.mp hv
  exact(Classical.choose_spec (hnv (g0 a))).1
 ·rw[Yn e4 h4]
  unfold inD inZ;rw[bN];rfl
end
section
variable {F:Nat->Fn}{s st st1 st':Za}{e a b:CE}{ρ ρ':Env}{d x y tk:D}{n w wt j m k L sz i N t bo kp d0:Nat}{c v:Int}{vs ns:Li Int}{r:Rw}{rs rs':Li Rw}{xs ys acc ds:Li D}{bb:Bool}{q p:CS}{tr:Li (Li Int)}{cv:Nat->Int}{ks:Li Ky}
theorem UP{n:Nat}(ih:∀ x,okD n x=true->Zr x x=true):∀ {ds:Li D},ZT n ds=true->Zw ds ds=true
 |[],_=>rfl
 |d :: ds,h=>by
  rw[ZT,bA7]at h;show(Zr d d&&Zw ds ds)=true;rw[ih d h.1,UP ih h.2];rfl
theorem Jf:∀ {n:Nat}{x:D},okD n x=true->Zr x x=true
 |n,x,h=>by
  cases x with
  |non=>rfl
  |int a=>exact aH rfl
  |str a=>exact aH rfl
  |tup ds=>cases n with
   |zero=>cases h
   |succ n=>exact UP (fun x=>Jf) h
  |_=>cases n<;>cases h
theorem Zfr(htk:okD 7 tk=true):eqS st (pgD tk m rs) (pgD tk m rs)=some true:=by
 have h:okD 8 (pgD tk m rs)=true:=by
  show(okD 7 tk&&(true&&(ZT 6 (rs.map rwE)&&true)))=true;rw[htk,Wp (fun _=>Us)];rfl
 show(match (if okD 8 (pgD tk m rs)&&okD 8 (pgD tk m rs) then some (Zw [tk,.int (m:Int),.tup (rs.map rwE)] [tk,.int (m:Int),.tup (rs.map rwE)]) else none) with
  |some k=>some k
  |none=>_)=_
 rw[h];have:=Jf h;have h2:Zw [tk,.int (m:Int),.tup (rs.map rwE)] [tk,.int (m:Int),.tup (rs.map rwE)]=true:=this;rw[h2];rfl
theorem Zfk(h:ev F a ρ st=some (.bl false,st1)):ev F (.or a b) ρ st=ev F b ρ st1:=by
 show YE (ev F a) (evC (.bl true)) (ev F b) ρ st=_;unfold YE;rw[h]
theorem UU{k:Bool}(h:ev F a ρ st=some (.bl k,st1)):ev F (.not a) ρ st=some (.bl (!k),st1):=by
 show Zo (ev F a) QW ρ st=_;unfold Zo;rw[h];rfl
theorem Zfl(h:ρ[i]?=some (some d)):ev F (.v i) ρ st=some (d,st):=by
 show YT i ρ st=_;unfold YT;rw[h]
end
def hdE(p:Li Int×Nat):D:=.tup [.tup (p.1.map D.int),.lst p.2]
section
variable {F:Nat->Fn}{s s0 st st1 st':Za}{e a b:CE}{ρ ρ':Env}{d x y tk:D}{n w wt j m k L sz i N t bo kp d0 wH:Nat}{c:Int}{vs ns:Li Int}{r:Rw}{rs rs' pa:Li Rw}{xs ys acc ds:Li D}{bb bt:Bool}{q p:CS}{tr:Li (Li Int)}{cv:Nat->Int}{ks:Li Ky}{v u:Sv}{hs:Li (Li Int×Nat)}
theorem nd4{a b c d:Nat}:[a,b,c,d].Nodup↔((a≠b/\a≠c/\a≠d)/\(b≠c/\b≠d)/\c≠d):=by
 simp only[bR,aG,aT,or_false,not_or,dF,not_false_eq_true,and_true]
theorem no4{x a b c d:Nat}:x∉[a,b,c,d]↔(x≠a/\x≠b/\x≠c/\x≠d):=by
 simp only[aG,aT,or_false,not_or]
theorem UG(hN:N<=90)(htk:okD 7 tk=true)(h:Sd tk m N v s)(hH:s[wH]?=some (true,acc))(hl:acc.length < 900)(hw:wH∉v.ad):∃ st' ns,run T (n+10) 276 [.lst v.w,.lst wH] s=some (.bl true,st')/\Ks (wH :: v.ad) s st'/\Sd tk m (N+1) { v with ks:=Qr v.rs v.tr v.ks } st'/\∃ j,st'[wH]?=some (true,acc++[hdE (ns,j)])/\st'[j]?=some (true,ns.map D.int)/\s.length<=j:=by
 obtain⟨w,wt,bo,kp,d0,L,rs,tr,ks⟩:=v;have hc:s[w]?=some (true,[.dic bo,pgD tk m rs,.lst wt,.int (L:Int)]):=h.c;have ht:s[wt]?=some (true,tr.map inD):=h.t;have hb:Bk tk m rs tr L bo kp d0 ks s:=h.b;have hf:Fit m rs tr L:=h.f;have ln:ks.length<=N * 7000:=h.ln;have n3:tr.length<=3:=h.n3;obtain⟨⟨d1,d2,d3⟩,⟨d4,d5⟩,d6⟩:=nd4.mp (show[w,wt,bo,kp].Nodup from h.dj)
 obtain⟨w1,w2,w3,w4⟩:=no4.mp (show wH∉[w,wt,bo,kp] from hw);have cl:=Jn hf.r;obtain⟨s1,e1,k1⟩:=(Y.cmp (op:=.NotEq) (k:=false) (x:=pgD tk m rs) (y:=pgD tk m rs) (.meth hb.ob (.r rf) rfl .nil (Ze7 (n:=n+8) hb)) (.r rf) fun st=>by
  show(eqS st (pgD tk m rs) (pgD tk m rs)).map Bool.not=_;rw[Zfr htk];rfl:Y (run T (n+9)) s (.cmp .NotEq (.meth [(263,270)] (.v 2) .aN) (.v 3)) [some (.lst w),some (.lst wH),some (.dic bo),some (pgD tk m rs),some (.lst wt),some (.int (L:Int)),none] (.bl false)) s .refl
 have b1:=hb.grw k1;obtain⟨s2,e2,k2,b2⟩:=Zc7 (n:=n) (by omega) hf b1
 have t2:=k2.get (k1.get ht) d4 d5;obtain⟨s3,j3,e3,h3,k3,_⟩:=Ze4 (n:=n+4) (tk:=tk) hf.r hf.b hf.t hf.l t2 s2 (.refl:Grw s2 s2);have mm:((cdL rs).map fun c=>D.int (btL m rs L tr c:Int))=((cdL rs).map fun c=>(btL m rs L tr c:Int)).map D.int:=(bN ..).symm
 rw[mm]at h3 e2;obtain⟨ns,hns⟩:∃ ns,((cdL rs).map fun c=>(btL m rs L tr c:Int))=ns:=⟨_,rfl⟩
 have nl:ns.length<=600:=by rw[<-hns,aB];exact cl
 rw[hns]at h3 e2;obtain⟨s4,e4,k4⟩:=ZaU (n:=n+7) (ns:=ns) (by omega) h3 s3 .refl
 have m2:ev (run T (n+9)) (.meth [(263,268)] (.v 2) .aN) [some (.lst w),some (.lst wH),some (.dic bo),some (pgD tk m rs),some (.lst wt),some (.int (L:Int)),none] s1=some (.tup (ns.map D.int),s2):=(Xh (st':=s1) b1.ob rfl rfl rfl).trans e2;have c3:ev (run T (n+9)) (.call 38 (.aC (.v 3) (.aC (.v 4) (.aC (.v 5) .aN))) []) [some (.lst w),some (.lst wH),some (.dic bo),some (pgD tk m rs),some (.lst wt),some (.int (L:Int)),some (.tup (ns.map D.int))] s2=some (.lst j3,s3):=YS (xs:=[pgD tk m rs,.lst wt,.int (L:Int)]) rfl e3
 have c4:=UU (k:=true) (YS (xs:=[.tup (ns.map D.int),.lst j3]) (XF (a:=.v 6) (xs:=[.lst j3]) rfl (XF (b:=.aN) (xs:=[]) c3 rfl)) e4);have K:Kb bo kp s (s4++[(true,ns.map D.int)]):=k1.kb.trans (k2.trans ((k3.trans k4).trans .push).kb);have p5:=V4 (F:=run T (n+9)) (i:=1) (j:=wH) (e:=.tupE (.aC (.v 6) (.aC (.listOf (.v 6)) .aN))) (ρ:=[some (.lst w),some (.lst wH),some (.dic bo),some (pgD tk m rs),some (.lst wt),some (.int (L:Int)),some (.tup (ns.map D.int))]) (st:=s4) (d:=hdE (ns,s4.length)) (st1:=s4++[(true,ns.map D.int)]) (acc:=acc) rfl rfl (K.get hH w3 w4) hl
 obtain⟨s5,e5⟩:∃ s5,(s4++[(true,ns.map D.int)]).set wH (true,acc++[hdE (ns,s4.length)])=s5:=⟨_,rfl⟩;rw[e5]at p5;have lH:=Zd (K.get hH w3 w4);have l4:=(k1.kb.trans (k2.trans (k3.trans k4).kb):Kb bo kp s s4).len;have lh:=Zd hH;have J:Kj wH (s4++[(true,ns.map D.int)]) s5:=by rw[<-e5];exact .set
 have b5:=b2.grw ((k3.trans k4).trans (.push (t:=(true,ns.map D.int))));refine⟨s5,ns,Ye (v:=c__law_asked) rfl rfl ((Zc (ZaR (F:=run T (n+9)) (e:=.v 0) rfl hc)).trans ((Zc ((ZY e1).trans Ze)).trans ((Zc (Zj m2)).trans ((Zc ((ZY c4).trans Ze)).trans ((Zc p5).trans (Zn (ZJ rfl))))))),(K.kl (.tail _ (.tail _ (.tail _ (.head _)))) (.tail _ (.tail _ (.tail _ (.tail _ (.head _)))))).trans (J.kl (.head _)),⟨J.get (K.get hc d2 d3) (Ne.symm w1),J.get (K.get ht d4 d5) (Ne.symm w2),⟨J.get b5.ob (Ne.symm w3),J.get b5.ke (Ne.symm w4),hb.ne⟩,ZbP h.nd,?_,hf,n3,h.dj⟩,s4.length,by rw[<-e5,Zk lH,if_pos rfl],J.get Zl (by omega),l4⟩
 have:=ZbK (ks:=ks) hf.r (tr:=tr) (by omega)
 show(Qr rs tr ks).length<=(N+1) * 7000;omega
end
structure De(tk:D)(m N wH:Nat)(pa pb:List Rw)(hs:List (List Int×Nat))(v:Sv)(s:Za)(v':Sv)(st':Za)(hn:List (List Int×Nat)):Prop where
 kl:Ks (wH :: v.ad) s st'
 sd:Sd tk m (N+1) v' st'
 pr:v'.rs=pa\/v'.rs=pb
 w:v'.w=v.w
 ad:∀ i∈v'.ad,i∈v.ad\/s.length<=i
 hl:hn.length<=1
 hd:st'[wH]?=some (true,(hs++hn).map hdE)
 hk:∀ p∈hn,st'[p.2]?=some (true,p.1.map D.int)/\s.length<=p.2/\p.2∉v'.ad
section
variable {F:Nat->Fn}{s s0 st st1 st':Za}{e a b:CE}{ρ ρ':Env}{d x y tk:D}{n w wt j m k L sz i N t bo kp d0 wH:Nat}{c:Int}{vs ns:Li Int}{r r2:Rw}{rs rs' pa pb px:Li Rw}{xs ys acc ds:Li D}{bb bt:Bool}{q p:CS}{tr:Li (Li Int)}{cv:Nat->Int}{ks:Li Ky}{v u:Sv}{hs:Li (Li Int×Nat)}
theorem Sd.lt(h:Sd tk m N v s):∀ i∈v.ad,i < s.length:=fun i hi=>by
 have hi:i∈[v.w,v.wt,v.bo,v.kp]:=hi;simp only[aG,aT,or_false]at hi;rcases hi with rfl|rfl|rfl|rfl
 ·exact Zd h.c
 ·exact Zd h.t
 ·exact Zd h.b.ob
 ·exact Zd h.b.ke
theorem ZbW(e:pb=pa.set k r2)(hk:k < pa.length)(h1:rs=pa\/rs=pb)(h2:px=pa\/px=pb):∃ r,px[k]?=some r/\rs.set k r=px:=by
 have s1:∀ r,rs.set k r=pa.set k r:=fun r=>h1.elim (fun z=>by rw[z]) fun z=>by rw[z,e,List.set_set]
 rcases h2 with rfl|rfl
 ·exact⟨px[k],lG7 hk,by rw[s1,List.set_getElem_self]⟩
 ·exact⟨r2,by rw[e,cK hk],by rw[s1,e]⟩
theorem Zfj(h:ev F a ρ st=some (.non,st')):ev F (.cmp .Is a (.c .non)) ρ st=some (.bl true,st'):=by
 show Zv (ev F a) (ev F (.c .non)) (Ya .Is) ρ st=_;unfold Zv;rw[h];rfl
theorem Zc8(hN:N<=90)(ht2:t<=2)(htm:t<=m)(h:Sd (tkD (-1000000000) 0 t) m N v s)(hp:v.rs=pa\/v.rs=pb)(ha:Rs m pa)(hb':Rs m pb)(epb:pb=pa.set k r2)(hk:k < pa.length)(hH:s[wH]?=some (true,hs.map hdE))(hl:hs.length < 900)(hw:wH∉v.ad):∃ v' st' hn,run T (n+11) 277 [.lst v.w,.int c,.tup [.int (k:Int),pgD (tkD (-1000000000) 0 t) m pa,pgD (tkD (-1000000000) 0 t) m pb],.lst wH] s=some (.bl true,st')/\De (tkD (-1000000000) 0 t) m N wH pa pb hs v s v' st' hn:=by
 have htk:=Zc1 (a:=-1000000000) (b:=0) (t:=t) (by omega)
 have lt:=h.lt;have lh:=Zd hH;obtain⟨tk,etk⟩:∃ tk,tkD (-1000000000) 0 t=tk:=⟨_,rfl⟩;obtain⟨PR,ePR⟩:∃ PR,D.tup [.int (k:Int),pgD tk m pa,pgD tk m pb]=PR:=⟨_,rfl⟩;rw[etk]at h htk ⊢;rw[ePR];obtain⟨w,wt,bo,kp,d0,L,rs,tr,ks⟩:=v;have hc:s[w]?=some (true,[.dic bo,pgD tk m rs,.lst wt,.int (L:Int)]):=h.c;have ht:s[wt]?=some (true,tr.map inD):=h.t
 have hb:Bk tk m rs tr L bo kp d0 ks s:=h.b;have hf:Fit m rs tr L:=h.f;have ln:ks.length<=N * 7000:=h.ln;have n3:tr.length<=3:=h.n3;have hp:rs=pa\/rs=pb:=hp;obtain⟨⟨d1,d2,d3⟩,⟨d4,d5⟩,d6⟩:=nd4.mp (show[w,wt,bo,kp].Nodup from h.dj);obtain⟨w1,w2,w3,w4⟩:=no4.mp (show wH∉[w,wt,bo,kp] from hw);obtain⟨ρ,hρ⟩:∃ ρ:Ot D->Ot D->Env,(fun x8 x9=>[some (.lst w),some (.int c),some PR,some (.lst wH),some (.dic bo),some (pgD tk m rs),some (.lst wt),some (.int (L:Int)),x8,x9])=ρ:=⟨_,rfl⟩
 have p1:ex (run T (n+10)) (.set4 4 5 6 7 (.v 0)) [some (.lst w),some (.int c),some PR,some (.lst wH),none,none,none,none,none,none] s=some (.nx (ρ none none),s):=by rw[<-hρ];exact ZaR rfl hc
 have c3:∀ {s:Za} (z:Int),Y (run T (n+10)) s (.cmp .Eq (.bin .Mod (.v 1) (.c (.int 3))) (.c (.int z))) (ρ none none) (.bl (decide (c % 3=z))):=fun z=>by rw[<-hρ];exact .cmp (.md (.r rf) (.r rf) (by decide)) (.r rf) fun _=>rfl
 obtain⟨s1,e1,k1⟩:=c3 0 s .refl;by_cases h0:c % 3=0
 ·-- asked
  rw[aH h0]at e1;obtain⟨s2,ns,e2,k2,S2,j,h2,h3,l3⟩:=UG (n:=n) hN htk (h.keep (k1.kl (la:=[])) fun _ _=>aT) (k1.get hH) (by rw[aB];exact hl) hw
  have l1:=k1.len;refine⟨_,s2,[(ns,j)],Ye (v:=c__law_deed) rfl rfl ((Zc p1).trans (Zn ((Yi e1).trans (Zn (ZJ (YS (xs:=[.lst w,.lst wH]) (by rw[<-hρ];rfl) e2)))))),k1.kl.trans k2,S2,hp,rfl,fun i hi=>.inl hi,aD _,?_,fun p hp=>?_⟩
  ·rw[bG];exact h2
  ·cases aP.mp hp
   exact⟨h3,aM l1 l3,fun hi=>by have:=lt j hi;omega⟩
 ·rw[aE h0]at e1
  have l1:=k1.len;have hc1:=k1.get hc;have ht1:=k1.get ht;have hb1:=hb.grw k1;have ll:Y (run T (n+10)) s1 (.len (.v 6)) (ρ none none) (.int (tr.length:Int)):=by
   have:=Y.lenl (F:=run T (n+10)) (a:=.v 6) (ρ:=ρ none none) ht1 (by rw[<-hρ];exact .r rf)
   rw[show((true,tr.map inD):Z4).2.length=tr.length from aB _]at this;exact this
  obtain⟨s2,e2,k2⟩:=(Y.and (c3 1) fun _=>.cmp (op:=.Lt) (k:=decide (tr.length < 3)) ll (.r rf) fun _=>congrArg some (decide_eq_decide.mpr (by omega)):Y (run T (n+10)) s1 (.and (.cmp .Eq (.bin .Mod (.v 1) (.c (.int 3))) (.c (.int 1))) (.cmp .Lt (.len (.v 6)) (.c (.int 3)))) (ρ none none) (.bl (decide (c % 3=1)&&decide (tr.length < 3)))) s1 .refl
  have k12:=k1.trans k2;have l2:=k12.len;have ht2':=k2.get ht1;have hc2:=k2.get hc1;have hb2:=hb1.grw k2;by_cases hq:(decide (c % 3=1)&&decide (tr.length < 3))=true
  ·-- a ZfV more
   rw[hq]at e2;have t3:=of_decide_eq_true (dG.mp hq).2;obtain⟨a8,ha8⟩:∃ a8,c / 3 % 2000000000 - 1000000000=a8:=⟨_,rfl⟩;have m8:=Zp (c / 3) (j:=2000000000) (by decide)
   obtain⟨b8,hb8⟩:∃ b8,c / 6 % 5 - 2=b8:=⟨_,rfl⟩;have m9:=Zp (c / 6) (j:=5) (by decide)
   have y8:Y (run T (n+10)) s2 (.bin .Sub (.bin .Mod (.bin .FloorDiv (.v 1) (.c (.int 3))) (.c (.int 2000000000))) (.c (.int 1000000000))) (ρ none none) (.int a8):=by rw[<-hρ,<-ha8];exact .sub (.md (.fd (.r rf) (.r rf) (by decide)) (.r rf) (by decide)) (.r rf)
   obtain⟨s3,e3,k3⟩:=y8 s2 .refl;have y9:Y (run T (n+10)) s3 (.slice (.tupE (.aC (.v 8) (.aC (.bin .Sub (.bin .Mod (.bin .FloorDiv (.v 1) (.c (.int 6))) (.c (.int 5))) (.c (.int 2))) .aN))) .nop (.part (.len (.ix (.v 5) (.c (.int 0)))))) (ρ (some (.int a8)) none) (inD ([a8,b8].take t)):=by
    have lt:=Y.lnT (F:=run T (n+10)) (s:=s3) (a:=.ix (.v 5) (.c (.int 0))) (ρ:=ρ (some (.int a8)) none) (xs:=List.replicate t (.tup [.int (-1000000000),.int 0])) (by rw[<-hρ,<-etk];exact .r rf)
    rw[bT]at lt;have:=Y.tkT (F:=run T (n+10)) (s:=s3) (xs:=[.int a8,.int b8]) (a:=.tupE (.aC (.v 8) (.aC (.bin .Sub (.bin .Mod (.bin .FloorDiv (.v 1) (.c (.int 6))) (.c (.int 5))) (.c (.int 2))) .aN))) (ρ:=ρ (some (.int a8)) none) (.cons (by rw[<-hρ];exact .r rf) (.cons (by rw[<-hρ,<-hb8];exact .sub (.md (.fd (.r rf) (.r rf) (by decide)) (.r rf) (by decide)) (.r rf)) .nil)) lt ht2
    rw[show[D.int a8,.int b8].take t=inZ ([a8,b8].take t) by unfold inZ;rw[List.map_take];rfl]at this
    exact this
   obtain⟨s4,e4,k4⟩:=y9 s3 .refl;obtain⟨u,hu⟩:∃ u,[a8,b8].take t=u:=⟨_,rfl⟩;rw[hu]at e4;have ul:u.length<=m:=by rw[<-hu,bH];omega
   have us:∀ z∈u,Sm z:=fun z hz=>by
    have hz:=List.mem_of_mem_take (hu ▸ hz);simp only[aG,aT,or_false]at hz;rcases hz with rfl|rfl<;>exact⟨by omega,by omega⟩
   have k24:=k12.trans (k3.trans k4);have ht4:=k24.get ht;have p5:=V4 (F:=run T (n+10)) (i:=6) (j:=wt) (e:=.v 9) (ρ:=ρ (some (.int a8)) (some (inD u))) (d:=inD u) (st:=s4) (st1:=s4) (by rw[<-hρ];rfl) (by rw[<-hρ];rfl) ht4 (by rw[aB];omega)
   rw[show tr.map inD++[inD u]=(tr++[u]).map inD by rw[bG];rfl]at p5
   obtain⟨s5,e5⟩:∃ s5,s4.set wt (true,(tr++[u]).map inD)=s5:=⟨_,rfl⟩;rw[e5]at p5;have J:Kj wt s4 s5:=by rw[<-e5];exact .set
   have b4:=hb.grw k24;have b5:Bk tk m rs tr L bo kp d0 ks s5:=⟨J.get b4.ob (Ne.symm d4),J.get b4.ke (Ne.symm d5),b4.ne⟩;obtain⟨s6,e6,k6,b6⟩:=Ze1 (n:=n+8) (t:=u) (by omega) b5
   have c6:ev (run T (n+10)) (.cmp .Is (.meth [(263,272)] (.v 4) (.aC (.v 9) .aN)) (.c .non)) (ρ (some (.int a8)) (some (inD u))) s5=some (.bl true,s6):=Zfj ((Xh (st':=s5) (xs:=[inD u]) b5.ob (by rw[<-hρ];rfl) rfl (by rw[<-hρ];rfl)).trans e6)
   have t8:∀ x8 x9 x,Zh (ρ x8 x9) 8 x=ρ (some x) x9:=by rw[<-hρ];intros;rfl
   have t9:∀ x8 x9 x,Zh (ρ x8 x9) 9 x=ρ x8 (some x):=by rw[<-hρ];intros;rfl
   have q3:=Zj (i:=8) e3;have q4:=Zj (i:=9) e4;rw[t8]at q3;rw[t9]at q4;refine⟨⟨w,wt,bo,kp,d0,L,rs,tr++[u],ks⟩,s6,[],Ye (v:=c__law_deed) rfl rfl ((Zc p1).trans ((Zc ((ZY e1).trans Ze)).trans (Zn ((Yi e2).trans ((Zc q3).trans ((Zc q4).trans ((Zc p5).trans (Zn (ZJ c6))))))))),k24.kl.trans ((J.kl (.tail _ (.tail _ (.head _)))).trans (k6.kl (.tail _ (.tail _ (.tail _ (.head _)))))),⟨k6.get (J.get (k24.get hc) d1) d2,k6.get (by rw[<-e5,Zk (Zd ht4),if_pos rfl]) d4,b6,h.nd,by show ks.length<=_;omega,⟨hf.r,hf.b,⟨fun z hz=>?_,fun z hz=>?_,?_⟩,hf.l⟩,?_,h.dj⟩,hp,rfl,fun i hi=>.inl hi,aU _,?_,fun p hp=>nomatch hp⟩
   ·rcases bI.mp hz with hz|hz
    ·exact hf.t.l z hz
    ·cases aP.mp hz;exact ul
   ·rcases bI.mp hz with hz|hz
    ·exact hf.t.s z hz
    ·cases aP.mp hz;exact us
   ·rw[aI];show _+1<=11;omega
   ·show(tr++[u]).length<=3;rw[aI];show _+1<=3;omega
   ·rw[aW];exact k6.get (J.get (k24.get hH) w2) w3
  ·-- the row is put
   rw[Bool.eq_false_iff.mpr hq]at e2;obtain⟨px,hpx,ypx⟩:∃ px,(px=pa\/px=pb)/\Y (run T (n+10)) s2 (.ix (.v 2) (.bin .Add (.c (.int 1)) (.bin .Mod (.bin .FloorDiv (.v 1) (.c (.int 3))) (.c (.int 2))))) (ρ none none) (pgD tk m px):=by
    have em:=Zp (c / 3) (j:=2) (by decide)
    have yi:∀ z:Nat,1+c / 3 % 2=(z:Int)->Y (run T (n+10)) s2 (.bin .Add (.c (.int 1)) (.bin .Mod (.bin .FloorDiv (.v 1) (.c (.int 3))) (.c (.int 2)))) (ρ none none) (.int (z:Int)):=fun z hz=>by rw[<-hz,<-hρ];exact .add (.r rf) (.md (.fd (.r rf) (.r rf) (by decide)) (.r rf) (by decide))
    have v2:Y (run T (n+10)) s2 (.v 2) (ρ none none) (.tup [.int (k:Int),pgD tk m pa,pgD tk m pb]):=by rw[ePR,<-hρ];exact .r rf
    by_cases h2:c / 3 % 2=0
    ·exact⟨pa,.inl rfl,.ixt (j:=1) v2 (yi 1 (by omega)) rfl⟩
    ·exact⟨pb,.inr rfl,.ixt (j:=2) v2 (yi 2 (by omega)) rfl⟩
   obtain⟨r,hr,ers⟩:=ZbW epb hk hp hpx;obtain⟨s3,e3,k3⟩:=ypx s2 .refl;have hc3:=k3.get hc2;have p4:=Zc6 (F:=run T (n+10)) (i0:=0) (a:=.c (.int 1)) (p:=1) e3 (by rw[<-hρ];rfl) rfl hc3 (by show 1 < 4;decide)
   obtain⟨s4,e4⟩:∃ s4,s3.set w (true,[D.dic bo,pgD tk m px,.lst wt,.int (L:Int)])=s4:=⟨_,rfl⟩;have p4:ex (run T (n+10)) (.put 0 (.c (.int 1)) (.ix (.v 2) (.bin .Add (.c (.int 1)) (.bin .Mod (.bin .FloorDiv (.v 1) (.c (.int 3))) (.c (.int 2)))))) (ρ none none) s2=some (.nx (ρ none none),s4):=by rw[<-e4];exact p4
   have J:Kj w s3 s4:=by rw[<-e4];exact .set
   have c4:s4[w]?=some (true,[D.dic bo,pgD tk m px,.lst wt,.int (L:Int)]):=by rw[<-e4,Zk (Zd hc3),if_pos rfl]
   have k13:=k12.trans k3;have b3:=hb.grw k13;have b4:Bk tk m rs tr L bo kp d0 ks s4:=⟨J.get b3.ob (Ne.symm d2),J.get b3.ke (Ne.symm d3),b3.ne⟩;have vk:∀ {s:Za},Y (run T (n+10)) s (.ix (.v 2) (.c (.int 0))) (ρ none none) (.int (k:Int)):=by rw[<-hρ,<-ePR];exact .r rf
   have yr:Y (run T (n+10)) s4 (.ix (.ix (.ix (.v 0) (.c (.int 1))) (.c (.int 2))) (.ix (.v 2) (.c (.int 0)))) (ρ none none) (rwE r):=.ixt (xs:=px.map rwE) (.ixt (j:=2) (xs:=[tk,.int (m:Int),.tup (px.map rwE)]) (.ixl (j:=1) c4 (by rw[<-hρ];exact .r rf) (.r rf) rfl) (.r rf) rfl) vk (by rw[aR,hr];rfl)
   obtain⟨s5,e5,k5⟩:=(Y.cons vk (.cons yr .nil)) s4 .refl;have b5:=b4.grw k5;have hrl:rs.length=pa.length:=hp.elim (fun z=>by rw[z]) fun z=>by rw[z,epb,aY]
   obtain⟨s6,kp',d1',e6,k6,b6,hk6,hd⟩:=Q3 (n:=n+4) (r:=r) (ks:=ks) hf (by rw[ers];exact hpx.elim (fun z=>z ▸ ha) fun z=>z ▸ hb') (by omega:k < rs.length) h.nd (by omega) b5
   rw[ers]at b6;have c6:ev (run T (n+10)) (.cmp .Is (.meth [(263,271)] (.v 4) (.aC (.ix (.v 2) (.c (.int 0))) (.aC (.ix (.ix (.ix (.v 0) (.c (.int 1))) (.c (.int 2))) (.ix (.v 2) (.c (.int 0)))) .aN))) (.c .non)) (ρ none none) s4=some (.bl true,s6):=Zfj ((Xh (st':=s5) (st1:=s4) b4.ob (by rw[<-hρ];rfl) rfl e5).trans e6)
   have l6:=(J.trans (k5.kj)).len;have lf:=List.length_filter_le (stP m rs L k r) ks;have lw:=Zd hc;have lt':=Zd ht;have lb:=Zd hb.ob;have l3:=k13.len;refine⟨⟨w,wt,bo,kp',d1',L,px,tr,ks.filter (stP m rs L k r)⟩,s6,[],Ye (v:=c__law_deed) rfl rfl ((Zc p1).trans ((Zc ((ZY e1).trans Ze)).trans ((Zc ((ZY e2).trans Ze)).trans ((Zc p4).trans (Zn (ZJ c6)))))),k13.kl.trans ((J.kl (.tail _ (.head _))).trans (k5.kl.trans (k6.kl (.tail _ (.tail _ (.tail _ (.head _))))))),⟨k6.get (k5.get c4) d2,k6.get (k5.get (J.get (k13.get ht) (Ne.symm d1))) d4,b6,h.nd.filter _,by show(ks.filter _).length<=_;omega,⟨hpx.elim (fun z=>z ▸ ha) fun z=>z ▸ hb',hf.b,hf.t,hf.l⟩,n3,(nd4.mpr ⟨⟨d1,d2,by omega⟩,⟨d4,by omega⟩,by omega⟩:[w,wt,bo,kp'].Nodup)⟩,hpx,rfl,fun i hi=>?_,aU _,?_,fun p hp=>nomatch hp⟩
   ·have hi:i∈[w,wt,bo,kp']:=hi
    simp only[aG,aT,or_false]at hi;rcases hi with rfl|rfl|rfl|rfl
    ·exact .inl (.head _)
    ·exact .inl (.tail _ (.head _))
    ·exact .inl (.tail _ (.tail _ (.head _)))
    ·exact .inr (by omega)
   ·rw[aW];exact k6.get (k5.get (J.get (k13.get hH) w1)) w3
end
section
variable {F:Nat->Fn}{s s0 st st1 st':Za}{e a b c:CE}{ρ ρ':Env}{d x y tk:D}{n w wt j m k L sz i N t bo kp d0 wH wS:Nat}{vs ns:Li Int}{r r2:Rw}{rs rs' pa pb px:Li Rw}{xs ys acc ds:Li D}{bb bt:Bool}{q p:CS}{tr:Li (Li Int)}{cv:Nat->Int}{ks:Li Ky}{v u:Sv}{hs:Li (Li Int×Nat)}
theorem Y.turned{p:Nat}(hp:p < rs.length)(hl:rs.length<=900)(h1:Y F s a ρ (.tup (rs.map rwE)))(h2:Y F s b ρ (.int (p:Int)))(h3:Y F s c ρ (rwE r)):Y F s (.bin .Add (.bin .Add (.slice a .nop (.part b)) (.tupE (.aC c .aN))) (.slice a (.part (.bin .Add b (.c (.int 1)))) .nop)) ρ (.tup ((rs.set p r).map rwE)):=by
 have f1':p < (rs.map rwE).length:=by rw[aB];exact hp
 rw[List.map_set,<-Qf f1'];exact .adT (.adT (.tkT h1 h2 (cX f1')) (.cons h3 .nil) (by rw[bH,aB];show _+1<=_;omega)) (.dpT h1 (by rw[bQ];exact .add h2 (.r rf)) f1') (by rw[aI,bH,cM,aB];show _+1+_<=_;omega)
theorem Y.tpO(h:Lv s (ev F e ρ) xs):Y F s (.tOf e) ρ (.tup xs):=fun st g=>by
 obtain⟨s1,w,b,e1,h1,k1⟩:=h st g;exact⟨s1,Yn e1 h1,k1⟩
theorem Q4{p:Nat}(hc:Cv s cv)(ht:t<=2)(hp:p<=900):∃ u:Li Int,(u.length=t/\∀ v∈u,Sm v)/\C (run T (n+2)) s 101 [.lst 0,.int (p:Int),.int (t:Int)] (inD u):=by
 have hnv:∀ c:Int,∃ v,Sm v/\C (run T (n+1)) s 185 [.int c] (.int v):=fun c=>Q6 (n:=n)
 refine⟨(List.range t).map fun a=>Classical.choose (hnv (cv (p+a))),⟨by rw[aB,bX],fun v hv=>?_⟩,.of (v:=c__law_inputs) rfl rfl (.ret ?_)⟩
 ·obtain⟨a,_,rfl⟩:=bB.mp hv
  exact(Classical.choose_spec (hnv (cv (p+a)))).1
 ·unfold inD inZ
  rw[bN];exact .tpO (VI (F:=run T (n+1)) (b:=one) (wk:=Yh true) (fr:=[1,0]) (it:=.v 2) (elt:=.call 185 (.aC (.call 27 (.aC (.v 2) (.aC (.bin .Add (.v 1) (.v 0)) .aN)) []) .aN) []) (en:=fun(k:Nat)=>D.int (k:Int)) (l:=List.range t) (Wk.rng (N:=t) (by omega) (.r rf)) (by rw[bX];omega) fun a ha=>.call1 (.call (xs:=[.lst 0,.int ((p+a:Nat):Int)]) (.cons (.r rf) (.cons (by rw[bQ];exact .add (.r rf) (.r rf)) .nil)) (hc _ _ (by have:=cJ.mp ha;omega))) ((Classical.choose_spec (hnv (cv (p+a)))).2))
abbrev pgE(x1:Int)(t m sz:Nat)(j:Nat)(x6 x7 x8:Ot D):Env:=[some (.lst 0),some (.int x1),some (.int (t:Int)),some (.int (m:Int)),some (.int (sz:Int)),some (.lst j),x6,x7,x8]
theorem ZaY(hc:Cv s cv)(g:Grw s st):∃ t m k pa r2 st',(t<=2/\t<=m/\m<=6)/\(Rs m pa/\Rs m (pa.set k r2)/\k < pa.length)/\run T (n+4) 197 [.lst 0] st=some (.tup [.int (k:Int),pgD (tkD (-1000000000) 0 t) m pa,pgD (tkD (-1000000000) 0 t) m (pa.set k r2)],st')/\Grw st st':=by
 obtain⟨t,u,m,ht,hu,hm,h1,h2,h3,h4,h5⟩:=many (cv 0);obtain⟨sz,hz,hz1,hz2⟩:∃ z:Nat,cv 1 % 3+1=(z:Int)/\1<=z/\z<=3:=by
  have:=Zp (cv 1) (j:=3) (by decide)
  exact⟨(cv 1 % 3+1).toNat,(bP (by omega)).symm,by omega,by omega⟩
 have em:=Zp (cv 1 / 3) (j:=(sz:Int)) (by omega)
 obtain⟨k,hk⟩:∃ k:Nat,cv 1 / 3 % (sz:Int)=(k:Int):=⟨_,(bP em.1).symm⟩;obtain⟨s1,e1,k1⟩:=Y.cell (n:=n+2) (k:=0) (ρ:=[some (.lst 0),none,none,none,none,none,none,none,none]) hc rfl (by decide) st g
 have mx:Y (run T (n+3)) s (.max (.c (.int 1)) (.v 2)) [some (.lst 0),some (.int (cv 0)),some (.int (t:Int)),none,none,none,none,none,none] (.int (u:Int)):=.r fun st=>by rw[<-hu];rfl
 have y2:Y (run T (n+3)) s (.bin .Mod (.v 1) (.c (.int 3))) [some (.lst 0),some (.int (cv 0)),none,none,none,none,none,none,none] (.int (t:Int)):=by rw[<-ht];exact .md (.r rf) (.r rf) (by decide)
 obtain⟨s2,e2,k2⟩:=y2 s1 (g.trans k1);have y3:Y (run T (n+3)) s (.bin .Add (.max (.c (.int 1)) (.v 2)) (.bin .Mod (.bin .FloorDiv (.v 1) (.c (.int 3))) (.bin .Sub (.c (.int 6)) (.max (.c (.int 1)) (.v 2))))) [some (.lst 0),some (.int (cv 0)),some (.int (t:Int)),none,none,none,none,none,none] (.int (m:Int)):=by rw[<-hm];exact .add mx (.md (.fd (.r rf) (.r rf) (by decide)) (.sub (.r rf) mx) h5)
 obtain⟨s3,e3,k3⟩:=y3 s2 (g.trans (k1.trans k2));have y4:Y (run T (n+3)) s (.bin .Add (.bin .Mod (.call 27 (.aC (.v 0) (.aC (.c (.int 1)) .aN)) []) (.c (.int 3))) (.c (.int 1))) [some (.lst 0),some (.int (cv 0)),some (.int (t:Int)),some (.int (m:Int)),none,none,none,none,none] (.int (sz:Int)):=by rw[<-hz];exact .add (.md (Y.cell (k:=1) hc rfl (by decide)) (.r rf) (by decide)) (.r rf)
 obtain⟨s4,e4,k4⟩:=y4 s3 (g.trans (k1.trans (k2.trans k3)));have kk:=k1.trans (k2.trans (k3.trans k4));have gg:=g.trans kk;obtain⟨xs,ρ',s6,hl,hx,⟨x6,rfl⟩,e6,k6,h6⟩:=fill (F:=run T (n+3)) (e:=.bin .Add (.v 4) (.c (.int 1))) (q:=Yl) (i:=6) (I:=fun ρ=>∃ x6,ρ=pgE (cv 0) t m sz s4.length x6 none none) (P:=fun d=>∃ r,YN m sz r/\d=rwE r) (ρ:=pgE (cv 0) t m sz s4.length none none none) (st:=s4++[(true,[])]) (N:=sz+1) (s:=s) (j:=s4.length) rfl (by omega) ⟨none,rfl⟩ gg.len (gg.trans .push) Zl fun k hk ρ hI st acc g ha hl=>by
  obtain⟨x6,rfl⟩:=hI;obtain⟨r,s1,hr,e1,k1⟩:=Zg2 (n:=n) (s:=s) (st:=st) (m:=m) (sz:=sz) (fr:=[6,0]) (it:=.c (.int 3)) (elt:=.call 27 (.aC (.v 2) (.aC (.bin .Add (.bin .Add (.c (.int 3)) (.bin .Mult (.c (.int 3)) (.v 1))) (.v 0)) .aN)) []) (b:=.aC (.v 3) (.aC (.v 4) .aN)) (g0:=fun a=>cv (3+3 * k+a)) (ρ:=pgE (cv 0) t m sz s4.length (some (.int (k:Int))) none none) h3 (by omega) (by omega) (.r rf) (fun a ha=>.call (xs:=[.lst 0,.int ((3+3 * k+a:Nat):Int)]) (.cons (.r rf) (.cons (by
    rw[show((3+3 * k+a:Nat):Int)=3+3 * (k:Int)+(a:Int) by omega]
    exact .add (.add (.r rf) (.mul (.r rf) (.r rf) (Up (by omega)))) (.r rf)) .nil)) (hc _ _ (by omega))) g (fun _=>rfl)
  obtain⟨s4,e4,k4,h4⟩:=Za5 (i:=5) (acc:=acc) rfl e1 k1 ha hl;exact⟨rwE r,_,s4,⟨r,hr,rfl⟩,⟨_,rfl⟩,e4,k4,h4⟩
 obtain⟨rs,rfl,hrs⟩:=all_map hx;rw[aB]at hl;have g6:Grw s s6:=k6.grw gg.len (gg.trans .push);have y7:Y (run T (n+3)) s (.bin .Mod (.bin .FloorDiv (.call 27 (.aC (.v 0) (.aC (.c (.int 1)) .aN)) []) (.c (.int 3))) (.v 4)) (pgE (cv 0) t m sz s4.length x6 none none) (.int (k:Int)):=by rw[<-hk];exact .md (.fd (Y.cell (k:=1) hc rfl (by decide)) (.r rf) (by decide)) (.r rf) (by omega)
 obtain⟨s7,e7,k7⟩:=y7 s6 g6;obtain⟨tk,etk⟩:∃ tk,tkD (-1000000000) 0 t=tk:=⟨_,rfl⟩;have y8:Y (run T (n+3)) s7 (.bin .Mult (.tupE (.aC (.tupE (.aC (.neg (.c (.int 1000000000))) (.aC (.c (.int 0)) .aN))) .aN)) (.v 2)) (pgE (cv 0) t m sz s4.length (some (.int (k:Int))) none none) tk:=by rw[<-etk];exact .rep (.r rf) (.r rf) (by omega)
 obtain⟨s8,e8,k8⟩:=y8 s7 .refl;have h8:=(k7.trans k8).get h6;have sl:=Lv.sl (F:=run T (n+3)) (s:=s8) (w:=s4.length) (t:=(true,rs.map rwE)) (a:=.v 5) (b:=.nop) (c:=.part (.v 4)) (ρ:=pgE (cv 0) t m sz s4.length (some (.int (k:Int))) (some tk) none) (lo:=none) (hi:=some (sz:Int)) h8 (.r rf) (x:=.non) (y:=.int (sz:Int)) (.r rf) (.r rf) (fun _=>rfl)
 rw[show YQ ((true,rs.map rwE):Z4).2 none (some (sz:Int))=(rs.take sz).map rwE by rw[Js (by rw[aB];omega),List.map_take]]at sl
 obtain⟨s9,e9,k9⟩:=(Y.tpO sl) s8 .refl;have hsz:sz < rs.length:=by omega
 have pl:(rs.take sz).length=sz:=by rw[bH];omega
 have h9:=k9.get h8;have y10:Y (run T (n+3)) s9 (.ix (.v 5) (.v 4)) (pgE (cv 0) t m sz s4.length (some (.int (k:Int))) (some tk) (some (.tup ((rs.take sz).map rwE)))) (rwE rs[sz]):=.ixl (j:=sz) h9 (.r rf) (.r rf) (by show(rs.map rwE)[sz]?=_;rw[aR,lG7 hsz];rfl)
 have hpa:Rs m (rs.take sz):=⟨by omega,fun r h=>by rw[pl];exact hrs r (List.mem_of_mem_take h)⟩
 have y11:Y (run T (n+3)) s9 (.tupE (.aC (.v 6) (.aC (.tupE (.aC (.v 7) (.aC (.v 3) (.aC (.v 8) .aN)))) (.aC (.tupE (.aC (.v 7) (.aC (.v 3) (.aC (.bin .Add (.bin .Add (.slice (.v 8) .nop (.part (.v 6))) (.tupE (.aC (.ix (.v 5) (.v 4)) .aN))) (.slice (.v 8) (.part (.bin .Add (.v 6) (.c (.int 1)))) .nop)) .aN)))) .aN)))) (pgE (cv 0) t m sz s4.length (some (.int (k:Int))) (some tk) (some (.tup ((rs.take sz).map rwE)))) (.tup [.int (k:Int),pgD tk m (rs.take sz),pgD tk m ((rs.take sz).set k rs[sz])]):=.cons (.r rf) (.cons (.r rf) (.cons (.cons (.r rf) (.cons (.r rf) (.cons (.turned (by omega) (by omega) (.r rf) (.r rf) y10) .nil))) .nil))
 obtain⟨s11,e11,k11⟩:=y11 s9 .refl;refine⟨t,m,k,rs.take sz,rs[sz],s11,⟨h1,h2,h4⟩,⟨hpa,hpa.set (by rw[pl];exact hrs _ (dM hsz)),by omega⟩,?_,kk.trans ((k6.grw (aD _) .push).trans (k7.trans (k8.trans (k9.trans k11))))⟩
 rw[etk];exact Ye (v:=c__law_programs) rfl rfl ((Zc (Zj e1)).trans ((Zc (Zj e2)).trans ((Zc (Zj e3)).trans ((Zc (Zj e4)).trans ((Zc (p:=.set 5 (.lstE .aN)) (s':=s4++[(true,[])]) rfl).trans ((Zc e6).trans ((Zc (Zj e7)).trans ((Zc (Zj e8)).trans ((Zc (Zj e9)).trans (Zn (ZJ e11)))))))))))
end
abbrev lE(p:D)(wS:Nat)(x3 x4 x5 x6 x7 x8 x9 x10:Ot D):Env:=[some (.lst 0),some p,some (.lst wS),x3,x4,x5,x6,x7,x8,x9,x10]
structure Pr(tk:D)(m N wH:Nat)(pa pb:List Rw)(hs:List (List Int×Nat))(fx:List Nat)(v u:Sv)(s:Za):Prop where
 a:Sd tk m N v s
 b:Sd tk m N u s
 va:v.rs=pa\/v.rs=pb
 ub:u.rs=pa\/u.rs=pb
 hd:s[wH]?=some (true,hs.map hdE)
 hk:∀ p∈hs,s[p.2]?=some (true,p.1.map D.int)/\p.2∉v.ad/\p.2∉u.ad/\p.2≠wH
 hl:hs.length<=N
 dj:∀ i∈v.ad,i∉u.ad
 wv:wH∉v.ad
 wu:wH∉u.ad
 fx:∀ i∈fx,i < s.length/\i≠wH/\i∉v.ad/\i∉u.ad
variable{x4 x5 x6 x7:Ot D}
section
variable {F:Nat->Fn}{s s0 st st1 st':Za}{e a b:CE}{ρ ρ':Env}{d x y tk:D}{n w wt j m k L sz i N t bo kp d0 wH wS:Nat}{c:Int}{vs ns:Li Int}{r r2:Rw}{rs rs' pa pb px:Li Rw}{xs ys acc ds:Li D}{bb bt:Bool}{q p:CS}{tr:Li (Li Int)}{cv:Nat->Int}{ks:Li Ky}{v u v' u':Sv}{hs hn:Li (Li Int×Nat)}{fx:Li Nat}
theorem Pr.swap(P:Pr tk m N wH pa pb hs fx v u s):Pr tk m N wH pa pb hs fx u v s:=⟨P.b,P.a,P.ub,P.va,P.hd,fun p hp=>let ⟨a,b,c,d⟩:=P.hk p hp;⟨a,c,b,d⟩,P.hl,fun i hi hv=>P.dj i hv hi,P.wu,P.wv,fun i hi=>let ⟨a,b,c,d⟩:=P.fx i hi;⟨a,b,d,c⟩⟩
theorem Pr.deed(P:Pr tk m N wH pa pb hs fx v u s)(d:De tk m N wH pa pb hs v s v' st' hn):Pr tk m (N+1) wH pa pb (hs++hn) fx v' u st'/\∀ i∈fx,st'[i]?=s[i]?:=by
 have lu:=P.b.lt;have lH:=Zd P.hd;have no:∀ {i:Nat},i < s.length->i∉v.ad->i∉v'.ad:=fun hi hv h=>(d.ad _ h).elim hv fun z=>by omega
 have nu:∀ i∈u.ad,i∉wH :: v.ad:=fun i hi h=>(aG.mp h).elim (fun e=>P.wu (e ▸ hi)) fun h=>P.dj i h hi
 have sl:=d.kl.len;refine⟨⟨d.sd,(P.b.keep d.kl nu).more (bU _),d.pr,P.ub,d.hd,fun p hp=>?_,by have:=d.hl;have:=P.hl;rw[aI];omega,fun i hi hu=>(d.ad i hi).elim (fun z=>P.dj i z hu) fun z=>by have:=lu i hu;omega,no lH P.wv,P.wu,fun i hi=>?_⟩,fun i hi=>?_⟩
 ·rcases bI.mp hp with hp|hp
  ·obtain⟨a,b,c,e⟩:=P.hk p hp
   exact⟨d.kl.get a fun h=>(aG.mp h).elim e b,no (Zd a) b,c,e⟩
  ·obtain⟨a,b,c⟩:=d.hk p hp
   exact⟨a,c,fun h=>by have:=lu _ h;omega,by omega⟩
 ·obtain⟨a,b,c,e⟩:=P.fx i hi
  exact⟨aS a sl,b,no a c,e⟩
 ·obtain⟨a,b,c,e⟩:=P.fx i hi
  exact d.kl.old i a fun h=>(aG.mp h).elim b c
theorem Je(hN:N<=90)(htk:okD 7 tk=true)(P:Pr tk m N wH pa pb hs fx v u s):∃ v' st' hn,run T (n+10) 276 [.lst v.w,.lst wH] s=some (.bl true,st')/\De tk m N wH pa pb hs v s v' st' hn:=by
 have lt:=P.a.lt;obtain⟨s2,ns,e2,k2,S2,j,h2,h3,l3⟩:=UG (n:=n) hN htk P.a P.hd (by rw[aB];have:=P.hl;omega) P.wv
 refine⟨_,s2,[(ns,j)],e2,k2,S2,P.va,rfl,fun i hi=>.inl hi,aD _,by rw[bG];exact h2,fun p hp=>?_⟩
 cases aP.mp hp
 exact⟨h3,l3,fun hi=>by have:=lt j hi;omega⟩
theorem WG(hi:i<=1)(hc:Cv st cv)(ht2:t<=2)(htm:t<=m)(hm:m<=6)(ha:Rs m pa)(hb:Rs m pb)(hS:st[wS]?=some (true,acc))(hl:acc.length < 900):∃ v st' y4 y5 y6 y7,ex (run T (n+11)) Ym (lE (.tup [.int (k:Int),pgD (tkD (-1000000000) 0 t) m pa,pgD (tkD (-1000000000) 0 t) m pb]) wS (some (.int (i:Int))) x4 x5 x6 x7 none none none) st=some (.nx (lE (.tup [.int (k:Int),pgD (tkD (-1000000000) 0 t) m pa,pgD (tkD (-1000000000) 0 t) m pb]) wS (some (.int (i:Int))) y4 y5 y6 y7 none none none),st')/\Kj wS st st'/\st'[wS]?=some (true,acc++[.lst v.w])/\Sd (tkD (-1000000000) 0 t) m 0 v st'/\(v.rs=pa\/v.rs=pb)/\∀ a∈v.ad,st.length<=a:=by
 obtain⟨tk,etk⟩:∃ tk,tkD (-1000000000) 0 t=tk:=⟨_,rfl⟩;rw[etk];obtain⟨PR,ePR⟩:∃ PR,D.tup [.int (k:Int),pgD tk m pa,pgD tk m pb]=PR:=⟨_,rfl⟩;rw[ePR];obtain⟨E,hE⟩:∃ E:Ot D->Ot D->Ot D->Ot D->Env,(fun x4 x5 x6 x7=>lE PR wS (some (.int (i:Int))) x4 x5 x6 x7 none none none)=E:=⟨_,rfl⟩
 suffices Z:∃ v st' y4 y5 y6 y7,ex (run T (n+11)) Ym (E x4 x5 x6 x7) st=some (.nx (E y4 y5 y6 y7),st')/\Kj wS st st'/\st'[wS]?=some (true,acc++[.lst v.w])/\Sd tk m 0 v st'/\(v.rs=pa\/v.rs=pb)/\∀ a∈v.ad,st.length<=a by rw[<-hE]at Z;exact Z
 obtain⟨C,hC⟩:∃ C,cv (15+i)=C:=⟨_,rfl⟩;have y4:Y (run T (n+11)) st (.call 27 (.aC (.v 0) (.aC (.bin .Add (.c (.int 15)) (.v 3)) .aN)) []) (E x4 x5 x6 x7) (.int C):=by
  rw[<-hE,<-hC];exact .call (xs:=[.lst 0,.int ((15+i:Nat):Int)]) (.cons (.r rf) (.cons (by rw[bQ];exact .add (.r rf) (.r rf)) .nil)) (hc _ _ (by omega))
 obtain⟨s1,e1,k1⟩:=y4 st .refl;obtain⟨px,hpx,ypx⟩:∃ px,(px=pa\/px=pb)/\Y (run T (n+11)) st (.ix (.v 1) (.bin .Add (.c (.int 1)) (.bin .Mult (.v 3) (.bin .Mod (.v 4) (.c (.int 2)))))) (E (some (.int C)) x5 x6 x7) (pgD tk m px):=by
  have em:=Zp C (j:=2) (by decide)
  have yi:∀ z:Nat,1+(i:Int) * (C % 2)=(z:Int)->Y (run T (n+11)) st (.bin .Add (.c (.int 1)) (.bin .Mult (.v 3) (.bin .Mod (.v 4) (.c (.int 2))))) (E (some (.int C)) x5 x6 x7) (.int (z:Int)):=fun z hz=>by rw[<-hz,<-hE];exact .add (.r rf) (.mul (.r rf) (.md (.r rf) (.r rf) (by decide)) (Up (by omega)))
  have v2:Y (run T (n+11)) st (.v 1) (E (some (.int C)) x5 x6 x7) (.tup [.int (k:Int),pgD tk m pa,pgD tk m pb]):=by rw[ePR,<-hE];exact .r rf
  by_cases h2:(i:Int) * (C % 2)=0
  ·exact⟨pa,.inl rfl,.ixt (j:=1) v2 (yi 1 (by omega)) rfl⟩
  ·have h3:(i:Int) * (C % 2)=1:=by
    have:i=0\/i=1:=by omega
    rcases this with rfl|rfl
    ·exact absurd (Int.zero_mul _) h2
    ·omega
   exact⟨pb,.inr rfl,.ixt (j:=2) v2 (yi 2 (by omega)) rfl⟩
 obtain⟨s2,e2,k2⟩:=ypx s1 k1;have ec:=Zp (C / 2) (j:=3) (by decide)
 obtain⟨cnt,hcn⟩:∃ z:Nat,C / 2 % 3=(z:Int):=⟨_,(bP ec.1).symm⟩;have hin:∀ a:Nat,∃ u:Li Int,(u.length=t/\∀ v∈u,Sm v)/\(a<=2->Dp.C (run T (n+11)) st 101 [.lst 0,.int ((17+4 * i+2 * a:Nat):Int),.int (t:Int)] (inD u)):=fun a=>by
  by_cases h:a<=2
  ·obtain⟨u,hu,cu⟩:=Q4 (n:=n+9) (p:=17+4 * i+2 * a) hc ht2 (by omega)
   exact⟨u,hu,fun _=>cu⟩
  ·exact⟨List.replicate t 0,⟨bT,fun v hv=>by rw[(List.mem_replicate.mp hv).2];exact⟨by decide,by decide⟩⟩,fun z=>absurd z h⟩
 have lc:Lg st (ev (run T (n+11)) XQ (E (some (.int C)) (some (pgD tk m px)) x6 x7)) ((List.range cnt).map fun a=>inD (Classical.choose (hin a))):=by
  rw[<-hE];exact Zaa (F:=run T (n+11)) (b:=one) (wk:=Yh true) (fr:=[3,5,0]) (it:=.bin .Mod (.bin .FloorDiv (.v 4) (.c (.int 2))) (.c (.int 3))) (elt:=.call 101 (.aC (.v 3) (.aC (.bin .Add (.bin .Add (.c (.int 17)) (.bin .Mult (.c (.int 4)) (.v 1))) (.bin .Mult (.c (.int 2)) (.v 0))) (.aC (.len (.ix (.v 2) (.c (.int 0)))) .aN))) []) (en:=fun(k:Nat)=>D.int (k:Int)) (g:=fun a=>inD (Classical.choose (hin a))) (l:=List.range cnt) (Wk.rng (N:=cnt) (by omega) (by rw[<-hcn];exact .md (.fd (.r rf) (.r rf) (by decide)) (.r rf) (by decide))) (by rw[bX];omega) fun a ha=>by
   have ha:=cJ.mp ha;refine .call (xs:=[.lst 0,.int ((17+4 * i+2 * a:Nat):Int),.int (t:Int)]) (.cons (.r rf) (.cons ?_ (.cons ?_ .nil))) ((Classical.choose_spec (hin a)).2 (by omega))
   ·rw[show((17+4 * i+2 * a:Nat):Int)=17+4 * (i:Int)+2 * (a:Int) by omega]
    exact .add (.add (.r rf) (.mul (.r rf) (.r rf) (Up (by omega)))) (.mul (.r rf) (.r rf) (Up (by omega)))
   ·have:=Y.lnT (F:=run T (n+11)) (s:=st) (a:=.ix (.v 2) (.c (.int 0))) (ρ:=ZK one (lE PR wS (some (.int (i:Int))) (some (.int C)) (some (pgD tk m px)) x6 x7 none none none) [3,5,0] (.int (a:Int))) (xs:=List.replicate t (.tup [.int (-1000000000),.int 0])) (by rw[<-etk];exact .r rf)
    rw[bT]at this;exact this
 obtain⟨s3,wt,e3,h3,k3,l3⟩:=lc s2 (k1.trans k2);obtain⟨tr,htr⟩:∃ tr:Li (Li Int),((List.range cnt).map fun a=>Classical.choose (hin a))=tr:=⟨_,rfl⟩
 rw[show((List.range cnt).map fun a=>inD (Classical.choose (hin a)))=tr.map inD by rw[<-htr,bN];rfl]at h3
 have tl:tr.length=cnt:=by rw[<-htr,aB,bX]
 have to:∀ u∈tr,u.length=t/\∀ v∈u,Sm v:=fun u hu=>by
  rw[<-htr]at hu;obtain⟨a,_,rfl⟩:=bB.mp hu;exact(Classical.choose_spec (hin a)).1
 have eL:=Zp (C / 6) (j:=7) (by decide)
 obtain⟨L,hL⟩:∃ z:Nat,C / 6 % 7=(z:Int):=⟨_,(bP eL.1).symm⟩;have y7:Y (run T (n+11)) s3 (.bin .Mod (.bin .FloorDiv (.v 4) (.c (.int 6))) (.c (.int 7))) (E (some (.int C)) (some (pgD tk m px)) (some (.lst wt)) x7) (.int (L:Int)):=by rw[<-hL,<-hE];exact .md (.fd (.r rf) (.r rf) (by decide)) (.r rf) (by decide)
 obtain⟨s4,e4,k4⟩:=y7 s3 .refl;have h4:=k4.get h3;obtain⟨s5,kp,e5,k5,b5,l5⟩:=ZfG (n:=n+9) (tk:=tk) (m:=m) (rs:=px) (L:=L) (tr:=tr) (ds:=[]) (a:=.aC (.v 5) (.aC (.tOf (.v 6)) (.aC (.v 7) .aN))) (ρ:=E (some (.int C)) (some (pgD tk m px)) (some (.lst wt)) (some (.int (L:Int)))) (st:=s4) (st1:=s4) (xs:=[pgD tk m px,.tup (tr.map inD),.int (L:Int)]) (by omega) (by rw[<-hE];exact XF rfl (XF (Yn rfl h4) rfl)) rfl
 have e6:ev (run T (n+11)) (.lstE (.aC (.mk 263 264 (.aC (.v 5) (.aC (.tOf (.v 6)) (.aC (.v 7) .aN))) []) (.aC (.v 5) (.aC (.v 6) (.aC (.v 7) .aN))))) (E (some (.int C)) (some (pgD tk m px)) (some (.lst wt)) (some (.int (L:Int)))) s4=some (.lst s5.length,s5++[(true,[.dic s4.length,pgD tk m px,.lst wt,.int (L:Int)])]):=by
  show Zo (ev (run T (n+11)) (.aC _ _)) QU _ s4=_;unfold Zo;rw[XF (xs:=[pgD tk m px,.lst wt,.int (L:Int)]) (b:=.aC (.v 5) (.aC (.v 6) (.aC (.v 7) .aN))) e5 (by rw[<-hE];rfl)]
  rfl
 have kk:=k1.trans (k2.trans (k3.trans (k4.trans k5)));have hS6:=(kk.trans (.push (t:=(true,[.dic s4.length,pgD tk m px,.lst wt,.int (L:Int)])))).get hS;have p6:=V4 (i:=2) (j:=wS) (acc:=acc) (by rw[<-hE];rfl) e6 hS6 hl
 obtain⟨s6,e6'⟩:∃ s6,(s5++[(true,[D.dic s4.length,pgD tk m px,.lst wt,.int (L:Int)])]).set wS (true,acc++[.lst s5.length])=s6:=⟨_,rfl⟩;rw[e6']at p6;have J:Kj wS (s5++[(true,[D.dic s4.length,pgD tk m px,.lst wt,.int (L:Int)])]) s6:=by rw[<-e6'];exact .set
 have lS:=Zd hS;have z2:=(k1.trans k2).len;have z3:=k3.len;have z4:=k4.len;have z5:=k5.len;have lt3:=Zd h3;have lk:=Zd b5.ke;have ne:=b5.ne;have P5:Grw s5 (s5++[(true,[D.dic s4.length,pgD tk m px,.lst wt,.int (L:Int)])]):=.push;have t4:∀ a b c d x,Zh (E a b c d) 4 x=E (some x) b c d:=by rw[<-hE];intros;rfl
 have t5:∀ a b c d x,Zh (E a b c d) 5 x=E a (some x) c d:=by rw[<-hE];intros;rfl
 have t6:∀ a b c d x,Zh (E a b c d) 6 x=E a b (some x) d:=by rw[<-hE];intros;rfl
 have t7:∀ a b c d x,Zh (E a b c d) 7 x=E a b c (some x):=by rw[<-hE];intros;rfl
 have q1:=Zj (i:=4) e1;have q2:=Zj (i:=5) e2;have q3:=Zj (i:=6) e3;have q4:=Zj (i:=7) e4;rw[t4]at q1;rw[t5]at q2;rw[t6]at q3;rw[t7]at q4;refine⟨⟨s5.length,wt,s4.length,kp,0,L,px,tr,[]⟩,s6,_,_,_,_,(Zc q1).trans ((Zc q2).trans ((Zc q3).trans ((Zc q4).trans ((Zc p6).trans Ze)))),kk.kj.trans (P5.kj.trans J),by rw[<-e6',Zk (Zd hS6),if_pos rfl],⟨J.get Zl (by show s5.length≠wS;omega),J.get (P5.get (k5.get h4)) (by show wt≠wS;omega),⟨J.get (P5.get b5.ob) (by show s4.length≠wS;omega),J.get (P5.get b5.ke) (by show kp≠wS;omega),ne⟩,dF,aU _,(⟨hpx.elim (fun z=>z ▸ ha) fun z=>z ▸ hb,by omega,⟨fun u hu=>by have:=(to u hu).1;omega,fun u hu=>(to u hu).2,by omega⟩,by omega⟩:Fit m px tr L),by show tr.length<=3;omega,(nd4.mpr ⟨⟨by omega,by omega,by omega⟩,⟨by omega,by omega⟩,ne⟩:[s5.length,wt,s4.length,kp].Nodup)⟩,hpx,fun a h=>?_⟩
 have h:a∈[s5.length,wt,s4.length,kp]:=h;simp only[aG,aT,or_false]at h;omega
end
variable{x3:Ot D}
section
variable {F:Nat->Fn}{s s0 st st1 st':Za}{e a b:CE}{ρ ρ':Env}{d x y tk:D}{n w wt j m k L sz i N t bo kp d0 wH wS wA:Nat}{c:Int}{vs ns cs:Li Int}{r r2:Rw}{rs rs' pa pb px:Li Rw}{xs ys acc ds:Li D}{bb bt:Bool}{q p:CS}{tr:Li (Li Int)}{cv:Nat->Int}{ks:Li Ky}{v u v' u':Sv}{hs hn:Li (Li Int×Nat)}{fx:Li Nat}
theorem Pr.grw(P:Pr tk m N wH pa pb hs fx v u s)(g:Grw s st):Pr tk m N wH pa pb hs fx v u st:=
 have no:∀ {l:Li Nat},∀ i∈l,i∉([]:Li Nat):=fun _ _=>aT
 ⟨P.a.keep g.kl no,P.b.keep g.kl no,P.va,P.ub,g.get P.hd,fun p hp=>let ⟨a,b⟩:=P.hk p hp;⟨g.get a,b⟩,P.hl,P.dj,P.wv,P.wu,fun i hi=>let ⟨a,b⟩:=P.fx i hi;⟨aS a g.len,b⟩⟩
theorem Y.runs(S:Sd tk m N u s)(h:Y (run T (n+11)) s a ρ (.lst u.w)):Y (run T (n+11)) s (.meth [(263,269)] (.ix a (.c (.int 0))) .aN) ρ (.int ((u.d0+u.ks.length:Nat):Int)):=.meth S.b.ob (.ixl (j:=0) S.c h (.r rf) rfl) rfl .nil (Zdf (n:=n+10) S.b)
theorem turn{at':Nat}(hN:N<=80)(ht2:t<=2)(htm:t<=m)(ha:Rs m pa)(hb:Rs m pb)(epb:pb=pa.set k r2)(hk:k < pa.length)(P:Pr (tkD (-1000000000) 0 t) m N wH pa pb hs fx v u s)(hS:s[wS]?=some (true,xs))(hf:wS∈fx)(h1:xs[at']?=some (.lst v.w))(h2:xs[1 - at']?=some (.lst u.w))(ha1:at'<=1)(hc:c % 2=(at':Int)):∃ v' hn st' y3 y9,ex (run T (n+11)) ZN (lE (.tup [.int (k:Int),pgD (tkD (-1000000000) 0 t) m pa,pgD (tkD (-1000000000) 0 t) m pb]) wS x3 (some (.int c)) x5 x6 x7 (some (.lst wH)) x9 x10) s=some (.nx (lE (.tup [.int (k:Int),pgD (tkD (-1000000000) 0 t) m pa,pgD (tkD (-1000000000) 0 t) m pb]) wS y3 (some (.int c)) x5 x6 x7 (some (.lst wH)) y9 x10),st')/\Pr (tkD (-1000000000) 0 t) m (N+1) wH pa pb (hs++hn) fx v' u st'/\v'.w=v.w/\∀ i∈fx,st'[i]?=s[i]?:=by
 have dd:=fun s P=>Zc8 (n:=n) (c:=c / 2) (s:=s) (hs:=hs) (wH:=wH) (v:=v) (N:=N) (pa:=pa) (pb:=pb) (k:=k) (r2:=r2) (t:=t) (m:=m) (by omega) ht2 htm P
 obtain⟨tk,etk⟩:∃ tk,tkD (-1000000000) 0 t=tk:=⟨_,rfl⟩;rw[etk]at P dd ⊢;obtain⟨PR,ePR⟩:∃ PR,D.tup [.int (k:Int),pgD tk m pa,pgD tk m pb]=PR:=⟨_,rfl⟩;rw[ePR]at dd ⊢;obtain⟨E,hE⟩:∃ E:Ot D->Ot D->Env,(fun x3 x9=>lE PR wS x3 (some (.int c)) x5 x6 x7 (some (.lst wH)) x9 x10)=E:=⟨_,rfl⟩
 suffices Z:∃ v' hn st' y3 y9,ex (run T (n+11)) ZN (E x3 x9) s=some (.nx (E y3 y9),st')/\Pr tk m (N+1) wH pa pb (hs++hn) fx v' u st'/\v'.w=v.w/\∀ i∈fx,st'[i]?=s[i]? by rw[<-hE]at Z;exact Z
 have y1:Y (run T (n+11)) s (.bin .Mod (.v 4) (.c (.int 2))) (E x3 x9) (.int (at':Int)):=by rw[<-hc,<-hE];exact .md (.r rf) (.r rf) (by decide)
 obtain⟨s1,e1,k1⟩:=y1 s .refl;have yo:∀ {s:Za}{x9:Ot D},s[wS]?=some (true,xs)->Y (run T (n+11)) s (.ix (.v 2) (.bin .Sub (.c (.int 1)) (.v 3))) (E (some (.int (at':Int))) x9) (.lst u.w):=fun h=>.ixl (j:=1 - at') h (by rw[<-hE];exact .r rf) (by
  rw[show((1 - at':Nat):Int)=1 - (at':Int) by omega,<-hE]
  exact .sub (.r rf) (.r rf)) h2
 obtain⟨s2,e2,k2⟩:=(Y.runs P.b (yo hS):Y (run T (n+11)) s _ (E (some (.int (at':Int))) x9) _) s1 k1;have k12:=k1.trans k2;have ya:Y (run T (n+11)) s2 (.aC (.ix (.v 2) (.v 3)) (.aC (.bin .FloorDiv (.v 4) (.c (.int 2))) (.aC (.v 1) (.aC (.v 8) .aN)))) (E (some (.int (at':Int))) (some (.int ((u.d0+u.ks.length:Nat):Int)))) (.tup [.lst v.w,.int (c / 2),PR,.lst wH]):=.cons (.ixl (k12.get hS) (by rw[<-hE];exact .r rf) (by rw[<-hE];exact .r rf) h1) (.cons (by rw[<-hE];exact .fd (.r rf) (.r rf) (by decide)) (.cons (by rw[<-hE];exact .r rf) (.cons (by rw[<-hE];exact .r rf) .nil)))
 obtain⟨s3,e3,k3⟩:=ya s2 .refl;have P3:=P.grw (k12.trans k3);obtain⟨v',s4,hn,e4,d4⟩:=dd s3 P3.a P.va ha hb epb hk P3.hd (by have:=P.hl;omega) P.wv
 obtain⟨P4,f4⟩:=P3.deed d4;have fx4:∀ i∈fx,s4[i]?=s[i]?:=fun i hi=>(f4 i hi).trans ((k12.trans k3).old i (P.fx i hi).1)
 have c4:=UU (k:=true) (YS e3 e4);obtain⟨s5,e5,k5⟩:=(.cmp (op:=.NotEq) (k:=false) (x:=.int ((u.d0+u.ks.length:Nat):Int)) (y:=.int ((u.d0+u.ks.length:Nat):Int)) (Y.runs P4.b (yo ((fx4 wS hf).trans hS))) (by rw[<-hE];exact .r rf) fun st=>by
  show(some (decide (((u.d0+u.ks.length:Nat):Int)=((u.d0+u.ks.length:Nat):Int)))).map Bool.not=_;rw[aH rfl];rfl:Y (run T (n+11)) s4 (.cmp .NotEq (.meth [(263,269)] (.ix (.ix (.v 2) (.bin .Sub (.c (.int 1)) (.v 3))) (.c (.int 0))) .aN) (.v 9)) (E (some (.int (at':Int))) (some (.int ((u.d0+u.ks.length:Nat):Int)))) (.bl false)) s4 .refl
 have t3:∀ a b x,Zh (E a b) 3 x=E (some x) b:=by rw[<-hE];intros;rfl
 have t9:∀ a b x,Zh (E a b) 9 x=E a (some x):=by rw[<-hE];intros;rfl
 have q1:=Zj (i:=3) e1;have q2:=Zj (i:=9) e2;rw[t3]at q1;rw[t9]at q2;exact⟨v',hn,s5,_,_,(Zc q1).trans ((Zc q2).trans ((Zc ((ZY ((Zfk c4).trans e5)).trans Ze)).trans Ze)),P4.grw k5,d4.w,fun i hi=>(k5.old i (P4.fx i hi).1).trans (fx4 i hi)⟩
theorem VH{x5 x6 x7 x10:Ot D}(ht2:t<=2)(htm:t<=m)(ha:Rs m pa)(hb:Rs m pb)(epb:pb=pa.set k r2)(hk:k < pa.length):∀ (M i N:Nat) (hs:Li (Li Int×Nat)) (v u:Sv) (s:Za) (x3 x4 x9:Ot D),i+M=cs.length->N+M<=80->Pr (tkD (-1000000000) 0 t) m N wH pa pb hs [0,wS,wA] v u s->s[wA]?=some (bb,cs.map D.int)->s[wS]?=some (true,[.lst v.w,.lst u.w])->∃ N' hs' v' u' s' y3 y4 y9,N'<=80/\ZI (fun d ρ s=>ex (run T (n+11)) ZN (Zh ρ 4 d) s) wA M i (lE (.tup [.int (k:Int),pgD (tkD (-1000000000) 0 t) m pa,pgD (tkD (-1000000000) 0 t) m pb]) wS x3 x4 x5 x6 x7 (some (.lst wH)) x9 x10) s=some (.nx (lE (.tup [.int (k:Int),pgD (tkD (-1000000000) 0 t) m pa,pgD (tkD (-1000000000) 0 t) m pb]) wS y3 y4 x5 x6 x7 (some (.lst wH)) y9 x10),s')/\Pr (tkD (-1000000000) 0 t) m N' wH pa pb hs' [0,wS,wA] v' u' s'/\s'[wS]?=some (true,[.lst v'.w,.lst u'.w])/\s'[0]?=s[0]?
 |0,i,N,hs,v,u,s,x3,x4,x9,h,hN,P,hA,hS=>⟨N,hs,v,u,s,x3,x4,x9,by omega,by unfold ZI;rw[hA];exact if_pos (by rw[aB];omega),P,hS,rfl⟩
 |M+1,i,N,hs,v,u,s,x3,x4,x9,h,hN,P,hA,hS=>by
  have hi:i < cs.length:=by omega
  have em:=Zp cs[i] (j:=2) (by decide)
  have m0:0∈[0,wS,wA]:=.head _;have m1:wS∈[0,wS,wA]:=.tail _ (.head _);have m2:wA∈[0,wS,wA]:=.tail _ (.tail _ (.head _));obtain⟨v1,u1,hn,s1,y3,y9,e1,P1,w1,w2,f1⟩:∃ v1 u1 hn s1 y3 y9,ex (run T (n+11)) ZN (lE (.tup [.int (k:Int),pgD (tkD (-1000000000) 0 t) m pa,pgD (tkD (-1000000000) 0 t) m pb]) wS x3 (some (.int cs[i])) x5 x6 x7 (some (.lst wH)) x9 x10) s=some (.nx (lE (.tup [.int (k:Int),pgD (tkD (-1000000000) 0 t) m pa,pgD (tkD (-1000000000) 0 t) m pb]) wS y3 (some (.int cs[i])) x5 x6 x7 (some (.lst wH)) y9 x10),s1)/\Pr (tkD (-1000000000) 0 t) m (N+1) wH pa pb (hs++hn) [0,wS,wA] v1 u1 s1/\v1.w=v.w/\u1.w=u.w/\∀ i∈[0,wS,wA],s1[i]?=s[i]?:=by
   by_cases c0:cs[i] % 2=0
   ·obtain⟨v1,hn,s1,y3,y9,e1,P1,w1,f1⟩:=turn (n:=n) (c:=cs[i]) (at':=0) (x3:=x3) (x5:=x5) (x6:=x6) (x7:=x7) (x9:=x9) (x10:=x10) (by omega) ht2 htm ha hb epb hk P hS m1 rfl rfl (by decide) c0
    exact⟨v1,u,hn,s1,y3,y9,e1,P1,w1,rfl,f1⟩
   ·obtain⟨u1,hn,s1,y3,y9,e1,P1,w1,f1⟩:=turn (n:=n) (c:=cs[i]) (at':=1) (x3:=x3) (x5:=x5) (x6:=x6) (x7:=x7) (x9:=x9) (x10:=x10) (by omega) ht2 htm ha hb epb hk P.swap hS m1 rfl rfl (by decide) (by show _=(1:Int);omega)
    exact⟨v,u1,hn,s1,y3,y9,e1,P1.swap,rfl,w1,f1⟩
  obtain⟨N',hs',v',u',s',z3,z4,z9,hN',e2,P2,hS2,f2⟩:=VH ht2 htm ha hb epb hk M (i+1) (N+1) _ v1 u1 s1 y3 (some (.int cs[i])) y9 (by omega) (by omega) P1 ((f1 _ m2).trans hA) (by rw[w1,w2];exact(f1 _ m1).trans hS)
  refine⟨N',hs',v',u',s',z3,z4,z9,hN',?_,P2,hS2,f2.trans (f1 _ m0)⟩
  conv=>lhs;unfold ZI
  simp only[hA,aR,lG7 hi,Option.map_some];show(match ex (run T (n+11)) ZN (lE _ wS x3 (some (.int cs[i])) x5 x6 x7 (some (.lst wH)) x9 x10) s with
   |some (.nx ρ',st')=>ZI _ wA M (i+1) ρ' st'
   |some (.ct ρ',st')=>ZI _ wA M (i+1) ρ' st'
   |some (.bk ρ',st')=>some (Fl.nx ρ',st')
   |some (.rt v,st')=>some (Fl.rt v,st')
   |none=>none)=_
  rw[e1];exact e2
end
section
variable {F:Nat->Fn}{s s0 st st1 st':Za}{e a b:CE}{ρ ρ' ρ1 ρ2:Env}{d x y tk:D}{n w wt j m k L sz i N t bo kp d0 wH wS wA:Nat}{c:Int}{vs ns cs:Li Int}{r r2:Rw}{rs rs' pa pb px:Li Rw}{xs ys acc ds:Li D}{bb bt:Bool}{q p:CS}{tr:Li (Li Int)}{cv:Nat->Int}{ks:Li Ky}{v u v' u':Sv}{hs hn:Li (Li Int×Nat)}{fx:Li Nat}
theorem Zdv(ns:Li Int):∃ cv:Nat->Int,∀ (s:Za) (b:Bool),s[0]?=some (b,ns.map D.int)->Cv s cv:=by
 have h:∀ k:Nat,∃ v:Int,k<=1000->∀ (n:Nat) (s:Za) (b:Bool),s[0]?=some (b,ns.map D.int)->C (run T (n+1)) s 27 [.lst 0,.int (k:Int)] (.int v):=fun k=>by
  by_cases hk:k<=1000
  ·obtain⟨v,hv⟩:=Q2 (ns:=ns) hk;exact⟨v,fun _=>hv⟩
  ·exact⟨0,fun h=>absurd h hk⟩
 exact⟨fun k=>Classical.choose (h k),fun s b hs n k hk=>Classical.choose_spec (h k) hk n s b hs⟩
theorem ZfF{f:D->Env->Za->Ot (Fl×Za)}{d1 d2:D}(h1:f d1 ρ st=some (.nx ρ1,st1))(h2:f d2 ρ1 st1=some (.nx ρ2,st')):Zs f [d1,d2] ρ st=some (.nx ρ2,st'):=by
 simp only[Zs,h1,h2]
theorem Jp:∃ cs:Li Int,YQ (ns.map D.int) lo hi=cs.map D.int/\cs.length<=sIx ns.length ns.length hi - sIx ns.length 0 lo:=by
 unfold YQ;rw[aB];refine⟨(ns.drop (sIx ns.length 0 lo)).take (sIx ns.length ns.length hi - sIx ns.length 0 lo),by rw[List.map_take,List.map_drop],?_⟩
 rw[bH];exact Nat.min_le_left _ _
theorem Zbp(hl:hs.length<=900)(h:s[wH]?=some (true,hs.map hdE))(hk:∀ p∈hs,s[p.2]?=some (true,p.1.map D.int))(hw:ρ[8]?=some (some (.lst wH))):Y F s (.cmp .Eq (.compT [] (.v 8) (.c (.int 1)) (.cmp .NotEq (.listOf (.v 0)) (.v 1))) (.lstE .aN)) ρ (.bl true):=fun st g=>by
 obtain⟨s2,e2,k2⟩:=WS (s:=st) (ok:=fun s=>s[wH]?=some (true,hs.map hdE)) (fe:=fun d=>ev F (.c (.int 1)) (ZK two ρ [] d)) (fc:=fun d=>ev F (.cmp .NotEq (.listOf (.v 0)) (.v 1)) (ZK two ρ [] d)) (l:=hs.map hdE) (fun st' k=>k.get (g.get h)) (fun a ha=>by
  obtain⟨p,hp,rfl⟩:=bB.mp ha;intro st2 k2;refine⟨st2++[(true,p.1.map D.int)],?_,.push⟩;show Ya .NotEq (.lst st2.length) (.lst p.2) (st2++[(true,p.1.map D.int)])=_;unfold Ya;have:X6 .NotEq (.lst st2.length) (.lst p.2) (st2++[(true,p.1.map D.int)])=some false:=by
   show((o2 (fun(c d:Z4)=>WT c.2 d.2) (st2++[(true,p.1.map D.int)])[st2.length]? (st2++[(true,p.1.map D.int)])[p.2]?).join).map not=_
   rw[((g.trans k2).trans .push).get (hk p hp),Zl];show(WT (p.1.map D.int) (p.1.map D.int)).map not=_;rw[UV];rfl
  rw[this]) st .refl
 have e1:ev F (.compT [] (.v 8) (.c (.int 1)) (.cmp .NotEq (.listOf (.v 0)) (.v 1))) ρ st=some (.lst s2.length,s2++[(true,[])]):=by
  show ZX two WK [] (ev F (.v 8)) (ev F (.c (.int 1))) (ev F (.cmp .NotEq (.listOf (.v 0)) (.v 1))) ρ st=_;unfold ZX;rw[Zfl hw];have wk:WK (.lst wH) st=some (hs.map hdE,fun s=>s[wH]?=some (true,hs.map hdE)):=by
   unfold WK;simp only[g.get h];rw[if_pos (by rw[List.all_map];exact cC.mpr fun _ _=>rfl)]
  simp only[wk];rw[if_pos (by rw[aB];omega)]
  simp only[e2]
 refine⟨(s2++[(true,[])])++[(true,[])],?_,(k2.trans .push).trans .push⟩;show Zv (ev F (.compT [] (.v 8) (.c (.int 1)) (.cmp .NotEq (.listOf (.v 0)) (.v 1)))) (ev F (.lstE .aN)) (Ya .Eq) ρ st=_;unfold Zv;rw[e1];show Ya .Eq (.lst s2.length) (.lst (s2++[(true,[])]).length) ((s2++[(true,[])])++[(true,[])])=_;unfold Ya;have:X6 .Eq (.lst s2.length) (.lst (s2++[(true,[])]).length) ((s2++[(true,[])])++[(true,[])])=some true:=by
  show(o2 (fun(c d:Z4)=>WT c.2 d.2) ((s2++[(true,[])])++[(true,[])])[s2.length]? ((s2++[(true,[])])++[(true,[])])[(s2++[(true,[])]).length]?).join=_
  rw[Grw.push.get Zl,Zl];rfl
 rw[this]
theorem U3{z:Nat}(hN:N<=80)(htk:okD 7 tk=true)(P:Pr tk m N wH pa pb hs fx v u s)(hS:s[wS]?=some (true,xs))(hf:wS∈fx)(h1:xs[z]?=some (.lst v.w))(h2:xs[1 - z]?=some (.lst u.w))(hz:z<=1):∃ st',ex (run T (n+11)) (.seq (.ite (.or (.not (.call 276 (.aC (.ix (.v 2) (.v 10)) (.aC (.v 8) .aN)) [])) (.not (.call 276 (.aC (.ix (.v 2) (.bin .Sub (.c (.int 1)) (.v 10))) (.aC (.v 8) .aN)) []))) (.seq (.ret (.c (.bl false))) .skip) .skip) (.seq (.ret (.cmp .Eq (.compT [] (.v 8) (.c (.int 1)) (.cmp .NotEq (.listOf (.v 0)) (.v 1))) (.lstE .aN))) .skip)) (lE d wS x3 x4 x5 x6 x7 (some (.lst wH)) x9 (some (.int (z:Int)))) s=some (.rt (.bl true),st'):=by
 obtain⟨ρ,hρ⟩:∃ ρ,lE d wS x3 x4 x5 x6 x7 (some (.lst wH)) x9 (some (.int (z:Int)))=ρ:=⟨_,rfl⟩;rw[hρ];have y1:Y (run T (n+11)) s (.aC (.ix (.v 2) (.v 10)) (.aC (.v 8) .aN)) ρ (.tup [.lst v.w,.lst wH]):=.cons (.ixl hS (by rw[<-hρ];exact .r rf) (by rw[<-hρ];exact .r rf) h1) (.cons (by rw[<-hρ];exact .r rf) .nil)
 obtain⟨s1,e1,k1⟩:=y1 s .refl;obtain⟨v',s2,hn,e2,d2⟩:=Je (n:=n+1) (by omega) htk (P.grw k1)
 obtain⟨P2,f2⟩:=(P.grw k1).deed d2;have hS2:=(f2 wS hf).trans (k1.get hS);have y3:Y (run T (n+11)) s2 (.aC (.ix (.v 2) (.bin .Sub (.c (.int 1)) (.v 10))) (.aC (.v 8) .aN)) ρ (.tup [.lst u.w,.lst wH]):=.cons (.ixl (j:=1 - z) hS2 (by rw[<-hρ];exact .r rf) (by
  rw[show((1 - z:Nat):Int)=1 - (z:Int) by omega,<-hρ]
  exact .sub (.r rf) (.r rf)) h2) (.cons (by rw[<-hρ];exact .r rf) .nil)
 obtain⟨s3,e3,k3⟩:=y3 s2 .refl;obtain⟨u',s4,hn',e4,d4⟩:=Je (n:=n+1) (by omega) htk (P2.swap.grw k3)
 obtain⟨P4,_⟩:=(P2.swap.grw k3).deed d4;obtain⟨s5,e5,k5⟩:=Zbp (F:=run T (n+11)) (ρ:=ρ) (by have:=P4.hl;omega) P4.hd (fun p hp=>(P4.hk p hp).1) (by rw[<-hρ];rfl) s4 .refl
 exact⟨s5,(Zc ((ZY ((Zfk (UU (k:=true) (YS e1 e2))).trans (UU (k:=true) (YS e3 e4)))).trans Ze)).trans (Zn (ZJ e5))⟩
theorem QS:∃ st',run T (n+12) 16 [.lst 0] [(false,ns.map .int)]=some (.bl true,st'):=by
 obtain⟨s,es⟩:∃ s:Za,[(false,ns.map .int)]=s:=⟨_,rfl⟩;have h0:s[0]?=some (false,ns.map D.int):=by rw[<-es];rfl
 rw[es];obtain⟨cv,hcv⟩:=Zdv ns;have hc:=hcv s false h0;obtain⟨t,m,k,pa,r2,s1,⟨t1,t2,t3⟩,⟨ra,rb,hk⟩,e1,k1⟩:=ZaY (n:=n+7) hc (.refl:Grw s s);obtain⟨pb,epb⟩:∃ pb,pb=pa.set k r2:=⟨_,rfl⟩;rw[<-epb]at rb e1;have e1':ev (run T (n+11)) (.call 197 (.aC (.v 0) .aN) []) ([some (.lst 0)]++List.replicate 10 none) s=some (.tup [.int (k:Int),pgD (tkD (-1000000000) 0 t) m pa,pgD (tkD (-1000000000) 0 t) m pb],s1):=YS (xs:=[.lst 0]) rfl e1
 -- the sides
 have l1:=k1.len;have l0:=Zd h0;have g2:Grw s (s1++[(true,[])]):=k1.trans .push;obtain⟨v,s3,a4,a5,a6,a7,e3,j3,hS3,S3,hv,lv⟩:=WG (n:=n) (i:=0) (k:=k) (x4:=none) (x5:=none) (x6:=none) (x7:=none) (by decide) (hc.grw g2) t1 t2 t3 ra rb (Zl (s:=s1) (t:=(true,[]))) (by decide)
 have g3:Grw s s3:=j3.grw l1 g2;obtain⟨u,s4,b4,b5,b6,b7,e4,j4,hS4,S4,hu,lu⟩:=WG (n:=n) (i:=1) (k:=k) (x4:=a4) (x5:=a5) (x6:=a6) (x7:=a7) (by decide) (hc.grw g3) t1 t2 t3 ra rb hS3 (by show 0+1 < 900;decide)
 have g4:Grw s s4:=j4.grw l1 g3;have lv3:=S3.lt;have lu4:=S4.lt;have z2:s1.length+1<=s3.length:=by have:=j3.len;rw[aI]at this;exact this
 have z3:=j4.len;have lv2:∀ i∈v.ad,s1.length+1<=i:=fun i hi=>by have:=lv i hi;rw[aI]at this;exact this
 have S3':=S3.keep (j4.kl (la:=[s1.length]) (.head _)) fun i hi h=>by have:=lv2 i hi;rw[aP.mp h]at this;omega
 have p3:ex (run T (n+11)) (.for1 3 true (.c (.int 2)) Ym) (lE (.tup [.int (k:Int),pgD (tkD (-1000000000) 0 t) m pa,pgD (tkD (-1000000000) 0 t) m pb]) s1.length none none none none none none none none) (s1++[(true,[])])=some (.nx (lE (.tup [.int (k:Int),pgD (tkD (-1000000000) 0 t) m pa,pgD (tkD (-1000000000) 0 t) m pb]) s1.length (some (.int ((1:Nat):Int))) b4 b5 b6 b7 none none none),s4):=(Y5 (F:=run T (n+11)) (by decide) (by decide) rfl).trans (ZfF e3 e4)
 -- what is held;the cells behind
 have h4:=g4.get h0;obtain⟨cs,ecs,lcs⟩:=Jp (ns:=ns) (lo:=some 25) (hi:=some 31);have lcs:cs.length<=6:=aM lcs (by show Nat.min 31 ns.length - Nat.min 25 ns.length<=6;rw[show Nat.min 31 ns.length=min 31 ns.length from rfl,show Nat.min 25 ns.length=min 25 ns.length from rfl];omega)
 have e6:ev (run T (n+11)) (.slice (.v 0) (.part (.c (.int 25))) (.part (.c (.int 31)))) (lE (.tup [.int (k:Int),pgD (tkD (-1000000000) 0 t) m pa,pgD (tkD (-1000000000) 0 t) m pb]) s1.length (some (.int ((1:Nat):Int))) b4 b5 b6 b7 (some (.lst s4.length)) none none) (s4++[(true,[])])=some (.lst (s4.length+1),(s4++[(true,[])])++[(true,cs.map D.int)]):=by
  show ZW (.lst 0) (some 25) (some 31) (s4++[(true,[])])=_;unfold ZW;simp only[Grw.push.get h4];rw[ecs,aI];rfl
 have G5:Grw s4 ((s4++[(true,[])])++[(true,cs.map D.int)]):=Grw.push.trans .push;have z5:((s4++[(true,[])])++[(true,cs.map D.int)]:Za).length=s4.length+2:=by rw[aI,aI];rfl
 have hA:((s4++[(true,[])])++[(true,cs.map D.int)]:Za)[s4.length+1]?=some (true,cs.map D.int):=by
  have:=Zl (s:=s4++[(true,[])]) (t:=(true,cs.map D.int));rw[aI]at this;exact this
 have no:∀ {l:Li Nat},∀ i∈l,i∉([]:Li Nat):=fun _ _=>aT
 have P:Pr (tkD (-1000000000) 0 t) m 0 s4.length pa pb [] [0,s1.length,s4.length+1] v u ((s4++[(true,[])])++[(true,cs.map D.int)]):=by
  refine⟨S3'.keep G5.kl no,S4.keep G5.kl no,hv,hu,Grw.push.get Zl,fun p hp=>(nomatch hp),aD _,fun i hi h=>?_,fun h=>?_,fun h=>?_,fun i hi=>?_⟩
  ·have:=lv3 i hi;have:=lu i h;omega
  ·have:=lv3 _ h;omega
  ·have:=lu4 _ h;omega
  ·rw[z5]
   simp only[aG,aT,or_false]at hi;refine⟨by omega,by omega,fun h=>?_,fun h=>?_⟩
   ·have:=lv2 i h;have:=lv3 i h;omega
   ·have:=lu i h;have:=lu4 i h;omega
 obtain⟨N',hs',v',u',s7,y3,y4,y9,hN',e7,P7,hS7,f7⟩:=VH (n:=n) (x5:=b5) (x6:=b6) (x7:=b7) (x10:=none) (k:=k) t1 t2 ra rb epb hk cs.length 0 0 [] v u _ (some (.int ((1:Nat):Int))) b4 none (by omega) (by omega) P hA (G5.get hS4)
 have h7:=f7.trans (G5.get h4);have p7:=WU (F:=run T (n+11)) (i:=4) (q:=ZN) e6 hA;rw[aB]at p7;have p7:=p7.trans e7
 -- the end
 have em:=Zp (cv 2) (j:=2) (by decide)
 obtain⟨z,hz⟩:∃ z:Nat,cv 2 % 2=(z:Int):=⟨_,(bP em.1).symm⟩;have y8:Y (run T (n+11)) s7 (.bin .Mod (.call 27 (.aC (.v 0) (.aC (.c (.int 2)) .aN)) []) (.c (.int 2))) (lE (.tup [.int (k:Int),pgD (tkD (-1000000000) 0 t) m pa,pgD (tkD (-1000000000) 0 t) m pb]) s1.length y3 y4 b5 b6 b7 (some (.lst s4.length)) y9 none) (.int (z:Int)):=by rw[<-hz];exact .md (Y.cell (k:=2) (hcv s7 false h7) rfl (by decide)) (.r rf) (by decide)
 obtain⟨s8,e8,k8⟩:=y8 s7 .refl;have P8:=P7.grw k8;have hS8:=k8.get hS7;have m1:s1.length∈[0,s1.length,s4.length+1]:=.tail _ (.head _);have tko:=Zc1 (a:=-1000000000) (b:=0) (t:=t) (by omega)
 obtain⟨s9,e9⟩:∃ s9,ex (run T (n+11)) _ (lE (.tup [.int (k:Int),pgD (tkD (-1000000000) 0 t) m pa,pgD (tkD (-1000000000) 0 t) m pb]) s1.length y3 y4 b5 b6 b7 (some (.lst s4.length)) y9 (some (.int (z:Int)))) s8=some (.rt (.bl true),s9):=by
  have:z=0\/z=1:=by omega
  rcases this with rfl|rfl
  ·exact U3 (n:=n) hN' tko P8 hS8 m1 rfl rfl (by decide)
  ·exact U3 (n:=n) hN' tko P8.swap hS8 m1 rfl rfl (by decide)
 exact⟨s9,Ye (v:=c_law_k74) rfl rfl ((Zc (Zj e1')).trans ((Zc (p:=.set 2 (.lstE .aN)) (s':=s1++[(true,[])]) rfl).trans ((Zc p3).trans ((Zc (p:=.set 8 (.lstE .aN)) (s':=s4++[(true,[])]) rfl).trans ((Zc p7).trans ((Zc (Zj e8)).trans e9))))))⟩
end
end Dp


namespace PySem.W.Fast
def tw11684207706067396521:=0
def tw9882485941313359756:=0
def tw8162559945378822875:=0
def tw17639832799678875162:=0
def tw5489975768998632736:=0
def tw7875177410530133228:=0
def tw549908663742778363:=0
def tw3902792284106967409:=0
def tw3072161371676261161:=0
def tw16305272129401743061:=0
def tw10087389966361443318:=0
def tw13362907271401130464:=0
def tw4740786005005451374:=0
def tw960732102949355225:=0
def tw6883747005536341685:=0
def tw8353049924137101676:=0
def tw3902090000296960102:=0
def tw16196762819528997199:=0
def tw17381786464774750589:=0
def tw513191569138032631:=0
def tw4134619463134099791:=0
def tw3036417743314144338:=0
def tw5784814248266382950:=0
def tw14740785035159533522:=0
def tw12723281931597156340:=0
def tw3674127949497041176:=0
def tw3408317217753149109:=0
def tw3296390199091138249:=0
def tw15268182414241924517:=0
def tw13534973549982313577:=0
def tw15385906295632371368:=0
def tw4952547059839202322:=0
def tw7107984247090268398:=0
def tw6613454622364708215:=0
def tw1359487371835995173:=0
def tw18408260507008381279:=0
def tw12944907025153733836:=0
def tw7360144878264356366:=0
def tw15647926541987930110:=0
def tw1983383752552577259:=0
def tw15051485685530453304:=0
def tw4458493098295087040:=0
def tw6229775400972356734:=0
def tw11913340248440504629:=0
def tw13972394464960236339:=0
def tw9093653499365580526:=0
def tw13601195322455346012:=0
def tw2543173802671109929:=0
def tw10335164280299670224:=0
def tw5764511859225094491:=0
def tw16110327230885146746:=0
def tw16971841845344714422:=0
def tw9553302642619798282:=0
def tw7388732526456680972:=0
def tw17998000956651746187:=0
def tw11165327030355988697:=0
def tw18193162438383350894:=0
def tw13465701764850347865:=0
def tw9740940507506392691:=0
def tw4261958521051234234:=0
def tw16853338555997213602:=0
def tw15556681500350657804:=0
def tw7979604126695172865:=0
def tw12862714228155892269:=0
def tw15970441691109897899:=0
def tw14592491234996412164:=0
def tw2380698505428067424:=0
def tw7481921367407903705:=0
def tw10312903226225330741:=0
def tw14056812039307874396:=0
def tw12008518736435620367:=0
def tw9331788608682533049:=0
def tw11070283503879263528:=0
def tw7731416283735682417:=0
def tw9600247701947862808:=0
def tw13683095696576869212:=0
def tw8337291686168659175:=0
def tw16949809518567885440:=0
def tw11322000056194255745:=0
def tw10412476468954071855:=0
def tw10941846146574842246:=0
def tw2151207155480762140:=0
def tw309940607699874538:=0
def tw7830609582871220740:=0
end PySem.W.Fast
namespace Dp
open PySem L2
noncomputable def top(i:Nat):Stmt:=PySem.Challenge.pw_fakehunt_k74_two_books.main.body.getD i (.Pass ⟨0,0,0,0⟩)
noncomputable def G:Gs:=[(S "Step",GV.cls 146 [(S "word",147,1),(S "turned",148,3)] [] []),(S "Sign",GV.cls 169 [(S "word",170,1),(S "turned",171,3)] [] []),(S "More",GV.cls 149 [(S "word",150,1),(S "turned",151,3)] [] []),(S "Turn",GV.cls 157 [(S "word",158,1),(S "turned",159,3)] [] []),(S "Out",GV.cls 152 [(S "word",153,1),(S "turned",154,3)] [] []),(S "Swap",GV.cls 160 [(S "word",161,1),(S "turned",162,3)] [] []),(S "Far",GV.cls 163 [(S "word",164,1),(S "turned",165,3)] [] []),(S "Book",GV.cls 263 [(S "__init__",264,4),(S "program_of",265,2),(S "outcome_of",266,3),(S "outcomes_of",267,2),(S "bits",268,1),(S "runs",269,1),(S "now",270,1),(S "change",271,3),(S "add",272,2)] [] [(.int 100)]),(S "OPERAND_PLACES",GV.dct [(S "put"),(S "if"),(S "tell"),(S "go"),(S "skip")] [(.tup [(.int 2),(.int 4)]),(.tup [(.int 1),(.int 3)]),(.tup [(.int 1)]),(.tup []),(.tup [])]),(S "replaced",GV.fn 42 3 []),(S "operand_places",GV.fn 113 1 []),(S "bit_of",GV.fn 43 1 []),(S "has_bit",GV.fn 114 2 []),(S "HALF",GV.c (.int 1000000000)),(S "RING",GV.c (.int 2000000000)),(S "PUT_SIGNS",GV.c (.kt [(S "+"),(S "-"),(S "*"),(S "/"),(S "mod")])),(S "IF_SIGNS",GV.c (.kt [(S "<"),(S "<="),(S "="),(S ">="),(S ">"),(S "!=")])),(S "around",GV.fn 0 1 []),(S "divided",GV.fn 1 2 []),(S "left_over",GV.fn 2 2 []),(S "reckon",GV.fn 3 3 []),(S "is_so",GV.fn 4 3 []),(S "CONTRARIES",GV.dct [(S "<"),(S ">="),(S "<="),(S ">"),(S "="),(S "!=")] [(.str (S ">=")),(.str (S "<")),(.str (S ">")),(.str (S "<=")),(.str (S "!=")),(.str (S "="))]),(S "behind",GV.fn 70 2 []),(S "fakes",GV.fn 172 1 []),(S "fake_of",GV.fn 180 3 []),(S "worth",GV.fn 5 2 []),(S "began",GV.fn 6 2 []),(S "at_end",GV.fn 7 2 []),(S "values_behind",GV.fn 8 2 []),(S "place_behind",GV.fn 9 3 []),(S "moved",GV.fn 10 2 []),(S "is_outcome",GV.fn 11 1 []),(S "trail",GV.fn 12 3 [(.int 100)]),(S "places_done",GV.fn 14 1 []),(S "seen_in",GV.fn 44 1 []),(S "MOST_TRIALS",GV.c (.int 10)),(S "check_trials",GV.fn 181 1 []),(S "bits_unlike",GV.fn 183 2 []),(S "OWN",GV.c (.tup [])),(S "codes_of",GV.fn 262 1 []),(S "stays",GV.fn 273 4 []),(S "_law_whole",GV.fn 17 1 []),(S "_law_cell_at",GV.fn 27 2 []),(S "_law_number",GV.fn 185 1 []),(S "_law_operand",GV.fn 28 2 []),(S "_law_row",GV.fn 29 3 []),(S "_law_round",GV.fn 89 1 []),(S "_law_sum",GV.fn 187 3 []),(S "_law_so",GV.fn 33 3 []),(S "_law_worth",GV.fn 34 2 []),(S "_law_run",GV.fn 40 4 []),(S "_law_due",GV.fn 38 3 []),(S "_law_alike",GV.fn 36 2 []),(S "_law_programs",GV.fn 197 1 []),(S "_law_inputs",GV.fn 101 3 []),(S "_law_asked",GV.fn 276 2 []),(S "_law_deed",GV.fn 277 4 []),(S "law",GV.fn 16 1 []),(S "len",GV.blt),(S "range",GV.blt),(S "tuple",GV.blt),(S "list",GV.blt),(S "int",GV.blt),(S "bool",GV.blt),(S "str",GV.blt),(S "min",GV.blt),(S "max",GV.blt),(S "isinstance",GV.blt),(S "all",GV.blt),(S "any",GV.blt),(S "zip",GV.blt),(S "sorted",GV.blt),(S "enumerate",GV.blt),(S "set",GV.blt)]
noncomputable def Zx(i k:Nat):Stmt:=match top i with
 |.ClassDef _ _ _ b _ _ _ _ _ _ _=>b.getD k (.Pass ⟨0,0,0,0⟩)
 |s=>s
abbrev Cmp(i:Nat)(N ps:Li Str)(c:CS):Prop:=ZZ G (top i) N ps c
local macro_rules
 |`(tactic| trivial)=>`(tactic| exact⟨⟨rfl,rfl,rfl,by decide +kernel,rfl,by decide +kernel,by decide +kernel⟩,by unfold L2.Loc;decide +kernel,by kernel_rfl⟩)
theorem q_5:Cmp 5 [S "things",S "i",S "thing"] [S "things",S "i",S "thing"] c_replaced.body:=by trivial
theorem q_6:Cmp 6 [S "row"] [S "row"] c_operand_places.body:=by trivial
theorem q_7:Cmp 7 [S "i",S "bit",S "times"] [S "i"] c_bit_of.body:=by trivial
theorem q_8:Cmp 8 [S "bits",S "i"] [S "bits",S "i"] c_has_bit.body:=by trivial
theorem Zgo:Cmp 14 [S "number"] [S "number"] c_around.body:=by trivial
theorem Zgp:Cmp 15 [S "one",S "other"] [S "one",S "other"] c_divided.body:=by trivial
theorem Zgq:Cmp 16 [S "one",S "other"] [S "one",S "other"] c_left_over.body:=by trivial
theorem Zgr:Cmp 17 [S "one",S "sign",S "other"] [S "one",S "sign",S "other"] c_reckon.body:=by trivial
theorem Zgs:Cmp 18 [S "one",S "sign",S "other"] [S "one",S "sign",S "other"] c_is_so.body:=by trivial
theorem Zgt:Cmp 21 [S "ring",S "sign"] [S "ring",S "sign"] c_behind.body:=by trivial
theorem Zgu:Cmp 30 [S "program",S "rows",S "steps",S "told",S "k",S "row",S "step"] [S "program"] c_fakes.body:=by trivial
theorem Zgv:Cmp 31 [S "program",S "k",S "row"] [S "program",S "k",S "row"] c_fake_of.body:=by trivial
theorem Zgw:Cmp 33 [S "operand",S "values"] [S "operand",S "values"] c_worth.body:=by trivial
theorem Zgx:Cmp 34 [S "program",S "inputs"] [S "program",S "inputs"] c_began.body:=by trivial
theorem Zgy:Cmp 35 [S "program",S "state"] [S "program",S "state"] c_at_end.body:=by trivial
theorem Zgz:Cmp 36 [S "row",S "values",S "number"] [S "row",S "values"] c_values_behind.body:=by trivial
theorem ZgA:Cmp 37 [S "row",S "k",S "values"] [S "row",S "k",S "values"] c_place_behind.body:=by trivial
theorem ZgB:Cmp 38 [S "program",S "state",S "k",S "values",S "row"] [S "program",S "state"] c_moved.body:=by trivial
theorem ZgC:Cmp 39 [S "thing"] [S "thing"] c_is_outcome.body:=by trivial
theorem ZgD:Cmp 40 [S "program",S "inputs",S "limit",S "state",S "things",S "done",S "thing"] [S "program",S "inputs",S "limit"] c_trail.body:=by trivial
theorem ZgE:Cmp 41 [S "things",S "states"] [S "things"] c_places_done.body:=by trivial
theorem ZgF:Cmp 42 [S "things",S "bits",S "k"] [S "things"] c_seen_in.body:=by trivial
theorem ZgG:Cmp 45 [S "trials"] [S "trials"] c_check_trials.body:=by trivial
theorem ZgH:Cmp 46 [S "things",S "beside",S "bits",S "bit",S "thing",S "along"] [S "things",S "beside"] c_bits_unlike.body:=by trivial
theorem ZgI:Cmp 49 [S "program"] [S "program"] c_codes_of.body:=by trivial
theorem ZgJ:Cmp 50 [S "code",S "places",S "j",S "codes"] [S "code",S "places",S "j",S "codes"] c_stays.body:=by trivial
theorem ZgK:Cmp 53 [S "_law_found"] [S "_law_found"] c__law_whole.body:=by trivial
theorem ZgL:Cmp 54 [S "_law_script",S "_law_k"] [S "_law_script",S "_law_k"] c__law_cell_at.body:=by trivial
theorem ZgM:Cmp 55 [S "_law_cell"] [S "_law_cell"] c__law_number.body:=by trivial
theorem ZgN:Cmp 56 [S "_law_cell",S "_law_many"] [S "_law_cell",S "_law_many"] c__law_operand.body:=by trivial
theorem ZgO:Cmp 57 [S "_law_cells",S "_law_many",S "_law_size",S "_law_more",S "_law_one",S "_law_other"] [S "_law_cells",S "_law_many",S "_law_size"] c__law_row.body:=by trivial
theorem ZgP:Cmp 58 [S "_law_number_here"] [S "_law_number_here"] c__law_round.body:=by trivial
theorem ZgQ:Cmp 59 [S "_law_one",S "_law_sign",S "_law_other"] [S "_law_one",S "_law_sign",S "_law_other"] c__law_sum.body:=by trivial
theorem ZgR:Cmp 60 [S "_law_one",S "_law_sign",S "_law_other"] [S "_law_one",S "_law_sign",S "_law_other"] c__law_so.body:=by trivial
theorem ZgS:Cmp 61 [S "_law_operand_here",S "_law_values"] [S "_law_operand_here",S "_law_values"] c__law_worth.body:=by trivial
theorem ZgT:Cmp 62 [S "_law_rows",S "_law_many",S "_law_inputs_here",S "_law_limit",S "_law_values",S "_law_at",S "_law_done",S "_law_row_here",S "_law_one"] [S "_law_rows",S "_law_many",S "_law_inputs_here",S "_law_limit"] c__law_run.body:=by trivial
theorem ZgU:Cmp 63 [S "_law_program",S "_law_trials",S "_law_limit",S "_law_takes",S "_law_many",S "_law_rows",S "_law_due_here",S "_law_found",S "_law_k",S "_law_word",S "_law_row_here",S "_law_turned",S "_law_bits",S "_law_i"] [S "_law_program",S "_law_trials",S "_law_limit"] c__law_due.body:=by trivial
theorem ZgV:Cmp 64 [S "_law_found",S "_law_due_here"] [S "_law_found",S "_law_due_here"] c__law_alike.body:=by trivial
theorem ZgW:Cmp 65 [S "_law_script",S "_law_head",S "_law_taken",S "_law_many",S "_law_size",S "_law_rows",S "_law_k",S "_law_takes",S "_law_one"] [S "_law_script"] c__law_programs.body:=by trivial
theorem ZgX:Cmp 66 [S "_law_script",S "_law_at",S "_law_taken"] [S "_law_script",S "_law_at",S "_law_taken"] c__law_inputs.body:=by trivial
theorem ZgY:Cmp 67 [S "_law_side",S "_law_held",S "_law_book",S "_law_program",S "_law_trials",S "_law_limit",S "_law_found"] [S "_law_side",S "_law_held"] c__law_asked.body:=by trivial
theorem ZgZ:Cmp 68 [S "_law_side",S "_law_cell",S "_law_programs_here",S "_law_held",S "_law_book",S "_law_program",S "_law_trials",S "_law_limit",S "_law_number_here",S "_law_inputs_here"] [S "_law_side",S "_law_cell",S "_law_programs_here",S "_law_held"] c__law_deed.body:=by trivial
theorem ZfN:Cmp 69 [S "_law_script",S "_law_programs_here",S "_law_sides",S "_law_at",S "_law_cell",S "_law_program",S "_law_trials",S "_law_limit",S "_law_held",S "_law_other",S "_law_first"] [S "_law_script"] c_law_k74.body:=by trivial
theorem Zea:ZZ G (Zx 22 0) [S "self"] [S "self"] c_Step_word.body:=by trivial
theorem Zeb:ZZ G (Zx 22 1) [S "self",S "row",S "many"] [S "self",S "row",S "many"] c_Step_turned.body:=by trivial
theorem Zec:ZZ G (Zx 23 0) [S "self"] [S "self"] c_Sign_word.body:=by trivial
theorem Zed:ZZ G (Zx 23 1) [S "self",S "row",S "many"] [S "self",S "row",S "many"] c_Sign_turned.body:=by trivial
theorem Zee:ZZ G (Zx 24 0) [S "self"] [S "self"] c_More_word.body:=by trivial
theorem Zef:ZZ G (Zx 24 1) [S "self",S "row",S "many",S "rows",S "i"] [S "self",S "row",S "many"] c_More_turned.body:=by trivial
theorem Zeg:ZZ G (Zx 25 0) [S "self"] [S "self"] c_Turn_word.body:=by trivial
theorem Zeh:ZZ G (Zx 25 1) [S "self",S "row",S "many"] [S "self",S "row",S "many"] c_Turn_turned.body:=by trivial
theorem Zei:ZZ G (Zx 26 0) [S "self"] [S "self"] c_Out_word.body:=by trivial
theorem Zej:ZZ G (Zx 26 1) [S "self",S "row",S "many"] [S "self",S "row",S "many"] c_Out_turned.body:=by trivial
theorem Zek:ZZ G (Zx 27 0) [S "self"] [S "self"] c_Swap_word.body:=by trivial
theorem Zel:ZZ G (Zx 27 1) [S "self",S "row",S "many"] [S "self",S "row",S "many"] c_Swap_turned.body:=by trivial
theorem Zem:ZZ G (Zx 28 0) [S "self"] [S "self"] c_Far_word.body:=by trivial
theorem Zen:ZZ G (Zx 28 1) [S "self",S "row",S "many"] [S "self",S "row",S "many"] c_Far_turned.body:=by trivial
theorem Zeo:ZZ G (Zx 51 0) [S "self",S "program",S "trials",S "limit"] [S "self",S "program",S "trials",S "limit"] c_Book___init__.body:=by trivial
theorem Zep:ZZ G (Zx 51 1) [S "self",S "code"] [S "self",S "code"] c_Book_program_of.body:=by trivial
theorem Zeq:ZZ G (Zx 51 2) [S "self",S "code",S "inputs",S "things"] [S "self",S "code",S "inputs"] c_Book_outcome_of.body:=by trivial
theorem Zer:ZZ G (Zx 51 3) [S "self",S "code"] [S "self",S "code"] c_Book_outcomes_of.body:=by trivial
theorem Zes:ZZ G (Zx 51 4) [S "self",S "own"] [S "self"] c_Book_bits.body:=by trivial
theorem Zet:ZZ G (Zx 51 5) [S "self"] [S "self"] c_Book_runs.body:=by trivial
theorem Zeu:ZZ G (Zx 51 6) [S "self"] [S "self"] c_Book_now.body:=by trivial
theorem Zev:ZZ G (Zx 51 7) [S "self",S "k",S "row",S "codes",S "left",S "key",S "run"] [S "self",S "k",S "row"] c_Book_change.body:=by trivial
theorem Zew:ZZ G (Zx 51 8) [S "self",S "inputs",S "longer"] [S "self",S "inputs"] c_Book_add.body:=by trivial
@[reducible] noncomputable def tab (l:Li (Nat×Ad)):ClsTab:=⟨fun i=>(l.lookup i).getD 0⟩
section
variable [ct:ClsTab]
theorem Zdk{Pm:Params}{K:fG7}{h:Heap}{mg:Str->Ot vL}{fa:Ad}(X:K.In h)(G0:h.Ns mainGlobals mg)(hfa:mg "law"=some (.ref fa)){C0:Ad}{C1:Ad}{C2:Ad}{C3:Ad}{C4:Ad}{C5:Ad}{C6:Ad}{C7:Ad}{A8:Ad}{ob8:Obj}{ep8:Nat}{t8_0:Tok}{B8_0:Ad}{bo8_0:Obj}{bn8_0:Nat}{u8_0_0:Tok}{u8_0_1:Tok}{t8_1:Tok}{B8_1:Ad}{bo8_1:Obj}{bn8_1:Nat}{u8_1_0:Tok}{u8_1_1:Tok}{t8_2:Tok}{B8_2:Ad}{bo8_2:Obj}{bn8_2:Nat}{u8_2_0:Tok}{t8_3:Tok}{B8_3:Ad}{bo8_3:Obj}{bn8_3:Nat}{t8_4:Tok}{B8_4:Ad}{bo8_4:Obj}{bn8_4:Nat}{t13:Tok}{t14:Tok}{A15:Ad}{ob15:Obj}{on15:Nat}{t15_0:Tok}{t15_1:Tok}{t15_2:Tok}{t15_3:Tok}{t15_4:Tok}{A16:Ad}{ob16:Obj}{on16:Nat}{t16_0:Tok}{t16_1:Tok}{t16_2:Tok}{t16_3:Tok}{t16_4:Tok}{t16_5:Tok}{A22:Ad}{ob22:Obj}{ep22:Nat}{t22_0:Tok}{u22_0:Tok}{t22_1:Tok}{u22_1:Tok}{t22_2:Tok}{u22_2:Tok}{t22_3:Tok}{u22_3:Tok}{t22_4:Tok}{u22_4:Tok}{t22_5:Tok}{u22_5:Tok}{t36:Tok}{A39:Ad}{ob39:Obj}{on39:Nat}
(yz0:ClsTab.ca 146=C0) (yz1:ClsTab.ca 169=C1) (yz2:ClsTab.ca 149=C2) (yz3:ClsTab.ca 157=C3) (yz4:ClsTab.ca 152=C4) (yz5:ClsTab.ca 160=C5) (yz6:ClsTab.ca 163=C6) (yz7:ClsTab.ca 263=C7)
  (y0:ClsAt K "Step" C0) (w0_147:MtAt K C0 "word" "Step.word" (Zx 22 0)) (w0_148:MtAt K C0 "turned" "Step.turned" (Zx 22 1))
  (y1:ClsAt K "Sign" C1) (w1_170:MtAt K C1 "word" "Sign.word" (Zx 23 0)) (w1_171:MtAt K C1 "turned" "Sign.turned" (Zx 23 1))
  (y2:ClsAt K "More" C2) (w2_150:MtAt K C2 "word" "More.word" (Zx 24 0)) (w2_151:MtAt K C2 "turned" "More.turned" (Zx 24 1))
  (y3:ClsAt K "Turn" C3) (w3_158:MtAt K C3 "word" "Turn.word" (Zx 25 0)) (w3_159:MtAt K C3 "turned" "Turn.turned" (Zx 25 1))
  (y4:ClsAt K "Out" C4) (w4_153:MtAt K C4 "word" "Out.word" (Zx 26 0)) (w4_154:MtAt K C4 "turned" "Out.turned" (Zx 26 1))
  (y5:ClsAt K "Swap" C5) (w5_161:MtAt K C5 "word" "Swap.word" (Zx 27 0)) (w5_162:MtAt K C5 "turned" "Swap.turned" (Zx 27 1))
  (y6:ClsAt K "Far" C6) (w6_164:MtAt K C6 "word" "Far.word" (Zx 28 0)) (w6_165:MtAt K C6 "turned" "Far.turned" (Zx 28 1))
  (y7:ClsAtB K "Book" C7) (w7_264:MtAtE K C7 "__init__" "Book.__init__" (Zx 51 0) 100) (w7_265:MtAt K C7 "program_of" "Book.program_of" (Zx 51 1)) (w7_266:MtAt K C7 "outcome_of" "Book.outcome_of" (Zx 51 2)) (w7_267:MtAt K C7 "outcomes_of" "Book.outcomes_of" (Zx 51 3)) (w7_268:MtAt K C7 "bits" "Book.bits" (Zx 51 4)) (w7_269:MtAt K C7 "runs" "Book.runs" (Zx 51 5)) (w7_270:MtAt K C7 "now" "Book.now" (Zx 51 6)) (w7_271:MtAt K C7 "change" "Book.change" (Zx 51 7)) (w7_272:MtAt K C7 "add" "Book.add" (Zx 51 8))
  (g8:PySem.W.nsIn K mainGlobals "OPERAND_PLACES"=some (some (.ref A8))) (d8:K.lookup A8=some ob8) (f8c:ob8.cls=.type "dict") (f8d:ob8.dict=none) (f8s:ob8.slots=#[]) (e8:ob8.data=.dict #[⟨PyData.keyHash Pm "put",.str "put" t8_0,.ref B8_0⟩,⟨PyData.keyHash Pm "if",.str "if" t8_1,.ref B8_1⟩,⟨PyData.keyHash Pm "tell",.str "tell" t8_2,.ref B8_2⟩,⟨PyData.keyHash Pm "go",.str "go" t8_3,.ref B8_3⟩,⟨PyData.keyHash Pm "skip",.str "skip" t8_4,.ref B8_4⟩] ep8) (s8:(A8==sysModules)=false)
  (h8_0:K.lookup B8_0=some bo8_0) (i8_0:bo8_0.cls=.type "tuple") (j8_0:bo8_0.data=.seq #[.int (2) u8_0_0,.int (4) u8_0_1] bn8_0)
  (h8_1:K.lookup B8_1=some bo8_1) (i8_1:bo8_1.cls=.type "tuple") (j8_1:bo8_1.data=.seq #[.int (1) u8_1_0,.int (3) u8_1_1] bn8_1)
  (h8_2:K.lookup B8_2=some bo8_2) (i8_2:bo8_2.cls=.type "tuple") (j8_2:bo8_2.data=.seq #[.int (1) u8_2_0] bn8_2)
  (h8_3:K.lookup B8_3=some bo8_3) (i8_3:bo8_3.cls=.type "tuple") (j8_3:bo8_3.data=.seq #[] bn8_3)
  (h8_4:K.lookup B8_4=some bo8_4) (i8_4:bo8_4.cls=.type "tuple") (j8_4:bo8_4.data=.seq #[] bn8_4)
  (a9:FnAt K "replaced" (top 5))
  (a10:FnAt K "operand_places" (top 6))
  (a11:FnAt K "bit_of" (top 7))
  (a12:FnAt K "has_bit" (top 8))
  (g13:PySem.W.nsIn K mainGlobals "HALF"=some (some (.int (1000000000) t13)))
  (g14:PySem.W.nsIn K mainGlobals "RING"=some (some (.int (2000000000) t14)))
  (g15:PySem.W.nsIn K mainGlobals "PUT_SIGNS"=some (some (.ref A15))) (d15:K.lookup A15=some ob15) (f15c:ob15.cls=.type "tuple") (f15d:ob15.dict=none) (e15:ob15.data=.seq #[.str "+" t15_0,.str "-" t15_1,.str "*" t15_2,.str "/" t15_3,.str "mod" t15_4] on15)
  (g16:PySem.W.nsIn K mainGlobals "IF_SIGNS"=some (some (.ref A16))) (d16:K.lookup A16=some ob16) (f16c:ob16.cls=.type "tuple") (f16d:ob16.dict=none) (e16:ob16.data=.seq #[.str "<" t16_0,.str "<=" t16_1,.str "=" t16_2,.str ">=" t16_3,.str ">" t16_4,.str "!=" t16_5] on16)
  (a17:FnAt K "around" (top 14))
  (a18:FnAt K "divided" (top 15))
  (a19:FnAt K "left_over" (top 16))
  (a20:FnAt K "reckon" (top 17))
  (a21:FnAt K "is_so" (top 18))
  (g22:PySem.W.nsIn K mainGlobals "CONTRARIES"=some (some (.ref A22))) (d22:K.lookup A22=some ob22) (f22c:ob22.cls=.type "dict") (f22d:ob22.dict=none) (f22s:ob22.slots=#[]) (e22:ob22.data=.dict #[⟨PyData.keyHash Pm "<",.str "<" t22_0,.str ">=" u22_0⟩,⟨PyData.keyHash Pm ">=",.str ">=" t22_1,.str "<" u22_1⟩,⟨PyData.keyHash Pm "<=",.str "<=" t22_2,.str ">" u22_2⟩,⟨PyData.keyHash Pm ">",.str ">" t22_3,.str "<=" u22_3⟩,⟨PyData.keyHash Pm "=",.str "=" t22_4,.str "!=" u22_4⟩,⟨PyData.keyHash Pm "!=",.str "!=" t22_5,.str "=" u22_5⟩] ep22) (s22:(A22==sysModules)=false)
  (a23:FnAt K "behind" (top 21))
  (a24:FnAt K "fakes" (top 30))
  (a25:FnAt K "fake_of" (top 31))
  (a26:FnAt K "worth" (top 33))
  (a27:FnAt K "began" (top 34))
  (a28:FnAt K "at_end" (top 35))
  (a29:FnAt K "values_behind" (top 36))
  (a30:FnAt K "place_behind" (top 37))
  (a31:FnAt K "moved" (top 38))
  (a32:FnAt K "is_outcome" (top 39))
  (a33:FnAtE K "trail" (top 40) 100)
  (a34:FnAt K "places_done" (top 41))
  (a35:FnAt K "seen_in" (top 42))
  (g36:PySem.W.nsIn K mainGlobals "MOST_TRIALS"=some (some (.int (10) t36)))
  (a37:FnAt K "check_trials" (top 45))
  (a38:FnAt K "bits_unlike" (top 46))
  (g39:PySem.W.nsIn K mainGlobals "OWN"=some (some (.ref A39))) (d39:K.lookup A39=some ob39) (f39c:ob39.cls=.type "tuple") (e39:ob39.data=.seq #[] on39)
  (a40:FnAt K "codes_of" (top 49))
  (a41:FnAt K "stays" (top 50))
  (a42:FnAt K "_law_whole" (top 53))
  (a43:FnAt K "_law_cell_at" (top 54))
  (a44:FnAt K "_law_number" (top 55))
  (a45:FnAt K "_law_operand" (top 56))
  (a46:FnAt K "_law_row" (top 57))
  (a47:FnAt K "_law_round" (top 58))
  (a48:FnAt K "_law_sum" (top 59))
  (a49:FnAt K "_law_so" (top 60))
  (a50:FnAt K "_law_worth" (top 61))
  (a51:FnAt K "_law_run" (top 62))
  (a52:FnAt K "_law_due" (top 63))
  (a53:FnAt K "_law_alike" (top 64))
  (a54:FnAt K "_law_programs" (top 65))
  (a55:FnAt K "_law_inputs" (top 66))
  (a56:FnAt K "_law_asked" (top 67))
  (a57:FnAt K "_law_deed" (top 68))
  (a58:FnAt K "law" (top 69))
  (z59:PySem.W.nsIn K mainGlobals "len"=some none)
  (z60:PySem.W.nsIn K mainGlobals "range"=some none)
  (z61:PySem.W.nsIn K mainGlobals "tuple"=some none)
  (z62:PySem.W.nsIn K mainGlobals "list"=some none)
  (z63:PySem.W.nsIn K mainGlobals "int"=some none)
  (z64:PySem.W.nsIn K mainGlobals "bool"=some none)
  (z65:PySem.W.nsIn K mainGlobals "str"=some none)
  (z66:PySem.W.nsIn K mainGlobals "min"=some none)
  (z67:PySem.W.nsIn K mainGlobals "max"=some none)
  (z68:PySem.W.nsIn K mainGlobals "isinstance"=some none)
  (z69:PySem.W.nsIn K mainGlobals "all"=some none)
  (z70:PySem.W.nsIn K mainGlobals "any"=some none)
  (z71:PySem.W.nsIn K mainGlobals "zip"=some none)
  (z72:PySem.W.nsIn K mainGlobals "sorted"=some none)
  (z73:PySem.W.nsIn K mainGlobals "enumerate"=some none)
  (z74:PySem.W.nsIn K mainGlobals "set"=some none) :
  Text Pm K mg G T/\∃ (fd:FuncData) (N:Li Str),(∀ (s:sH7) (u:vL),BindsTo s fd ⟨[u],[]⟩ [(S "_law_script",u)])/\DefOk K mg G T "law" 16 [] fa fd [S "_law_script"] N:=by
 exact⟨Zct (gC X G0 yz0 y0 trivial (gM (by decide) w0_147 Zea rfl (gM (by decide) w0_148 Zeb rfl trivial)) (gC X G0 yz1 y1 trivial (gM (by decide) w1_170 Zec rfl (gM (by decide) w1_171 Zed rfl trivial)) (gC X G0 yz2 y2 trivial (gM (by decide) w2_150 Zee rfl (gM (by decide) w2_151 Zef rfl trivial)) (gC X G0 yz3 y3 trivial (gM (by decide) w3_158 Zeg rfl (gM (by decide) w3_159 Zeh rfl trivial)) (gC X G0 yz4 y4 trivial (gM (by decide) w4_153 Zei rfl (gM (by decide) w4_154 Zej rfl trivial)) (gC X G0 yz5 y5 trivial (gM (by decide) w5_161 Zek rfl (gM (by decide) w5_162 Zel rfl trivial)) (gC X G0 yz6 y6 trivial (gM (by decide) w6_164 Zem rfl (gM (by decide) w6_165 Zen rfl trivial)) (gCB X G0 yz7 y7 trivial (gMI y7 w7_264 Zeo rfl (gM (by decide) w7_265 Zep rfl (gM (by decide) w7_266 Zeq rfl (gM (by decide) w7_267 Zer rfl (gM (by decide) w7_268 Zes rfl (gM (by decide) w7_269 Zet rfl (gM (by decide) w7_270 Zeu rfl (gM (by decide) w7_271 Zev rfl (gM (by decide) w7_272 Zew rfl trivial)))))))) (fun _ _ _ _ _ _ _ _ _ _ d e=>⟨fun s us hK hl=>by obtain⟨_,_,_,_,rfl⟩:=ZfE (show us.length=4 by simpa using hl);exact PySem.W.binds_K hK rfl d e rfl rfl,fun s us hK hl=>by obtain⟨_,_,_,rfl⟩:=ZdU (show us.length=3 by simpa using hl);exact PySem.W.binds_K hK rfl d e rfl rfl⟩)) (by decide) (⟨⟨A8,ob8,#[⟨PyData.keyHash Pm "put",.str "put" t8_0,.ref B8_0⟩,⟨PyData.keyHash Pm "if",.str "if" t8_1,.ref B8_1⟩,⟨PyData.keyHash Pm "tell",.str "tell" t8_2,.ref B8_2⟩,⟨PyData.keyHash Pm "go",.str "go" t8_3,.ref B8_3⟩,⟨PyData.keyHash Pm "skip",.str "skip" t8_4,.ref B8_4⟩],ep8,PySem.W.mg_of X G0 g8,d8,⟨f8c,f8d,f8s⟩,e8,s8,(by decide),(show EsOk Pm K [⟨PyData.keyHash Pm "put",.str "put" t8_0,.ref B8_0⟩,⟨PyData.keyHash Pm "if",.str "if" t8_1,.ref B8_1⟩,⟨PyData.keyHash Pm "tell",.str "tell" t8_2,.ref B8_2⟩,⟨PyData.keyHash Pm "go",.str "go" t8_3,.ref B8_3⟩,⟨PyData.keyHash Pm "skip",.str "skip" t8_4,.ref B8_4⟩] _ _ from .cons (v:=.ref B8_0) (t:=t8_0) rfl rfl (show RelV (.ref B8_0) (.ref B8_0) from rfl) (fun _ _=>.tup (xs:=[.int (2),.int (4)]) (.inr ⟨bo8_0,#[.int (2) u8_0_0,.int (4) u8_0_1],bn8_0,h8_0,i8_0,j8_0,(show(2:Nat)<=sizeLine by decide),.cons ⟨_,rfl⟩ (.cons ⟨_,rfl⟩ (.nil))⟩) (.cons (.int _) (.cons (.int _) (.nil)))) (.cons (v:=.ref B8_1) (t:=t8_1) rfl rfl (show RelV (.ref B8_1) (.ref B8_1) from rfl) (fun _ _=>.tup (xs:=[.int (1),.int (3)]) (.inr ⟨bo8_1,#[.int (1) u8_1_0,.int (3) u8_1_1],bn8_1,h8_1,i8_1,j8_1,(show(2:Nat)<=sizeLine by decide),.cons ⟨_,rfl⟩ (.cons ⟨_,rfl⟩ (.nil))⟩) (.cons (.int _) (.cons (.int _) (.nil)))) (.cons (v:=.ref B8_2) (t:=t8_2) rfl rfl (show RelV (.ref B8_2) (.ref B8_2) from rfl) (fun _ _=>.tup (xs:=[.int (1)]) (.inr ⟨bo8_2,#[.int (1) u8_2_0],bn8_2,h8_2,i8_2,j8_2,(show(1:Nat)<=sizeLine by decide),.cons ⟨_,rfl⟩ (.nil)⟩) (.cons (.int _) (.nil))) (.cons (v:=.ref B8_3) (t:=t8_3) rfl rfl (show RelV (.ref B8_3) (.ref B8_3) from rfl) (fun _ _=>.tup (xs:=[]) (.inr ⟨bo8_3,#[],bn8_3,h8_3,i8_3,j8_3,(show(0:Nat)<=sizeLine by decide),.nil⟩) (.nil)) (.cons (v:=.ref B8_4) (t:=t8_4) rfl rfl (show RelV (.ref B8_4) (.ref B8_4) from rfl) (fun _ _=>.tup (xs:=[]) (.inr ⟨bo8_4,#[],bn8_4,h8_4,i8_4,j8_4,(show(0:Nat)<=sizeLine by decide),.nil⟩) (.nil)) (.nil))))))⟩,gD X G0 a9 q_5 rfl (gD X G0 a10 q_6 rfl (gD X G0 a11 q_7 rfl (gD X G0 a12 q_8 rfl (gI X G0 g13 (gI X G0 g14 (⟨⟨.ref A15,.ref A15,PySem.W.mg_of X G0 g15,rfl,fun _ _=>.kt (its:=#[.str "+" t15_0,.str "-" t15_1,.str "*" t15_2,.str "/" t15_3,.str "mod" t15_4]) d15 f15c f15d e15 (show(5:Nat)<=sizeLine by decide) (.cons ⟨_,rfl⟩ (.cons ⟨_,rfl⟩ (.cons ⟨_,rfl⟩ (.cons ⟨_,rfl⟩ (.cons ⟨_,rfl⟩ (.nil))))))⟩,⟨⟨.ref A16,.ref A16,PySem.W.mg_of X G0 g16,rfl,fun _ _=>.kt (its:=#[.str "<" t16_0,.str "<=" t16_1,.str "=" t16_2,.str ">=" t16_3,.str ">" t16_4,.str "!=" t16_5]) d16 f16c f16d e16 (show(6:Nat)<=sizeLine by decide) (.cons ⟨_,rfl⟩ (.cons ⟨_,rfl⟩ (.cons ⟨_,rfl⟩ (.cons ⟨_,rfl⟩ (.cons ⟨_,rfl⟩ (.cons ⟨_,rfl⟩ (.nil)))))))⟩,gD X G0 a17 Zgo rfl (gD X G0 a18 Zgp rfl (gD X G0 a19 Zgq rfl (gD X G0 a20 Zgr rfl (gD X G0 a21 Zgs rfl (⟨⟨A22,ob22,#[⟨PyData.keyHash Pm "<",.str "<" t22_0,.str ">=" u22_0⟩,⟨PyData.keyHash Pm ">=",.str ">=" t22_1,.str "<" u22_1⟩,⟨PyData.keyHash Pm "<=",.str "<=" t22_2,.str ">" u22_2⟩,⟨PyData.keyHash Pm ">",.str ">" t22_3,.str "<=" u22_3⟩,⟨PyData.keyHash Pm "=",.str "=" t22_4,.str "!=" u22_4⟩,⟨PyData.keyHash Pm "!=",.str "!=" t22_5,.str "=" u22_5⟩],ep22,PySem.W.mg_of X G0 g22,d22,⟨f22c,f22d,f22s⟩,e22,s22,(by decide),(show EsOk Pm K [⟨PyData.keyHash Pm "<",.str "<" t22_0,.str ">=" u22_0⟩,⟨PyData.keyHash Pm ">=",.str ">=" t22_1,.str "<" u22_1⟩,⟨PyData.keyHash Pm "<=",.str "<=" t22_2,.str ">" u22_2⟩,⟨PyData.keyHash Pm ">",.str ">" t22_3,.str "<=" u22_3⟩,⟨PyData.keyHash Pm "=",.str "=" t22_4,.str "!=" u22_4⟩,⟨PyData.keyHash Pm "!=",.str "!=" t22_5,.str "=" u22_5⟩] _ _ from .cons (v:=.str ">=") (t:=t22_0) rfl rfl (show RelV (.str ">=") (.str ">=" u22_0) from⟨_,rfl⟩) (fun _ _=>.str _) (.cons (v:=.str "<") (t:=t22_1) rfl rfl (show RelV (.str "<") (.str "<" u22_1) from⟨_,rfl⟩) (fun _ _=>.str _) (.cons (v:=.str ">") (t:=t22_2) rfl rfl (show RelV (.str ">") (.str ">" u22_2) from⟨_,rfl⟩) (fun _ _=>.str _) (.cons (v:=.str "<=") (t:=t22_3) rfl rfl (show RelV (.str "<=") (.str "<=" u22_3) from⟨_,rfl⟩) (fun _ _=>.str _) (.cons (v:=.str "!=") (t:=t22_4) rfl rfl (show RelV (.str "!=") (.str "!=" u22_4) from⟨_,rfl⟩) (fun _ _=>.str _) (.cons (v:=.str "=") (t:=t22_5) rfl rfl (show RelV (.str "=") (.str "=" u22_5) from⟨_,rfl⟩) (fun _ _=>.str _) (.nil)))))))⟩,gD X G0 a23 Zgt rfl (gD X G0 a24 Zgu rfl (gD X G0 a25 Zgv rfl (gD X G0 a26 Zgw rfl (gD X G0 a27 Zgx rfl (gD X G0 a28 Zgy rfl (gD X G0 a29 Zgz rfl (gD X G0 a30 ZgA rfl (gD X G0 a31 ZgB rfl (gD X G0 a32 ZgC rfl (gE X G0 a33 ZgD rfl (fun _ _ _ _ _ _ _ _ _ _ d e=>⟨fun s us hK hl=>by obtain⟨_,_,_,rfl⟩:=ZdU (show us.length=3 by simpa using hl);exact PySem.W.binds_K hK rfl d e rfl rfl,fun s us hK hl=>by obtain⟨_,_,rfl⟩:=ZfD (show us.length=2 by simpa using hl);exact PySem.W.binds_K hK rfl d e rfl rfl⟩) (gD X G0 a34 ZgE rfl (gD X G0 a35 ZgF rfl (gI X G0 g36 (gD X G0 a37 ZgG rfl (gD X G0 a38 ZgH rfl (⟨⟨.ref A39,.ref A39,PySem.W.mg_of X G0 g39,rfl,fun _ _=>.tup (xs:=[]) (.inr ⟨ob39,#[],on39,d39,f39c,e39,(show(0:Nat)<=sizeLine by decide),.nil⟩) (.nil)⟩,gD X G0 a40 ZgI rfl (gD X G0 a41 ZgJ rfl (gD X G0 a42 ZgK rfl (gD X G0 a43 ZgL rfl (gD X G0 a44 ZgM rfl (gD X G0 a45 ZgN rfl (gD X G0 a46 ZgO rfl (gD X G0 a47 ZgP rfl (gD X G0 a48 ZgQ rfl (gD X G0 a49 ZgR rfl (gD X G0 a50 ZgS rfl (gD X G0 a51 ZgT rfl (gD X G0 a52 ZgU rfl (gD X G0 a53 ZgV rfl (gD X G0 a54 ZgW rfl (gD X G0 a55 ZgX rfl (gD X G0 a56 ZgY rfl (gD X G0 a57 ZgZ rfl (gD X G0 a58 ZfN rfl (gB X G0 z59 (gB X G0 z60 (gB X G0 z61 (gB X G0 z62 (gB X G0 z63 (gB X G0 z64 (gB X G0 z65 (gB X G0 z66 (gB X G0 z67 (gB X G0 z68 (gB X G0 z69 (gB X G0 z70 (gB X G0 z71 (gB X G0 z72 (gB X G0 z73 (gB X G0 z74 (trivial)))))))))))))))))))))))))))))))))))⟩))))))))))))))))⟩)))))⟩⟩))))))⟩))))))))),gL X G0 hfa a58 ZfN rfl fun _ _ _ _ _ _ _=>rfl⟩
theorem ZbS:∀ n,YL G (run T n):=fun _=>Zbe
end
end Dp
open PySem PySem.W PyProof.Rows
set_option maxRecDepth 100000 in
set_option maxHeartbeats 0 in
theorem PySem.Challenge.cw_fakehunt_k74_two_books_holds : PySem.Challenge.rw_fakehunt_k74_two_books.Holds := by
 w_on;o_law;k_head;(case hw=>w_witness2)
 k_fill
 refine Dp.QT (l:=PySem.Challenge.rw_fakehunt_k74_two_books) (G:=Dp.G) (T:=Dp.T) (n:=12) (i:=16) (x := "_law_script") rfl rfl ⟨rfl,by decide,by decide⟩ (fun w h Y=>PySem.W.kIn_of Y) Dp.ZbS ?F (fun ns hn=>Dp.QS (n:=0))
 case F=>
  intro w mg fa h KX G0 hmg;refine' ⟨Dp.tab [(146,?C0),(169,?C1),(149,?C2),(157,?C3),(152,?C4),(160,?C5),(163,?C6),(263,?C7)],Dp.Zdk (ct:=Dp.tab [(146,?C0),(169,?C1),(149,?C2),(157,?C3),(152,?C4),(160,?C5),(163,?C6),(263,?C7)]) (Pm:=w.params) (C0:=?C0) (C1:=?C1) (C2:=?C2) (C3:=?C3) (C4:=?C4) (C5:=?C5) (C6:=?C6) (C7:=?C7) KX G0 hmg ?z0 ?z1 ?z2 ?z3 ?z4 ?z5 ?z6 ?z7 ⟨?_,?_,?_,?_,?_,?_,?_,?_,?_,?_,?_,?_⟩ (.mk ?_ ?_ ?_ ?_ ?_) (.mk ?_ ?_ ?_ ?_ ?_) ⟨?_,?_,?_,?_,?_,?_,?_,?_,?_,?_,?_,?_⟩ (.mk ?_ ?_ ?_ ?_ ?_) (.mk ?_ ?_ ?_ ?_ ?_) ⟨?_,?_,?_,?_,?_,?_,?_,?_,?_,?_,?_,?_⟩ (.mk ?_ ?_ ?_ ?_ ?_) (.mk ?_ ?_ ?_ ?_ ?_) ⟨?_,?_,?_,?_,?_,?_,?_,?_,?_,?_,?_,?_⟩ (.mk ?_ ?_ ?_ ?_ ?_) (.mk ?_ ?_ ?_ ?_ ?_) ⟨?_,?_,?_,?_,?_,?_,?_,?_,?_,?_,?_,?_⟩ (.mk ?_ ?_ ?_ ?_ ?_) (.mk ?_ ?_ ?_ ?_ ?_) ⟨?_,?_,?_,?_,?_,?_,?_,?_,?_,?_,?_,?_⟩ (.mk ?_ ?_ ?_ ?_ ?_) (.mk ?_ ?_ ?_ ?_ ?_) ⟨?_,?_,?_,?_,?_,?_,?_,?_,?_,?_,?_,?_⟩ (.mk ?_ ?_ ?_ ?_ ?_) (.mk ?_ ?_ ?_ ?_ ?_) ⟨?_,?_,?_,?_,?_,?_,?_,?_,?_,?_,?_,?_⟩ (.mk ?_ ?_ ?_ ?_ ?_ ?_ ?_) (.mk ?_ ?_ ?_ ?_ ?_) (.mk ?_ ?_ ?_ ?_ ?_) (.mk ?_ ?_ ?_ ?_ ?_) (.mk ?_ ?_ ?_ ?_ ?_) (.mk ?_ ?_ ?_ ?_ ?_) (.mk ?_ ?_ ?_ ?_ ?_) (.mk ?_ ?_ ?_ ?_ ?_) (.mk ?_ ?_ ?_ ?_ ?_) ?_ ?_ ?_ ?_ ?_ ?_ ?_ ?_ ?_ ?_ ?_ ?_ ?_ ?_ ?_ ?_ ?_ ?_ ?_ ?_ ?_ ?_ (.mk ?_ ?_ ?_ ?_) (.mk ?_ ?_ ?_ ?_) (.mk ?_ ?_ ?_ ?_) (.mk ?_ ?_ ?_ ?_) ?_ ?_ ?_ ?_ ?_ ?_ ?_ ?_ ?_ ?_ ?_ ?_ (.mk ?_ ?_ ?_ ?_) (.mk ?_ ?_ ?_ ?_) (.mk ?_ ?_ ?_ ?_) (.mk ?_ ?_ ?_ ?_) (.mk ?_ ?_ ?_ ?_) ?_ ?_ ?_ ?_ ?_ ?_ ?_ (.mk ?_ ?_ ?_ ?_) (.mk ?_ ?_ ?_ ?_) (.mk ?_ ?_ ?_ ?_) (.mk ?_ ?_ ?_ ?_) (.mk ?_ ?_ ?_ ?_) (.mk ?_ ?_ ?_ ?_) (.mk ?_ ?_ ?_ ?_) (.mk ?_ ?_ ?_ ?_) (.mk ?_ ?_ ?_ ?_) (.mk ?_ ?_ ?_ ?_) (.mk ?_ ?_ ?_ ?_ ?_ ?_) (.mk ?_ ?_ ?_ ?_) (.mk ?_ ?_ ?_ ?_) ?_ (.mk ?_ ?_ ?_ ?_) (.mk ?_ ?_ ?_ ?_) ?_ ?_ ?_ ?_ (.mk ?_ ?_ ?_ ?_) (.mk ?_ ?_ ?_ ?_) (.mk ?_ ?_ ?_ ?_) (.mk ?_ ?_ ?_ ?_) (.mk ?_ ?_ ?_ ?_) (.mk ?_ ?_ ?_ ?_) (.mk ?_ ?_ ?_ ?_) (.mk ?_ ?_ ?_ ?_) (.mk ?_ ?_ ?_ ?_) (.mk ?_ ?_ ?_ ?_) (.mk ?_ ?_ ?_ ?_) (.mk ?_ ?_ ?_ ?_) (.mk ?_ ?_ ?_ ?_) (.mk ?_ ?_ ?_ ?_) (.mk ?_ ?_ ?_ ?_) (.mk ?_ ?_ ?_ ?_) (.mk ?_ ?_ ?_ ?_) (.mk ?_ ?_ ?_ ?_) (.mk ?_ ?_ ?_ ?_) ?_ ?_ ?_ ?_ ?_ ?_ ?_ ?_ ?_ ?_ ?_ ?_ ?_ ?_ ?_ ?_⟩
  all_goals (first|k_is|exact rfl|skip)
  all_goals (first|k_is|exact rfl|skip)

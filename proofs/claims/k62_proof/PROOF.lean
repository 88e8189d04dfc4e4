import PyProof.Rows.All
import Wide.All
import OpenK.AllK
import Wide.FinOn
import Lean
import PyProof.EqAt
import PyProof.EqKinds
import PyProof.TupleCall
import PyProof.TupleKey
import PyProof.DictWalks
import PyProof.DictItems
import KE.KPairComp
import KE.KUnpack
import KE.KSortAsk
import KE.KSortTup
import KE.KDictSum
import PySem.Challenge.RW_fakehunt_k62_told_by_trials
set_option Elab.async false
set_option linter.all false
set_option maxRecDepth 100000
set_option maxHeartbeats 4000000
set_option genSizeOf false
def aB:=@List.length_map
def aD:=@Nat.le_refl
def aF:=@List.mem_cons
def aG:=@List.size_toArray
def aH:=@decide_eq_false
def aI:=@List.length_append
def aL:=@decide_eq_true
def aM:=@Nat.zero_le
def aO:=@List.map_cons
def aP:=@Nat.le_trans
def aQ:=@List.length_cons
def aR:=@List.mem_singleton
def aS:=@List.mem_map
def aT:=@Nat.lt_of_lt_of_le
def aU:=@List.not_mem_nil
def aV:=@List.getElem?_map
def aW:=@List.mem_of_getElem?
def aY:=@Nat.ne_of_lt
def aZ:=@Int.toNat_natCast
def bA:=@decide_eq_true_eq
def bB:=@List.getD_eq_getElem?_getD
def bC:=@List.all_cons
def bD:=@List.append_assoc
def bE:=@Nat.zero_add
def bF:=@Int.natCast_add
def bH:=@List.append_nil
def bJ:=@List.length_set
def bK:=@List.getElem?_eq_some_iff
def bL:=@Int.toNat_of_nonneg
def bM:=@List.nodup_cons
def bN:=@List.map_map
def bO:=@Nat.lt_irrefl
def bP:=@List.mem_append
def bQ:=@List.drop_eq_getElem_cons
def bR:=@List.length_range
def bS:=@List.length_replicate
def bT:=@Bool.or_eq_true
def bU:=@List.flatMap_cons
def bV:=@List.getElem?_set_self
def bX:=@Bool.eq_iff_iff
def bY:=@List.getElem?_append_left
def bZ:=@List.lookup_cons
def cA:=@List.getElem?_set_ne
def cB:=@List.mem_append_right
def cC:=@List.getElem?_append_right
def cD:=@List.replicate_succ
def cF:=@List.drop_zero
def cG:=@List.map_append
def cH:=@List.mem_range
def cI:=@Array.length_toList
def cJ:=@Nat.le_of_eq
def cK:=@List.length_take
def cL:=@List.cons_ne_nil
def cM:=@List.getElem_mem
def cN:=@beq_eq_false_iff_ne
def cP:=@List.any_cons
def cQ:=@List.find?_cons
def cR:=@List.all_eq_true
def cT:=@List.map_flatMap
def cU:=@Nat.le_of_lt
def cV:=@Bool.or_false
def cX:=@List.flatten_cons
def cY:=@List.length_nil
def cZ:=@List.forIn_cons
def dA:=@Option.bind_eq_some_iff
def dB:=@List.range_eq_range'
def dC:=@List.range'_succ
def dD:=@Bool.true_and
def dE:=@Int.ediv_one
def dF:=@List.length_drop
def dG:=@List.nil_append
def dH:=@Option.map_eq_some_iff
def dI:=@Bool.false_eq_true
def dJ:=@List.drop_of_length_le
def dL:=@Bool.and_true
def dM:=@List.getElem?_toArray
def dN:=@Nat.le_add_right
def dO:=@List.map_set
def dP:=@List.mem_flatMap
def dQ:=@Nat.mul_le_mul
def dR:=@List.mem_filter
def dS:=@Nat.lt_succ_self
def dU:=@List.of_mem_zip
def dW:=@Nat.le_of_not_lt
def dX:=@Bool.and_eq_true_iff
def dY:=@List.length_eq_zero_iff
def dZ:=@Bool.not_eq_true'
def eA:=@Int.natCast_mul
def eB:=@Int.natCast_nonneg
def eC:=@List.getElem?_replicate
def eD:=@List.length_singleton
def eE:=@Array.getElem?_toList
def eG:=@List.getElem?_eq_none
def eH:=@Array.getElem?_eq_getElem
def eI:=@List.getElem?_eq_none_iff
def eJ:=@List.mem_or_eq_of_mem_set
section
open PySem PySem.Spec PyProof.Rows
def aA:=@wpAny_bind
def aE:=@wpAny_pure
def aJ:=@Heap.lt_size
def aK:=@Heap.get?_push_of_some
def aX:=@Heap.get?_push_size
def bG:=@wpAny_mono
end
abbrev Li.{u}(α:Type u):Type u:=List α
abbrev Ot.{u}(α:Type u):Type u:=Option α
abbrev vL:=PySem.Value
abbrev Ad:=PySem.Addr
abbrev sH7:=PySem.Shared
theorem oB7{α β:Type}{a:α}{f:α->Ot β}:(some a).bind f=f a:=rfl
abbrev fG7:=PySem.W.Frag
theorem bA7(a b:Bool):((a&&b)=true)=(a=true/\b=true):=Bool.and_eq_true a b
theorem lG7{α:Type _}{l:Li α}{i:Nat}(h:i<l.length):l[i]?=some l[i]:=List.getElem?_eq_getElem h
theorem lM7{α:Type _}(y:α){a:α}{l:Li α}(h:a∈l):a∈y::l:=List.mem_cons_of_mem y h
theorem lQ7{α:Type _}{a:α}{l:Li α}:a∈a::l:=List.mem_cons_self
theorem bF7:¬false=true:=Bool.false_ne_true
namespace L2
open PySem PySem.Spec PyProof.Rows
abbrev Key:=Sum Int Str
noncomputable def keyIs:Key->vL->Bool
  |.inl k,v=>Value.isInt k v
  |.inr x,v=>Value.isStrOf x v
noncomputable def keyH(w:World):Key->Int
  |.inl k=>hashInt k
  |.inr x=>hashStr w x
theorem keyIs_shape:∀ {k:Key}{v:vL},keyIs k v=true->(∃ i t,k=Sum.inl i/\v=Value.int i t)\/(∃ x t,k=Sum.inr x/\v=Value.str x t)
  |.inl i,v,h=>by
    obtain⟨t,e⟩:=Value.isInt_shape (k:=i) (v:=v) h;exact .inl ⟨i,t,rfl,e⟩
  |.inr x,v,h=>by
    obtain⟨t,e⟩:=Value.isStrOf_shape (x:=x) (v:=v) h;exact .inr ⟨x,t,rfl,e⟩
theorem keyIs_int(i:Int)(t:Tok):keyIs (.inl i) (.int i t)=true:=by simp[keyIs,Value.isInt]
theorem keyIs_str(x:Str)(t:Tok):keyIs (.inr x) (.str x t)=true:=by simp[keyIs,Value.isStrOf]
theorem key_ll(a b:Int):decide ((Sum.inl a:Key)=Sum.inl b)=(a==b):=by
  by_cases e:a=b
  · subst e;simp
  · have h:¬(Sum.inl a:Key)=Sum.inl b:=λq=>e (Sum.inl.inj q)
    rw[aH h];exact(cN.mpr e).symm
theorem key_rr(a b:Str):decide ((Sum.inr a:Key)=Sum.inr b)=decide (a=b):=by
  by_cases e:a=b
  · subst e;simp
  · have h:¬(Sum.inr a:Key)=Sum.inr b:=λq=>e (Sum.inr.inj q)
    rw[aH h,aH e]
theorem key_lr(a:Int)(b:Str):decide ((Sum.inl a:Key)=Sum.inr b)=false:=aH (λq=>nomatch q)
theorem key_rl(a:Str)(b:Int):decide ((Sum.inr a:Key)=Sum.inl b)=false:=aH (λq=>nomatch q)
noncomputable def mixKind(prog:Program)(w:World):PySem.KeyKind prog w Key where
  is:=keyIs
  hash:=keyH w
  inj:=λv a b l f=>by
    rcases keyIs_shape l with⟨i,t,rfl,rfl⟩|⟨x,t,rfl,rfl⟩
    · rcases keyIs_shape f with⟨j,u,rfl,e⟩|⟨y,u,rfl,e⟩
      · injection e with c _;rw[c]
      · exact nomatch e
    · rcases keyIs_shape f with⟨j,u,rfl,e⟩|⟨y,u,rfl,e⟩
      · exact nomatch e
      · injection e with c _;rw[c]
  byValue:=λk v h=>by
    rcases keyIs_shape h with⟨i,t,rfl,rfl⟩|⟨x,t,rfl,rfl⟩<;>rfl
  pyHash:=λd h=>by
    rcases keyIs_shape d with⟨i,t,rfl,rfl⟩|⟨x,t,rfl,rfl⟩
    · exact wpAny_pyHash_int h
    · exact wpAny_pyHash_str h
  eqBool:=λg d h=>by
    rcases keyIs_shape g with⟨i,t,rfl,rfl⟩|⟨x,t,rfl,rfl⟩
    · rcases keyIs_shape d with⟨j,u,rfl,rfl⟩|⟨y,u,rfl,rfl⟩
      · rw[key_ll]at h;exact wpAny_eqBool_int h
      · rw[key_lr]at h;exact SeqAt.EqAt.int_str i t y u _ _ _ _ h
    · rcases keyIs_shape d with⟨j,u,rfl,rfl⟩|⟨y,u,rfl,rfl⟩
      · rw[key_rl]at h;exact SeqAt.EqAt.str_int x t j u _ _ _ _ h
      · rw[key_rr]at h;exact wpAny_eqBool_str h
  «strs»:=λk x t v h=>by
    rcases keyIs_shape h with⟨i,u,rfl,e⟩|⟨y,u,rfl,e⟩
    · exact nomatch e
    · injection e with c _
      subst c;cases v<;>rfl
theorem mixKind_int(prog:Program)(w:World)(i:Int)(t:Tok):(mixKind prog w).is (.inl i) (.int i t)=true:=keyIs_int i t
theorem mixKind_str(prog:Program)(w:World)(x:Str)(t:Tok):(mixKind prog w).is (.inr x) (.str x t)=true:=keyIs_str x t
inductive V where
  |non|bl (b:Bool)|int (i:Int)|str (x:Str)|byt (b:Array UInt8)|flt (b:UInt64)|ref (a:Addr)|ty (n:String)
  deriving DecidableEq
def RelV:V->vL->Prop
  |.non,u=>u=Value.none
  |.bl b,u=>u=Value.bool b
  |.int i,u=>∃ t,u=Value.int i t
  |.str x,u=>∃ t,u=Value.str x t
  |.byt b,u=>∃ t,u=Value.bytes b t
  |.flt b,u=>∃ t,u=Value.float b t
  |.ref a,u=>u=Value.ref a
  |.ty n,u=>u=Value.type n
abbrev Vals:Li V->Li vL->Prop:=Paired RelV
variable{xs:Li V}{us:Li vL}
theorem Vals.length(r:Vals xs us):xs.length=us.length:=Paired.length r
theorem Vals.get:∀ {xs:Li V}{us:Li vL}{i:Nat}{x:V},Vals xs us->xs[i]?=some x->∃ u,us[i]?=some u/\RelV x u
  |_,_,_,_,.nil,e=>by simp at e
  |_,_,0,_,.cons r _,e=>by simp at e;subst e;exact⟨_,rfl,r⟩
  |_,_,i+1,x,.cons _ t,e=>by
    obtain⟨u,b,a⟩:=Vals.get (i:=i) (x:=x) t (by simpa using e)
    exact⟨u,by simpa using b,a⟩
theorem Vals.set{x:V}{u:vL}(r:RelV x u):∀ {xs:Li V}{us:Li vL} (i:Nat),Vals xs us->Vals (xs.set i x) (us.set i u)
  |_,_,_,.nil=>.nil
  |_,_,0,.cons _ t=>.cons r t
  |_,_,i+1,.cons q t=>.cons q (Vals.set r i t)
theorem Vals.append:∀ {xs ys:Li V}{us ws:Li vL},Vals xs us->Vals ys ws->Vals (xs++ys) (us++ws)
  |_,_,_,_,.nil,s=>s
  |_,_,_,_,.cons r t,s=>.cons r (Vals.append t s)
theorem Vals.take:∀ {xs:Li V}{us:Li vL} (n:Nat),Vals xs us->Vals (xs.take n) (us.take n)
  |_,_,0,_=>.nil
  |_,_,_+1,.nil=>.nil
  |_,_,n+1,.cons r t=>.cons r (Vals.take n t)
theorem Vals.drop:∀ {xs:Li V}{us:Li vL} (n:Nat),Vals xs us->Vals (xs.drop n) (us.drop n)
  |_,_,0,r=>r
  |_,_,_+1,.nil=>.nil
  |_,_,n+1,.cons _ t=>Vals.drop n t
def RelO:Ot V->Ot vL->Prop
  |some v,some u=>RelV v u
  |none,none=>True
  |_,_=>False
def KV{a:Type}:Li (a×V)->Li (a×vL)->Prop:=Paired λ(p:a×V) (q:a×vL)=>p.1=q.1/\RelV p.2 q.2
noncomputable def kV:Key->V
  |.inl i=>.int i
  |.inr x=>.str x
inductive HO where
    |lst (xs:List V)
    |tup (xs:List V)
    |dK (kvs:List (Key×V))|dT (kvs:List (List Key×V))
    |set (S:Int->Bool) (n:Nat)
    |ins (C dx:Addr) (fs:List (Str×V))
    |own (x:Addr)
    |xd (fs:List (Str×V))
    |met (f x:Addr)
    |rng (lo hi:Int)
    |frz (o:Obj) (u:HO)
    |tbl (ps:Array Value)
    |ext (φ:Heap->Prop)
abbrev Hp:=Ad->Ot HO
noncomputable def upd(H:Hp)(a:Ad)(o:HO):Hp:=λb=>if b=a then some o else H b
variable{H:Hp}
theorem upd_same{a:Ad}{o:HO}:upd H a o a=some o:=by unfold upd;rw[if_pos rfl]
theorem upd_ne{a b:Ad}{o:HO}(h:b≠a):upd H a o b=H b:=by unfold upd;rw[if_neg h]
theorem ne_of{a b:Ad}{o u:HO}(h:H a=some o)(c:H b=some u)(d:o≠u):a≠b:=by
  intro e;subst e;rw[h]at c;exact d (Option.some.inj c)
theorem ne_of_none{a b:Ad}{o:HO}(h:H a=some o)(c:H b=none):a≠b:=by
  intro e;subst e;rw[h]at c;cases c
section
variable (P:Program) (w:World)
def ObjOk(H:Hp)(h:Heap)(a:Ad):HO->Prop
  |.lst xs=>xs.length<=sizeLine/\∃ (c:Li vL) (n:Nat),Vals xs c/\h.get? a=some { cls:=.type "list",data:=.seq c.toArray n }
  |.tup xs=>xs.length<=sizeLine/\∃ c:Li vL,Vals xs c/\IsTup h a c.toArray
  |.dK b=>b.length<=sizeLine/\(a==sysModules)=false/\∃ i,KV b i/\h.DictOf (mixKind P w) a i
  |.dT b=>b.length<=sizeLine/\(a==sysModules)=false/\∃ xs:Li (Li Key×Ad×vL),
      Paired (λ(p:Li Key×V) (q:Li Key×Ad×vL)=>p.1=q.1/\H q.2.1=some (.tup (p.1.map kV))/\RelV p.2 q.2.2) b xs /\
      ∃ o l y,h.get? a=some o/\o.ExactDict/\o.data=.dict l y/\l.toList=xs.map (entryOfKey (tupleKind (mixKind P w)))/\(xs.map (·.1)).Nodup
  |.set S n=>h.SetOf (intKind P w) a S n
  |.ins C e fs=>H e=some (.own a)/\fs.length<=1000/\e≠a/\h.get? a=some (W.instObj C e) /\
      ∃ d,h.Ns1 e d/\(∀ f,RelO (fs.lookup f) (d f))/\PySem.Within d (fs.map (·.1))
  |.own _=>∃ o,h.get? a=some o
  |.xd fs=>∃ d,h.Ns1 a d/\∀ f,RelO (fs.lookup f) (d f)
  |.rng r s=>∃ t u v,h.get? a=some { cls:=.type "range",data:=.fields #[.int r t,.int s u,.int 1 v] }
  |.frz o u=>h.get? a=some o/\ObjOk H h a u
  |.tbl m=>h.get? a=some { cls:=.none,data:=.fields m }
  |.met f x=>h.get? a=some (W.methodObj (.ref f) (.ref x))
  |.ext g=>g h/\(∃ o,h.get? a=some o)/\∀ k j:Heap,g k->(∀ o,k.get? a=some o->j.get? a=some o)->g j
def HOk(H:Hp)(h:Heap):Prop:=∀ a o,H a=some o->ObjOk P w H h a o
end
variable{P:Program}{w:World}{H H':Hp}{h h':Heap}{a:Ad}
section
variable{o:HO}
theorem ObjOk.lt(x:ObjOk P w H h a o):a < h.objs.size:=by
  cases o with
  |lst xs=>obtain⟨_,_,_,_,e⟩:=x;exact aJ e
  |tup xs=>obtain⟨_,_,_,p⟩:=x;exact p.lt
  |dK b=>obtain⟨_,_,_,_,o,_,_,e,_⟩:=x;exact aJ e
  |dT b=>obtain⟨_,_,_,_,o,_,_,e,_⟩:=x;exact aJ e
  |set S n=>obtain⟨o,_,_,_,e,_⟩:=x;exact aJ e
  |ins C k fs=>obtain⟨_,_,_,e,_⟩:=x;exact aJ e
  |own y=>obtain⟨_,e⟩:=x;exact aJ e
  |xd fs=>obtain⟨_,⟨_,_,_,e,_⟩,_⟩:=x;exact aJ e
  |rng i j=>obtain⟨_,_,_,e⟩:=x;exact aJ e
  |frz g u=>obtain⟨e,_⟩:=x;exact aJ e
  |tbl d=>exact aJ (show h.get? a=some _ from x)
  |met f y=>exact aJ (show h.get? a=some _ from x)
  |ext c=>obtain⟨_,⟨_,e⟩,_⟩:=x;exact aJ e
theorem Paired.mapP{d c:Type}{F G:d->c->Prop}:∀ {l₁:Li d}{l₂:Li c},Paired F l₁ l₂->(∀ a b,F a b->G a b)->Paired G l₁ l₂
  |_,_,.nil,_=>.nil
  |_,_,.cons r t,f=>.cons (f _ _ r) (Paired.mapP t f)
theorem ObjOk.stay(x:ObjOk P w H h a o)(k:∀ b u,(b=a\/H b=some (.own a))->h.get? b=some u->h'.get? b=some u)(J:∀ b,H b=some (.own a)->H' b=some (.own a))(I:∀ b xs,H b=some (.tup xs)->H' b=some (.tup xs)):ObjOk P w H' h' a o:=by
  induction o with
  |lst xs=>obtain⟨z,l,n,r,e⟩:=x;exact⟨z,l,n,r,k _ _ (.inl rfl) e⟩
  |tup xs=>obtain⟨z,l,r,g,e,c⟩:=x;exact⟨z,l,r,g,k _ _ (.inl rfl) e,c⟩
  |dK A=>obtain⟨z,y,E,r,g,i,j,e,c⟩:=x;exact⟨z,y,E,r,g,i,j,k _ _ (.inl rfl) e,c⟩
  |dT A=>
    obtain⟨z,y,xs,r,g,i,j,e,c⟩:=x;exact⟨z,y,xs,Paired.mapP r λp q z=>⟨z.1,I _ _ z.2.1,z.2.2⟩,g,i,j,k _ _ (.inl rfl) e,c⟩
  |set S n=>obtain⟨g,i,j,t,e,c⟩:=x;exact⟨g,i,j,t,k _ _ (.inl rfl) e,c⟩
  |ins C O fs=>
    obtain⟨d,z,F,e,s,⟨m,i,j,K,c⟩,r⟩:=x;exact⟨J _ d,z,F,k _ _ (.inl rfl) e,s,⟨m,i,j,k _ _ (.inr d) K,c⟩,r⟩
  |own y=>obtain⟨g,e⟩:=x;exact⟨g,k _ _ (.inl rfl) e⟩
  |xd fs=>obtain⟨s,⟨m,i,j,e,c⟩,r⟩:=x;exact⟨s,⟨m,i,j,k _ _ (.inl rfl) e,c⟩,r⟩
  |rng M N=>obtain⟨t,u,v,e⟩:=x;exact⟨t,u,v,k _ _ (.inl rfl) e⟩
  |frz g u G=>obtain⟨e,q⟩:=x;exact⟨k _ _ (.inl rfl) e,G q⟩
  |tbl D=>
    have e:h.get? a=some { cls:=.none,data:=.fields D }:=x;show h'.get? a=some { cls:=.none,data:=.fields D };exact k a _ (.inl rfl) e
  |met f y=>
    have e:h.get? a=some (W.methodObj (.ref f) (.ref y)):=x;show h'.get? a=some (W.methodObj (.ref f) (.ref y));exact k a _ (.inl rfl) e
  |ext L=>obtain⟨p,⟨o,e⟩,B⟩:=x;exact⟨B _ _ p λo q=>k _ _ (.inl rfl) q,⟨o,k _ _ (.inl rfl) e⟩,B⟩
theorem HOk.lt(x:HOk P w H h)(e:H a=some o):a < h.objs.size:=(x a o e).lt
theorem HOk.fresh(x:HOk P w H h)(e:h.objs.size<=a):H a=none:=by
  cases q:H a with
  |none=>rfl
  |some u=>exact absurd (aT (x.lt q) e) (bO _)
theorem HOk.kept(x:HOk P w H h)(k:∀ b u,h.get? b=some u->h'.get? b=some u):HOk P w H h':=λa o e=>
  (x a o e).stay (λb u _ q=>k b u q) (λ_ q=>q) λ_ _ q=>q
theorem HOk.laid(x:HOk P w H h)(k:∀ b u,h.get? b=some u->h'.get? b=some u)(g:h.objs.size<=a)(new:ObjOk P w (upd H a o) h' a o):HOk P w (upd H a o) h':=λb u e=>by
  have d:=x.fresh g;by_cases f:b=a
  · subst f;rw[upd_same]at e;cases e;exact new
  · rw[upd_ne f]at e
    exact(x b u e).stay (λc v _ q=>k c v q) (λc q=>by rw[upd_ne (ne_of_none q d)];exact q) λc xs q=>by rw[upd_ne (ne_of_none q d)];exact q
end
def Rd(H:Hp)(a:Ad)(u:HO):Prop:=H a=some u\/∃ o,H a=some (.frz o u)
variable{w:World}{h:Heap}
theorem Rd.ok{P:Program}{a:Ad}{u:HO}(r:Rd H a u)(x:HOk P w H h):ObjOk P w H h a u:=by
  rcases r with r|⟨o,r⟩
  · exact x a u r
  · obtain⟨_,q⟩:=x a _ r
    exact q
def Mut:Ot HO->Prop
  |some (.lst _)=>True
  |some (.dK _)=>True
  |some (.dT _)=>True
  |some (.set _ _)=>True
  |some (.ins _ _ _)=>True
  |some (.ext _)=>True
  |_=>False
variable{x:Ad}
section
variable{e:Ad}{o':HO}
theorem HOk.write(ok:HOk P w H h)(mu:Mut (H x))(l:e=x\/H e=some (.own x))(k:∀ b u,b≠e->h.get? b=some u->h'.get? b=some u)(i:∃ u,h'.get? e=some u)(new:ObjOk P w (upd H x o') h' x o'):HOk P w (upd H x o') h':=λb u q=>by
  have d:∀ c y,H c=some (.own y)->c≠x:=λc y r z=>by subst z;rw[r]at mu;exact mu
  have f:∀ c xs,H c=some (.tup xs)->c≠x:=λc xs r z=>by subst z;rw[r]at mu;exact mu
  by_cases g:b=x
  · subst g;rw[upd_same]at q;cases q;exact new
  · rw[upd_ne g]at q
    by_cases a:b=e
    · have j:H b=some (.own x):=by
        rcases l with z|z
        · exact absurd (a.trans z) g
        · rw[a];exact z
      rw[q]at j;cases j
      obtain⟨v,m⟩:=i;exact⟨v,by rw[a];exact m⟩
    · refine(ok b u q).stay (λc v hc r=>k c v ?_ r) (λc r=>by rw[upd_ne (d c b r)];exact r) λc xs r=>by rw[upd_ne (f c xs r)];exact r
      rcases hc with rfl|hc
      · exact a
      · rintro rfl
        rcases l with z|z
        · exact d c b hc z
        · rw[hc]at z;cases z;exact g rfl
end
structure Un(fs ex:List Addr)(H H':Hp)(h h':Heap):Prop where
  keep:∀ b o,h.get? b=some o->H b=none->b∉fs->b∉ex->h'.get? b=some o
  slot:∀ b o,h.get? b=some o->H b=none->b∈fs->b∉ex->∃ sl,h'.get? b=some { o with slots:=sl }
  free:∀ b o,h.get? b=some o->H b=none->b∉ex->H' b=none
  there:∀ b o,h.get? b=some o->b∉ex->∃ o',h'.get? b=some o'
  tups:∀ b xs,H b=some (.tup xs)->H' b=some (.tup xs)
  frzs:∀ b o u,H b=some (.frz o u)->H' b=some (.frz o u)
  tbls:∀ b ps,H b=some (.tbl ps)->∃ more,H' b=some (.tbl (ps++more))
section
variable{fs fs' ex ex':Li Ad}{H1 H2:Hp}{h1 h2:Heap}{e:Ad}{o:HO}
theorem Un.any(u:Un fs ex H H1 h h1){b:Ad}{a:Obj}(q:h.get? b=some a)(n:H b=none)(c:b∉ex):∃ sl,h1.get? b=some { a with slots:=sl }:=by
  by_cases d:b∈fs
  · exact u.slot b a q n d c
  · exact⟨a.slots,u.keep b a q n d c⟩
theorem Un.kept(k:∀ b u,h.get? b=some u->h'.get? b=some u):Un fs ex H H h h':=
  ⟨λb a q _ _ _=>k b a q,λb a q _ _ _=>⟨a.slots,k b a q⟩,λ_ _ _ n _=>n,λb a q _=>⟨a,k b a q⟩,λ_ _ q=>q,λ_ _ _ q=>q,λ_ c q=>⟨#[],by rw[q];simp⟩⟩
theorem Un.refl:Un fs ex H H h h:=Un.kept λ_ _ q=>q
theorem Un.laid(k:∀ b u,h.get? b=some u->h'.get? b=some u)(d:h.objs.size<=a)(c:H a=none):Un fs ex H (upd H a o) h h' where
  keep:=λb u q _ _ _=>k b u q
  slot:=λb u q _ _ _=>⟨u.slots,k b u q⟩
  free:=λb u q n _=>by rw[upd_ne (aY (aT (aJ q) d))];exact n
  there:=λb u q _=>⟨u,k b u q⟩
  tups:=λb xs q=>by rw[upd_ne (ne_of_none q c)];exact q
  frzs:=λb u xs q=>by rw[upd_ne (ne_of_none q c)];exact q
  tbls:=λb e q=>⟨#[],by rw[upd_ne (ne_of_none q c),q];simp⟩
theorem Un.write(mu:Mut (H x))(i:e=x\/H e=some (.own x))(k:∀ b u,b≠e->h.get? b=some u->h'.get? b=some u)(d:∃ u,h'.get? e=some u):Un fs ex H (upd H x o) h h':=by
  have f:∀ b,H b=none->b≠x:=λb n z=>by subst z;rw[n]at mu;exact mu
  have g:∀ b,H b=none->b≠e:=λb n z=>by
    subst z;rcases i with r|r
    · exact f b n r
    · rw[n]at r;cases r
  have c:∀ b u,H b=some u->¬Mut (some u)->b≠x:=λb u q nm z=>by subst z;rw[q]at mu;exact nm mu
  refine⟨λb u q n _ _=>k b u (g b n) q,λb u q n _ _=>⟨u.slots,k b u (g b n) q⟩,λb u q n _=>by rw[upd_ne (f b n)];exact n,λb u q _=>?_,
    λb xs q=>by rw[upd_ne (c b _ q λz=>z)];exact q,λb u xs q=>by rw[upd_ne (c b _ q λz=>z)];exact q,λb j q=>⟨#[],by rw[upd_ne (c b _ q λz=>z),q];simp⟩⟩
  by_cases a:b=e
  · subst a;exact d
  · exact⟨u,k b u a q⟩
end
noncomputable def trk(h:Heap)(H:Hp):Li Ad:=(List.range h.objs.size).filter λa=>(H a).isSome
noncomputable def hidT(h:Heap)(H:Hp):Heap:=W.hideAll h (trk h H)
theorem hidT_size(h:Heap)(H:Hp):(hidT h H).objs.size=h.objs.size:=W.hideAll_size _ _
theorem hidT_get{b:Ad}{o:Obj}(e:h.get? b=some o)(n:H b=none):(hidT h H).get? b=some o:=
  W.hideAll_get _ e λa=>by
    have q:(H b).isSome=true:=(dR.mp a).2;rw[n]at q;simp at q
theorem of_hidT{b:Ad}{o:Obj}(e:(hidT h H).get? b=some o):h.get? b=some o/\H b=none:=by
  have a:h.get? b=some o:=W.of_hideAll (trk h H) e;refine⟨a,?_⟩;cases q:H b with
  |none=>rfl
  |some x=>
    have c:b∈trk h H:=dR.mpr ⟨cH.mpr (aJ a),by simp[q]⟩
    have z:(hidT h H).get? b=none:=W.hideAll_none (trk h H) c;rw[z]at e;cases e
structure Mod(K:fG7)(mg:Str->Option Value)(base:Heap):Prop where
  kin:K.In base
  glob:base.Ns mainGlobals mg
  blt:∃ mb,base.Ns builtinsNs mb/\∀ x:Str,x ≠ "__name__"->mb x=bootBuiltins x
  nolimit:base.NoLimit
structure Cx where
  prog:Program
  w:World
  K:fG7
  mg:Str->Option Value
  base:Heap
  A:Around
  N:List Str
  s₀:Shared
  H₀:Hp
  env:Env
  outer:List Env
  stack:List Env
  ex:List Addr
  fn:Str->Bool
  calm:Bool
  pn:List (Addr×Obj)
  xe:Value->Shared->Prop
noncomputable def frs(l:Li Env):Li Ad:=l.filterMap (·.frame)
noncomputable abbrev Cx.fs(X:Cx):Li Ad:=frs X.outer
def Vis(sc:Scope)(x:Str):Prop:=sc.names.lookup x=some .local\/sc.names.lookup x=some .cell\/sc.names.lookup x=some .free
def Loc(sc:Scope)(x:Str):Prop:=sc.names.lookup x=some .local\/sc.names.lookup x=some .cell
def Look(env:Env)(h:Heap)(m:Str->Ot vL)(x:Str)(u:vL):Prop:=
  (env.kindOf x=some .local/\m x=some u)\/((env.kindOf x=some .cell\/env.kindOf x=some .free)/\∃ c,env.cells.lookup x=some c/\h.IsCell c (some u))
structure Cx.Ok(X:Cx):Prop where
  mod:Mod X.K X.mg X.base
  kind:X.env.scope.kind=.function
  glob:X.env.globals=mainGlobals
  blt:X.env.builtins=builtinsNs
  above:X.s₀.heap.objs.size<=X.env.locals
  inj:∀ x y c,X.env.cells.lookup x=some c->X.env.cells.lookup y=some c->x=y
  has:∀ x,(X.env.kindOf x=some .cell\/X.env.kindOf x=some .free)->∃ c,X.env.cells.lookup x=some c
  cab:∀ x c,X.fn x=true->X.env.cells.lookup x=some c->X.s₀.heap.objs.size<=c
  hd:X.calm=true->X.A.handled=none
  frames:X.A.frames=some X.stack
  stk:X.stack=X.outer\/(X.stack=X.env :: X.outer/\X.env.frame=some X.env.locals)
  exf:∀ b∈X.ex,b≠X.env.locals/\∀ x c,X.env.cells.lookup x=some c->c≠b
  bs:∀ b o,X.base.get? b=some o->X.s₀.heap.get? b=some o/\X.H₀ b=none
  bsz:X.base.objs.size<=X.s₀.heap.objs.size
  noex:∀ b o,X.base.get? b=some o->b∉X.ex
  exfs:∀ b∈X.ex,b∉X.fs
  funs:X.s₀.heap.FunFrames X.base X.outer
  frf:∀ b∈X.fs,X.H₀ b=none
structure Inv(X:Cx)(pQ:List (Addr×Obj))(O:List (Option V))(H:Hp)(s:Shared):Prop where
  ok:X.Ok
  os:s.os=X.s₀.os
  bare:AllBare s.gens
  base:Un X.fs X.ex X.H₀ H X.s₀.heap s.heap
  loc:∃ m,s.heap.Ns X.env.locals m/\∀ (i:Nat) (x:Str) (v:V),X.N[i]?=some x->O[i]?=some (some v)->Vis X.env.scope x->∃ u,RelV v u/\Look X.env s.heap m x u
  cell:∀ x c,X.env.cells.lookup x=some c->∃ v,s.heap.IsCell c v
  free:H X.env.locals=none
  freeC:∀ x c,X.env.cells.lookup x=some c->H c=none
  pin:∀ p∈X.pn++pQ,s.heap.get? p.1=some p.2/\H p.1=none/\p.1≠X.env.locals/\p.1∉X.fs/\∀ v,p.2.data≠.cell v
  hok:HOk X.prog X.w H s.heap
  len:O.length=X.N.length
variable{g':Array GenState}{t' i:Nat}{d':Drawn}{N:Li Str}{s':sH7}
variable{X:Cx}{pQ:Li (Ad×Obj)}{s:sH7}
section
variable{O:Li (Ot V)}
theorem Cx.Ok.nofr(ok:X.Ok){b:Ad}{o:Obj}(e:X.base.get? b=some o):b∉X.fs:=λa=>by
  have:=(ok.funs.mem a).1;rw[e]at this;cases this
theorem Inv.bs(I:Inv X pQ O H s):∀ b o,X.base.get? b=some o->s.heap.get? b=some o/\H b=none:=λb o e=>
  ⟨I.base.keep b o (I.ok.bs b o e).1 (I.ok.bs b o e).2 (I.ok.nofr e) (I.ok.noex b o e),I.base.free b o (I.ok.bs b o e).1 (I.ok.bs b o e).2 (I.ok.noex b o e)⟩
theorem Inv.bk(I:Inv X pQ O H s):∀ b o,X.base.get? b=some o->s.heap.get? b=some o:=λb o e=>(I.bs b o e).1
theorem Inv.mod(I:Inv X pQ O H s):Mod X.K X.mg X.base:=I.ok.mod
theorem Inv.kIn(I:Inv X pQ O H s):X.K.In s.heap:=I.ok.mod.kin.keeps I.bk
theorem Inv.lt(I:Inv X pQ O H s):X.env.locals < s.heap.objs.size:=let ⟨_,hn,_⟩:=I.loc;hn.lt
theorem Inv.sz(I:Inv X pQ O H s):X.s₀.heap.objs.size<=s.heap.objs.size:=aP I.ok.above (cU I.lt)
theorem Inv.nofs(I:Inv X pQ O H s){a:Ad}(h:s.heap.objs.size<=a):a∉X.fs:=λc=>by
  obtain⟨_,o,b,_⟩:=I.ok.funs.mem c;exact absurd (aT (aJ b) (aP I.sz h)) (bO _)
theorem Inv.cne(I:Inv X pQ O H s):∀ x c,X.env.cells.lookup x=some c->c≠X.env.locals:=λx c e z=>by
  obtain⟨v,o,d,f⟩:=I.cell x c e;obtain⟨m,⟨g,h,i,a,b,_⟩,_⟩:=I.loc;rw[z,a]at d;cases d;rw[b]at f;cases f
theorem Inv.funs(I:Inv X pQ O H s):s.heap.FunFrames X.base X.outer:=by
  have all:∀ (l:Li Env),(∀ b∈frs l,b∈X.fs)->X.s₀.heap.FunFrames X.base l->s.heap.FunFrames X.base l:=by
    intro l
    induction l with
    |nil=>intro _ _;trivial
    |cons p r g=>
      intro f k;obtain⟨m,⟨L,o,a,j,i,n⟩,h⟩:=k;have d:L∈X.fs:=f L (by unfold frs;rw[List.filterMap_cons,a];exact lQ7)
      obtain⟨sl,e⟩:=I.base.slot L o i (I.ok.frf L d) d λz=>I.ok.exfs L z d
      exact⟨m,⟨L,_,a,j,e,n⟩,g (λb c=>f b (by unfold frs;rw[List.filterMap_cons,a];exact lM7 _ c)) h⟩
  exact all X.outer (λ_ c=>c) I.ok.funs
theorem Inv.stack(I:Inv X pQ O H s):s.heap.FunFrames X.base X.stack:=by
  rcases I.ok.stk with e|⟨e,b⟩
  · rw[e];exact I.funs
  · rw[e]
    obtain⟨m,a,_⟩:=I.loc;refine .cons (by rw[I.ok.kind];decide) b a ?_ I.funs
    exact Heap.get?_none_of_le (aP I.ok.bsz I.ok.above)
theorem Inv.stkSub(I:Inv X pQ O H s):∀ b∈frs X.stack,b∈X.env.locals :: X.fs:=λb a=>by
  rcases I.ok.stk with e|⟨e,c⟩
  · rw[e]at a;exact lM7 _ a
  · rw[e]at a
    unfold frs at a;rw[List.filterMap_cons,c]at a;exact a
theorem Inv.stkFree(I:Inv X pQ O H s):∀ b∈frs X.stack,H b=none:=λb hb=>by
  rcases aF.mp (I.stkSub b hb) with e|hb
  · rw[e];exact I.free
  · obtain⟨_,o,a,_⟩:=I.ok.funs.mem hb
    exact I.base.free b o a (I.ok.frf b hb) λz=>I.ok.exfs b z hb
theorem Inv.step{ch:Li Ad}(I:Inv X pQ O H s)(g:∀ b∈ch,(b∈X.ex\/X.s₀.heap.objs.size<=b)/\b≠X.env.locals/\(∀ x c,X.env.cells.lookup x=some c->c≠b)/\∀ p∈X.pn++pQ,p.1≠b)(keep:∀ b o,b≠X.env.locals->b∉X.fs->b∉ch->s.heap.get? b=some o->H b=none->h'.get? b=some o)(slot:∀ b o,b≠X.env.locals->b∈X.fs->b∉ch->s.heap.get? b=some o->H b=none->∃ sl,h'.get? b=some { o with slots:=sl })(free:∀ b o,b∉ch->s.heap.get? b=some o->H b=none->H' b=none)(there:∀ b o,b∉ch->s.heap.get? b=some o->∃ B,h'.get? b=some B)(tups:∀ b xs,H b=some (.tup xs)->H' b=some (.tup xs))(frzs:∀ b o u,H b=some (.frz o u)->H' b=some (.frz o u))(tbls:∀ b E,H b=some (.tbl E)->∃ more,H' b=some (.tbl (E++more)))(N:∀ m,s.heap.Ns X.env.locals m->h'.Ns X.env.locals m)(hok:HOk X.prog X.w H' h')(T:AllBare g') :
    Inv X pQ O H' { s with heap:=h',gens:=g',drawn:=d',toks:=t' }:=by
  have C:∀ b o,X.s₀.heap.get? b=some o->b≠X.env.locals:=λb o e=>aY (aT (aJ e) I.ok.above)
  have j:∀ b o,X.s₀.heap.get? b=some o->b∉X.ex->b∉ch:=λb o e a y=>by
    rcases (g b y).1 with z|z
    · exact a z
    · exact absurd (aT (aJ e) z) (bO _)
  have h:∀ x c,X.env.cells.lookup x=some c->∀ v,s.heap.IsCell c v->h'.IsCell c v:=λx c e v ⟨o,A,G⟩=>by
    have f:c∉ch:=λz=>(g c z).2.2.1 x c e rfl
    by_cases M:c∈X.fs
    · obtain⟨sl,q⟩:=slot c o (I.cne x c e) M f A (I.freeC x c e)
      exact⟨_,q,G⟩
    · exact⟨o,keep c o (I.cne x c e) M f A (I.freeC x c e),G⟩
  refine⟨I.ok,I.os,T,⟨λb o e n y a=>?_,λb o e n y a=>?_,λb o e n a=>?_,λb o e a=>?_,λb xs e=>tups b xs (I.base.tups b xs e),λb o xs e=>frzs b o xs (I.base.frzs b o xs e),λb E e=>?_⟩,?_,λx c e=>?_,?_,λx c e=>?_,λp L=>?_,hok,I.len⟩
  · exact keep b o (C b o e) y (j b o e a) (I.base.keep b o e n y a) (I.base.free b o e n a)
  · obtain⟨sl,t⟩:=I.base.slot b o e n y a
    obtain⟨F,D⟩:=slot b _ (C b o e) y (j b o e a) t (I.base.free b o e n a);exact⟨F,D⟩
  · obtain⟨B,t⟩:=I.base.there b o e a
    exact free b B (j b o e a) t (I.base.free b o e n a)
  · obtain⟨B,t⟩:=I.base.there b o e a
    exact there b B (j b o e a) t
  · obtain⟨Q,t⟩:=I.base.tbls b E e
    obtain⟨P,D⟩:=tbls b _ t;exact⟨Q++P,by rw[D,Array.append_assoc]⟩
  · obtain⟨m,R,S⟩:=I.loc
    refine⟨m,N m R,λi x v t D U=>?_⟩
    obtain⟨u,r,l⟩:=S i x v t D U;refine⟨u,r,?_⟩;rcases l with l|⟨k,c,e,z⟩
    · exact .inl l
    · exact .inr ⟨k,c,e,h x c e _ z⟩
  · obtain⟨v,z⟩:=I.cell x c e
    exact⟨v,h x c e v z⟩
  · obtain⟨m,⟨o,_,_,A,_⟩,_⟩:=I.loc
    exact free _ o (λz=>(g _ z).2.1 rfl) A I.free
  · obtain⟨v,o,A,G⟩:=I.cell x c e
    exact free c o (λz=>(g c z).2.2.1 x c e rfl) A (I.freeC x c e)
  · obtain⟨e,n,K,J,d⟩:=I.pin p L
    have f:p.1∉ch:=λz=>(g p.1 z).2.2.2 p L rfl
    exact⟨keep p.1 p.2 K J f e n,free p.1 p.2 f e n,K,J,d⟩
theorem Inv.un(I:Inv X pQ O H s)(u:Un X.fs [] H H' s.heap h')(hok:HOk X.prog X.w H' h'):Inv X pQ O H' { s with heap:=h',toks:=t' }:=by
  obtain⟨m,⟨o,p,q,g,r⟩,_⟩:=id I.loc;obtain⟨sl,j⟩:=u.any g I.free (by simp)
  exact I.step (g':=s.gens) (d':=s.drawn) (ch:=[]) (λ_ z=>nomatch z) (λb o _ c _ e n=>u.keep b o e n c (by simp)) (λb o _ c _ e n=>u.slot b o e n c (by simp)) (λb o _ e n=>u.free b o e n (by simp)) (λb o _ e=>u.there b o e (by simp)) u.tups u.frzs u.tbls (λl i=>by
    obtain⟨k,d,f,a,h⟩:=i;rw[g]at a;cases a
    exact⟨_,d,f,j,h⟩) hok I.bare
theorem Inv.call{ch:Li Ad}(I:Inv X pQ O H s)(u:Un (frs X.stack) ch H H' s.heap h')(hok:HOk X.prog X.w H' h')(q:AllBare g')(f:∀ b∈ch,(b∈X.ex\/X.s₀.heap.objs.size<=b)/\b≠X.env.locals/\(∀ x c,X.env.cells.lookup x=some c->c≠b)/\∀ p∈X.pn++pQ,p.1≠b) :
    Inv X pQ O H' { s with heap:=h',gens:=g',drawn:=d',toks:=t' }:=by
  obtain⟨m,⟨o,A,B,j,r⟩,_⟩:=id I.loc;obtain⟨sl,g⟩:=u.any j I.free λz=>(f _ z).2.1 rfl
  exact I.step (ch:=ch) f (λb o g t a e n=>u.keep b o e n (λz=>(aF.mp (I.stkSub b z)).elim g t) a) (λb o _ _ a e n=>u.any e n a) (λb o a e n=>u.free b o e n a) (λb o a e=>u.there b o e a) u.tups u.frzs u.tbls (λy l=>by
    obtain⟨v,h,i,d,k⟩:=l;rw[j]at d;cases d
    exact⟨_,h,i,g,k⟩) hok q
theorem Inv.turned{a:Ad}(I:Inv X pQ O H s)(k:∀ b o,b≠a->s.heap.get? b=some o->h'.get? b=some o)(i:H a=none)(g:a≠X.env.locals)(y:a∈X.ex\/X.s₀.heap.objs.size<=a)(w:∀ x c,X.env.cells.lookup x=some c->c≠a)(t:∀ p∈X.pn++pQ,p.1≠a):Inv X pQ O H { s with heap:=h',toks:=t' }:=by
  have f:∀ b u,H b=some u->b≠a:=λb u e z=>by rw[z,i]at e;cases e
  refine I.step (g':=s.gens) (d':=s.drawn) (ch:=[a]) (λb l=>?_) (λb o _ _ d e _=>k b o (λz=>d (by simp[z])) e) (λb o _ _ d e _=>⟨o.slots,k b o (λz=>d (by simp[z])) e⟩) (λ_ _ _ _ n=>n)
    (λb o d e=>⟨o,k b o (λz=>d (by simp[z])) e⟩) (λ_ _ e=>e) (λ_ _ _ e=>e) (λb C e=>⟨#[],by rw[e];simp⟩) (λm j=>?_) (λb u e=>?_) I.bare
  · have e:b=a:=by simpa using l
    subst e;exact⟨y,g,w,t⟩
  · obtain⟨o,A,B,h,r⟩:=j
    exact⟨o,A,B,k _ o (Ne.symm g) h,r⟩
  · refine(I.hok b u e).stay (λc v d q=>k c v ?_ q) (λ_ q=>q) λ_ _ q=>q
    rcases d with z|z
    · rw[z];exact f b u e
    · exact f c _ z
theorem Inv.tok(I:Inv X pQ O H s)(t:Nat):Inv X pQ O H { s with toks:=t }:=I.un (h':=s.heap) (t':=t) Un.refl I.hok
theorem Inv.kept{t':Nat}(I:Inv X pQ O H s)(k:∀ b u,s.heap.get? b=some u->h'.get? b=some u):Inv X pQ O H { s with heap:=h',toks:=t' }:=I.un (Un.kept k) (I.hok.kept k)
theorem Inv.laid{a:Ad}{o:HO}{t':Nat}(I:Inv X pQ O H s)(k:∀ b u,s.heap.get? b=some u->h'.get? b=some u)(c:s.heap.objs.size<=a)(new:ObjOk X.prog X.w (upd H a o) h' a o) :
    Inv X pQ O (upd H a o) { s with heap:=h',toks:=t' }:=I.un (Un.laid k c (I.hok.fresh c)) (I.hok.laid k c new)
theorem Inv.write{x e:Ad}{o:HO}{t':Nat}(I:Inv X pQ O H s)(mu:Mut (H x))(c:e=x\/H e=some (.own x))(k:∀ b u,b≠e->s.heap.get? b=some u->h'.get? b=some u)(a:∃ u,h'.get? e=some u)(new:ObjOk X.prog X.w (upd H x o) h' x o):Inv X pQ O (upd H x o) { s with heap:=h',toks:=t' }:=I.un (Un.write mu c k a) (I.hok.write mu c k a new)
theorem Inv.pins_of{a:Li (Ad×Obj)}(I:Inv X pQ O H s)(h:∀ p∈a,s.heap.get? p.1=some p.2/\H p.1=none/\p.1≠X.env.locals/\p.1∉X.fs/\∀ v,p.2.data≠.cell v):Inv X a O H s:=
  ⟨I.ok,I.os,I.bare,I.base,I.loc,I.cell,I.free,I.freeC,λp b=>(bP.mp b).elim (λz=>I.pin p (List.mem_append_left _ z)) (h p),I.hok,I.len⟩
theorem nodup_ix(hN:N.Nodup){j:Nat}{x:Str}(a:N[i]?=some x)(b:N[j]?=some x):i=j:=by
  obtain⟨f,d⟩:=bK.mp a;obtain⟨e,c⟩:=bK.mp b;exact(List.getElem_inj hN).mp (d.trans c.symm)
theorem store_ok2{M:Model}{A:Around}{E:vL->sH7->Prop}{x:Str}{v:V}{u:vL}{Q:Unit->sH7->Prop}(I:Inv X pQ O H s)(hN:X.N.Nodup)(P:X.N[i]?=some x)(t:Loc X.env.scope x)(r:RelV v u)(h:∀ s',Inv X pQ (O.set i (some v)) H s'->(∃ a,Heap.SameBut a s.heap s'.heap/\(a=X.env.locals\/X.env.cells.lookup x=some a))->Q () s')(hf:X.fn x=true\/X.env.scope.names.lookup x=some .local:=by first|exact .inl rfl|exact .inr rfl|assumption):wpAny M A (storeName X.env x u) Q E s:=by
  obtain⟨m,hn,hl⟩:=id I.loc;have R:(X.env.scope.kind==.class||(X.env.scope.kind==.module&&X.env.locals != X.env.globals))=false:=by rw[I.ok.kind];rfl
  have D:i < O.length:=by rw[I.len];exact(bK.mp P).1
  have cne:=I.cne;have g:∀ {a:Ad}{h':Heap},(∃ o,s.heap.get? a=some o/\H a=none)->Heap.SameBut a s.heap h'->HOk X.prog X.w H h':=λ{a h'} ha f b ob e=>by
    obtain⟨_,_,B⟩:=ha;refine(I.hok b ob e).stay (λc U hc q=>(f.2 c ?_).trans q) (λ_ q=>q) λ_ _ q=>q
    rintro rfl
    rcases hc with rfl|hc
    · rw[B]at e;cases e
    · rw[B]at hc;cases hc
  rcases t with hk|hk
  · refine wpAny_storeName_local hk hn (λh' hn' f=>?_) R
    obtain⟨oL,_,_,hoL,_⟩:=id hn;refine h _ ⟨I.ok,I.os,I.bare,⟨λb o e n J t=>?_,λb o e n J t=>?_,I.base.free,λb o e t=>?_,I.base.tups,I.base.frzs,I.base.tbls⟩,⟨_,hn',λj y Z l C e3=>?_⟩,λy c e=>?_,I.free,I.freeC,λp hp=>?_,g ⟨oL,hoL,I.free⟩ f,by simpa using I.len⟩ ⟨_,f,.inl rfl⟩
    · exact(f.2 b (aY (aT (aJ e) I.ok.above))).trans (I.base.keep b o e n J t)
    · obtain⟨sl,l⟩:=I.base.slot b o e n J t
      exact⟨sl,(f.2 b (aY (aT (aJ e) I.ok.above))).trans l⟩
    · obtain⟨o',l⟩:=I.base.there b o e t
      exact⟨o',(f.2 b (aY (aT (aJ e) I.ok.above))).trans l⟩
    · by_cases F:j=i
      · subst F
        rw[P]at l;cases l
        rw[bV D]at C;cases C;exact⟨u,r,.inl ⟨hk,by simp⟩⟩
      · rw[cA (Ne.symm F)]at C
        obtain⟨u',r',q⟩:=hl j y Z l C e3;refine⟨u',r',?_⟩;rcases q with⟨k,e⟩|⟨k,c,e,z⟩
        · refine .inl ⟨k,?_⟩
          have:y≠x:=λe=>F (nodup_ix hN l (e ▸ P))
          simp[this,e]
        · exact .inr ⟨k,c,e,z.sameBut f (cne y c e)⟩
    · obtain⟨U,z⟩:=I.cell y c e
      exact⟨U,z.sameBut f (cne y c e)⟩
    · obtain⟨e,n,W,nf,d⟩:=I.pin p hp
      exact⟨(f.2 p.1 W).trans e,n,W,nf,d⟩
  · have G:X.fn x=true:=by
      rcases hf with z|z
      · exact z
      · rw[z]at hk;cases hk
    obtain⟨c,hc⟩:=I.ok.has x (.inl hk);obtain⟨U,z⟩:=I.cell x c hc;refine wpAny_storeName_cell I.ok.kind hk hc z (λh' T f=>?_)
    obtain⟨oc,L,K⟩:=id z;refine h { s with heap:=h' } ⟨I.ok,I.os,I.bare,⟨λb o e n J t=>?_,λb o e n J t=>?_,I.base.free,λb o e t=>?_,I.base.tups,I.base.frzs,I.base.tbls⟩,⟨m,hn.sameBut f (Ne.symm (cne x c hc)),λj y Z l C e3=>?_⟩,λy Y e=>?_,I.free,I.freeC,λp hp=>?_,g ⟨oc,L,I.freeC x c hc⟩ f,by simpa using I.len⟩ ⟨c,f,.inr hc⟩
    · exact(f.2 b (aY (aT (aJ e) (I.ok.cab x c G hc)))).trans (I.base.keep b o e n J t)
    · obtain⟨sl,l⟩:=I.base.slot b o e n J t
      exact⟨sl,(f.2 b (aY (aT (aJ e) (I.ok.cab x c G hc)))).trans l⟩
    · obtain⟨o',l⟩:=I.base.there b o e t
      exact⟨o',(f.2 b (aY (aT (aJ e) (I.ok.cab x c G hc)))).trans l⟩
    · by_cases F:j=i
      · subst F
        rw[P]at l;cases l
        rw[bV D]at C;cases C;exact⟨u,r,.inr ⟨.inl hk,c,hc,T⟩⟩
      · rw[cA (Ne.symm F)]at C
        obtain⟨u',r',q⟩:=hl j y Z l C e3;refine⟨u',r',?_⟩;rcases q with q|⟨k,Y,e,z'⟩
        · exact .inl q
        · refine .inr ⟨k,Y,e,z'.sameBut f ?_⟩
          rintro rfl
          exact F (nodup_ix hN l (I.ok.inj _ _ _ e hc ▸ P))
    · by_cases S:Y=c
      · subst S;exact⟨_,T⟩
      · obtain⟨w2,z2⟩:=I.cell y Y e
        exact⟨w2,z2.sameBut f S⟩
    · obtain⟨e,n,W,nf,d⟩:=I.pin p hp
      refine⟨(f.2 p.1 ?_).trans e,n,W,nf,d⟩;intro q;rw[q,L]at e;have q':oc=p.2:=Option.some.inj e;exact d U (by rw[<-q'];exact K)
theorem store_ok{M:Model}{A:Around}{E:vL->sH7->Prop}{x:Str}{v:V}{u:vL}{Q:Unit->sH7->Prop}(I:Inv X pQ O H s)(hN:X.N.Nodup)(b:X.N[i]?=some x)(a:Loc X.env.scope x)(r:RelV v u)(h:∀ s',Inv X pQ (O.set i (some v)) H s'->Q () s')(c:X.fn x=true\/X.env.scope.names.lookup x=some .local:=by first|exact .inl rfl|exact .inr rfl|assumption):wpAny M A (storeName X.env x u) Q E s:=
  store_ok2 I hN b a r (λs' d _=>h s' d) c
theorem Inv.call'{ch:Li Ad}(I:Inv X pQ O H s)(f:s'.os=s.os)(u:Un (frs X.stack) ch H H' s.heap s'.heap)(hok:HOk X.prog X.w H' s'.heap)(g:AllBare s'.gens)(a:∀ b∈ch,(b∈X.ex\/X.s₀.heap.objs.size<=b)/\b≠X.env.locals/\(∀ x c,X.env.cells.lookup x=some c->c≠b)/\∀ p∈X.pn++pQ,p.1≠b):Inv X pQ O H' s':=by
  obtain⟨h',g',d',t',d⟩:=s';have e:d=s.os:=f;subst e;exact I.call (g':=g') (t':=t') (d':=d') u hok g a
end
abbrev XK:=vL->Ot Ad->Hp->Prop
abbrev St:=Li (Ot V)
abbrev VK:=V->Hp->Prop
abbrev TE:=St->Hp->VK->Prop
abbrev TT:=St->Hp->(Bool->Hp->Prop)->Prop
abbrev TA:=St->Hp->(Li V->Hp->Prop)->Prop
structure Ends where
  nx:St->Hp->Prop
  rt:VK
  bk:St->Hp->Prop:=λ_ _=>False
  ct:St->Hp->Prop:=λ_ _=>False
abbrev TS:=Ends->St->Hp->Prop
def EP(X:Cx)(b:Li (Ad×Obj))(O:St)(Q:VK)(u:vL)(s':sH7):Prop:=∃ v a,Inv X b O a s'/\RelV v u/\Q v a
def TP(X:Cx)(c:Li (Ad×Obj))(O:St)(Q:Bool->Hp->Prop)(b:Bool)(s':sH7):Prop:=∃ a,Inv X c O a s'/\Q b a
def AP(X:Cx)(c:Li (Ad×Obj))(O:St)(Q:Li V->Hp->Prop)(us:Li vL)(s':sH7):Prop:=∃ a b,Inv X c O b s'/\Vals a us/\Q a b
def SP(X:Cx)(c:Li (Ad×Obj))(D:Ends)(f:Flow)(s':sH7):Prop:=
  match f with
  |.next=>∃ b a,Inv X c b a s'/\D.nx b a
  |.brk=>∃ b a,Inv X c b a s'/\D.bk b a
  |.cont=>∃ b a,Inv X c b a s'/\D.ct b a
  |.ret u=>∃ v b a,Inv X c b a s'/\RelV v u/\D.rt v a
def PE(X:Cx)(e:Expr)(t:TE):Prop:=
  ∀ (pQ:Li (Ad×Obj)) (s:sH7) (O:St) (H:Hp) (Q:VK),Inv X pQ O H s->t O H Q->wpAny (model X.prog X.w) X.A (eval e X.env) (EP X pQ O Q) X.xe s
def PT(X:Cx)(e:Expr)(t:TT):Prop:=
  ∀ (pQ:Li (Ad×Obj)) (s:sH7) (O:St) (H:Hp) (Q:Bool->Hp->Prop),Inv X pQ O H s->t O H Q->wpAny (model X.prog X.w) X.A (isTrue e X.env (eval e X.env)) (TP X pQ O Q) X.xe s
def PW(X:Cx)(e:Expr)(t:TT):Prop:=
  ∀ (whole:Sem vL) (pQ:Li (Ad×Obj)) (s:sH7) (O:St) (H:Hp) (Q:Bool->Hp->Prop),Inv X pQ O H s->t O H Q->wpAny (model X.prog X.w) X.A (isTrue e X.env whole) (TP X pQ O Q) X.xe s
variable{X:Cx}
theorem PW.pt{e:Expr}{t:TT}(h:PW X e t):PT X e t:=h _
def PA(X:Cx)(a:Li Expr)(t:TA):Prop:=
  ∀ (pos:Pos) (pQ:Li (Ad×Obj)) (s:sH7) (O:St) (H:Hp) (Q:Li V->Hp->Prop),Inv X pQ O H s->t O H Q->wpAny (model X.prog X.w) X.A (spliced (backTo pos (starEach a X.env))) (AP X pQ O Q) X.xe s
def PS(X:Cx)(a:Stmt)(t:TS):Prop:=
  ∀ (pQ:Li (Ad×Obj)) (s:sH7) (O:St) (H:Hp) (D:Ends),Inv X pQ O H s->t D O H->wpAny (model X.prog X.w) X.A (exec a X.env) (SP X pQ D) X.xe s
def PSs(X:Cx)(a:Li Stmt)(t:TS):Prop:=
  ∀ (pQ:Li (Ad×Obj)) (s:sH7) (O:St) (H:Hp) (D:Ends),Inv X pQ O H s->t D O H->wpAny (model X.prog X.w) X.A (execs a X.env) (SP X pQ D) X.xe s
variable{M:Model}{A:Around}
theorem thn{b:Type}{t:Sem b}{Q c:b->sH7->Prop}{E:vL->sH7->Prop}{s:sH7}(h:wpAny M A t Q E s)(d:∀ a s,Q a s->c a s):wpAny M A t c E s:=bG h d λ_ _ x=>x
variable{pQ:Li (Ad×Obj)}{s:sH7}{Q:vL->sH7->Prop}
variable{b:Expr}{ta tb:TE}{pos:Pos}
section
def tVar(i:Nat):TE:=λO H Q=>∃ v,O[i]?=some (some v)/\Q v H
def tC(v:V):TE:=λ_ H Q=>Q v H
theorem pe_var{x:Str}{d:Pos}(hN:X.N[i]?=some x)(j:Vis X.env.scope x)(hd:(x==("__debug__":Str))=false:=by decide)(f:(x==("__classdict__":Str))=false:=by decide):PE X (.Name x d) (tVar i):=by
  intro pQ s O H Q I h;obtain⟨v,e,h⟩:=h;obtain⟨m,k,o⟩:=I.loc;obtain⟨u,r,l⟩:=o i x v hN e j;have b:EP X pQ O Q u s:=⟨v,H,I,r,h⟩;rcases l with⟨hk,n⟩|⟨hk,c,g,a⟩
  · exact wpAny_Name (wpAny_loadName_local I.ok.kind hk k n b) hd
  · rcases hk with hk|hk
    · exact wpAny_Name (wpAny_loadName_cell I.ok.kind hk g a b) hd
    · exact wpAny_Name (wpAny_loadName_free I.ok.kind hk g a b f) hd
theorem pe_int{i j pos}:PE X (.Constant (.int i) j pos) (tC (.int i)):=λ_ _ _ H _ I h=>wpAny_Constant_int ⟨.int i,H,I.tok _,⟨_,rfl⟩,h⟩
theorem pe_bl{b j pos}:PE X (.Constant (.bool b) j pos) (tC (.bl b)):=λ_ _ _ H _ I h=>Constant_bool ⟨.bl b,H,I,rfl,h⟩
theorem pe_non{j pos}:PE X (.Constant .none j pos) (tC .non):=λ_ _ _ H _ I h=>Constant_none ⟨.non,H,I,rfl,h⟩
theorem pe_str{x j pos}:PE X (.Constant (.str x) j pos) (tC (.str x)):=λ_ _ _ H _ I h=>Calls.Constant_str ⟨.str x,H,I.tok _,⟨_,rfl⟩,h⟩
def Gl(X:Cx)(x:Str):Prop:=X.env.kindOf x=some .globalImplicit
theorem ld_glob{E:vL->sH7->Prop}{O:St}{x:Str}{u:vL}{a:Pos}(I:Inv X pQ O H s)(c:Gl X x)(b:X.mg x=some u)(h:Q u s)(hd:(x==("__debug__":Str))=false:=by decide):wpAny (model X.prog X.w) X.A (eval (.Name x a) X.env) Q E s:=
  Calls.Name_function_global I.ok.kind c (Calls.loadGlobal_global (by rw[I.ok.glob];exact I.mod.glob.keeps I.bk) b h) hd
theorem ld_blt{E:vL->sH7->Prop}{O:St}{x:Str}{u:vL}{a:Pos}(I:Inv X pQ O H s)(e:Gl X x)(d:X.mg x=none)(b:bootBuiltins x=some u)(h:Q u s)(c:x ≠ "__name__":=by decide)(hd:(x==("__debug__":Str))=false:=by decide):wpAny (model X.prog X.w) X.A (eval (.Name x a) X.env) Q E s:=by
  obtain⟨i,g,f⟩:=I.mod.blt;exact Calls.Name_function_global I.ok.kind e (Calls.loadGlobal_builtin (by rw[I.ok.glob];exact I.mod.glob.keeps I.bk) d (by rw[I.ok.blt];exact g.keeps I.bk) ((f x c).trans b) h) hd
theorem pe_glob{x:Str}{v:V}{u:vL}{a:Pos}(c:Gl X x)(b:X.mg x=some u)(r:RelV v u)(hd:(x==("__debug__":Str))=false:=by decide):PE X (.Name x a) (tC v):=
  λ_ _ _ H _ I h=>ld_glob I c b ⟨v,H,I,r,h⟩ hd
theorem pe_bltn{x:Str}{v:V}{u:vL}{a:Pos}(e:Gl X x)(d:X.mg x=none)(b:bootBuiltins x=some u)(r:RelV v u)(c:x ≠ "__name__":=by decide)(hd:(x==("__debug__":Str))=false:=by decide):PE X (.Name x a) (tC v):=
  λ_ _ _ H _ I h=>ld_blt I e d b ⟨v,H,I,r,h⟩ c hd
variable{a:Expr}
def PC(X:Cx)(e:CmpOp)(a b:Expr)(t:TE):Prop:=
  ∀ (pQ:Li (Ad×Obj)) (s:sH7) (O:St) (H:Hp) (Q:VK),Inv X pQ O H s->t O H Q->
    wpAny (model X.prog X.w) X.A (eval a X.env) (λv d=>wpAny (model X.prog X.w) X.A (eval b X.env) (λu c=>wpAny (model X.prog X.w) X.A (compareOp e v u) (EP X pQ O Q) X.xe c) X.xe d) X.xe s
def tB(t:TE):TT:=λO H Q=>t O H λx a=>∃ c,x=.bl c/\Q c a
theorem pt_val{e:Expr}{t:TE}(h:PE X e t)(g:∀ a,isTrue e X.env a=(do let v <-a;standAt e.pos;holding [v] (truthy v)):=by intro _;rfl):PT X e (tB t):=by
  intro pQ s O H Q I f;refine isTrue_plain (thn (h pQ s O H _ I f) λv s1 ⟨x,j,i,b,c⟩=>?_) (g _)
  obtain⟨d,rfl,q⟩:=c;cases b;exact wpAny_truthy_bool ⟨j,i,q⟩
variable{tA tB':TT}{rest:Li Expr}
def tAnd(t u:TT):TT:=λO H Q=>t O H λc a=>if c=true then u O a Q else Q false a
def tOr(t u:TT):TT:=λO H Q=>t O H λc a=>if c=true then Q true a else u O a Q
def tNot(t:TT):TT:=λO H Q=>t O H λc a=>Q (!c) a
theorem pw_and1(b:PT X a tA):PW X (.BoolOp .And [a] pos) tA:=by
  intro d pQ s O H Q I h;refine isTrue_and (thn (b pQ s O H Q I h) λc s1 e=>?_)
  cases c with
  |true=>exact isTrue_and_nil e
  |false=>exact e
theorem pw_or1(b:PT X a tA):PW X (.BoolOp .Or [a] pos) tA:=by
  intro d pQ s O H Q I h;refine isTrue_or (thn (b pQ s O H Q I h) λc s1 e=>?_)
  cases c with
  |false=>exact isTrue_or_nil e
  |true=>exact e
theorem pw_and(j:PT X a tA)(i:PW X (.BoolOp .And (b :: rest) pos) tB'):PW X (.BoolOp .And (a :: b :: rest) pos) (tAnd tA tB'):=by
  intro g pQ s O H Q I h;refine isTrue_and (thn (j pQ s O H _ I h) λc s1 ⟨f,e,d⟩=>?_)
  cases c with
  |true=>exact i g pQ s1 O f Q e d
  |false=>exact⟨f,e,d⟩
theorem pw_or(j:PT X a tA)(i:PW X (.BoolOp .Or (b :: rest) pos) tB'):PW X (.BoolOp .Or (a :: b :: rest) pos) (tOr tA tB'):=by
  intro g pQ s O H Q I h;refine isTrue_or (thn (j pQ s O H _ I h) λc s1 ⟨f,e,d⟩=>?_)
  cases c with
  |true=>exact⟨f,e,d⟩
  |false=>exact i g pQ s1 O f Q e d
theorem pt_not(b:PT X a tA):PT X (.UnaryOp .Not a pos) (tNot tA):=by
  intro pQ s O H Q I h;exact isTrue_not (b pQ s O H (λc d=>Q (!c) d) I h)
def tAndV(ta tb:TE):TE:=λO H Q=>ta O H λx a=>∃ c,x=.bl c/\if c=true then tb O a Q else Q (.bl false) a
def tOrV(ta tb:TE):TE:=λO H Q=>ta O H λx a=>∃ c,x=.bl c/\if c=true then Q (.bl true) a else tb O a Q
def tNotV(ta:TE):TE:=λO H Q=>ta O H λx a=>∃ c,x=.bl c/\Q (.bl (!c)) a
theorem pe_one{op}{t:TE}(h:PE X a t):PE X (.BoolOp op [a] pos) t:=λpQ s O H Q I b=>BoolOp_one (h pQ s O H Q I b)
theorem pe_and(j:PE X a ta)(i:PE X (.BoolOp .And (b :: rest) pos) tb):PE X (.BoolOp .And (a :: b :: rest) pos) (tAndV ta tb):=by
  intro pQ s O H Q I h;refine BoolOp_and (thn (j pQ s O H _ I h) λv s1 ⟨x,f,e,g,d⟩=>?_)
  obtain⟨c,rfl,d⟩:=d;cases g;refine wpAny_truthy_bool ?_;cases c with
  |true=>exact i pQ s1 O f Q e d
  |false=>exact⟨.bl false,f,e,rfl,d⟩
theorem pe_or(j:PE X a ta)(i:PE X (.BoolOp .Or (b :: rest) pos) tb):PE X (.BoolOp .Or (a :: b :: rest) pos) (tOrV ta tb):=by
  intro pQ s O H Q I h;refine BoolOp_or (thn (j pQ s O H _ I h) λv s1 ⟨x,f,e,g,d⟩=>?_)
  obtain⟨c,rfl,d⟩:=d;cases g;refine wpAny_truthy_bool ?_;cases c with
  |false=>exact i pQ s1 O f Q e d
  |true=>exact⟨.bl true,f,e,rfl,d⟩
theorem pe_not(e:PE X a ta):PE X (.UnaryOp .Not a pos) (tNotV ta):=by
  intro pQ s O H Q I h;refine UnaryOp_ (thn (e pQ s O H _ I h) λv s1 ⟨x,g,f,d,b⟩=>?_)
  obtain⟨c,rfl,b⟩:=b;cases d;exact not_of (wpAny_truthy_bool ⟨.bl (!c),g,f,rfl,b⟩)
def tIf(t:TT)(ta tb:TE):TE:=λO H Q=>t O H λc a=>if c=true then ta O a Q else tb O a Q
theorem pe_ifExp{c:Expr}(i:PT X c tA)(k:PE X a ta)(j:PE X b tb):PE X (.IfExp c a b pos) (tIf tA ta tb):=by
  intro pQ s O H Q I h;refine wpAny_IfExp (thn (i pQ s O H _ I h) λd s1 ⟨g,f,e⟩=>?_)
  cases d with
  |true=>exact k pQ s1 O g Q f e
  |false=>exact j pQ s1 O g Q f e
end
def SqL(K:fG7)(H:Hp)(a:Ad)(xs:Li V):Prop:=
  Rd H a (.lst xs) \/
    ∃ (o:Obj) (its:Array vL) (n:Nat),K.lookup a=some o/\o.cls=.type "list"/\o.dict=none/\o.data=.seq its n/\its.size<=sizeLine/\Vals xs its.toList
def SqT(K:fG7)(H:Hp)(a:Ad)(xs:Li V):Prop:=
  Rd H a (.tup xs) \/
    ∃ (o:Obj) (its:Array vL) (n:Nat),K.lookup a=some o/\o.cls=.type "tuple"/\o.data=.seq its n/\its.size<=sizeLine/\Vals xs its.toList
noncomputable def absV:vL->Ot V
  |.none=>some .non
  |.bool b=>some (.bl b)
  |.int i _=>some (.int i)
  |.str x _=>some (.str x)
  |.bytes b _=>some (.byt b)
  |.float b _=>some (.flt b)
  |.ref a=>some (.ref a)
  |.type n=>some (.ty n)
  |_=>none
theorem RelV.abs{x:V}{u:vL}(r:RelV x u):absV u=some x:=by
  cases x with
  |non=>cases r;rfl
  |bl _=>cases r;rfl
  |int _=>obtain⟨t,rfl⟩:=r;rfl
  |str _=>obtain⟨t,rfl⟩:=r;rfl
  |byt _=>obtain⟨t,rfl⟩:=r;rfl
  |flt _=>obtain⟨t,rfl⟩:=r;rfl
  |ref _=>cases r;rfl
  |ty _=>cases r;rfl
theorem RelV.inj{x y:V}{u:vL}(r:RelV x u)(q:RelV y u):x=y:=Option.some.inj (r.abs.symm.trans q.abs)
theorem Vals.inj:∀ {xs ys:Li V}{us:Li vL},Vals xs us->Vals ys us->xs=ys
  |_,_,_,.nil,.nil=>rfl
  |_,_,_,.cons r t,.cons a t'=>by rw[r.inj a,Vals.inj t t']
variable{K:fG7}
variable{O:St}{xs:Li V}
section
variable{ys:Li V}
theorem SqT.of(h:H a=some (.tup xs)):SqT K H a xs:=.inl (.inl h)
theorem Inv.list(I:Inv X pQ O H s)(h:SqL X.K H a xs):∃ b:Li vL,Vals xs b/\PlainL s.heap a b.toArray/\xs.length<=sizeLine:=by
  rcases h with h|⟨o,b,n,d,g,f,c,i,r⟩
  · obtain⟨z,b,n,r,e⟩:=h.ok I.hok
    exact⟨b,r,⟨_,n,e,rfl,rfl,rfl⟩,z⟩
  · refine⟨b.toList,r,⟨o,n,I.kIn a o d,g,f,by simpa using c⟩,?_⟩
    have e:=r.length;simp only[cI]at e;omega
theorem Inv.tuple(I:Inv X pQ O H s)(h:SqT X.K H a xs):∃ b:Li vL,Vals xs b/\IsTup s.heap a b.toArray/\xs.length<=sizeLine:=by
  rcases h with h|⟨o,b,n,d,f,c,g,r⟩
  · obtain⟨z,b,r,p⟩:=h.ok I.hok
    exact⟨b,r,p,z⟩
  · refine⟨b.toList,r,⟨o,I.kIn a o d,f,n,by simpa using c⟩,?_⟩
    have e:=r.length;simp only[cI]at e;omega
theorem Inv.list_inj(I:Inv X pQ O H s)(h:SqL X.K H a xs)(i:SqL X.K H a ys):xs=ys:=by
  obtain⟨c,r,⟨o,n,e,_,_,d⟩,_⟩:=I.list h;obtain⟨b,g,⟨k,l,f,_,_,d'⟩,_⟩:=I.list i;rw[e]at f;cases f
  rw[d]at d'
  injection d' with j _
  have:c=b:=by simpa using congrArg Array.toList j
  subst this;exact r.inj g
theorem Inv.tuple_inj(I:Inv X pQ O H s)(h:SqT X.K H a xs)(i:SqT X.K H a ys):xs=ys:=by
  obtain⟨c,r,⟨o,e,_,n,d⟩,_⟩:=I.tuple h;obtain⟨b,g,⟨k,f,_,l,d'⟩,_⟩:=I.tuple i;rw[e]at f;cases f
  rw[d]at d'
  injection d' with j _
  have:c=b:=by simpa using congrArg Array.toList j
  subst this;exact r.inj g
end
noncomputable abbrev Cx.wish(X:Cx)(E:vL->sH7->Prop):Cx:={ X with xe:=E }
noncomputable abbrev Cx.nox(X:Cx):Cx:=X.wish λ_ _=>False
theorem Cx.Ok.wish(ok:X.Ok)(E:vL->sH7->Prop):(X.wish E).Ok:=
  ⟨ok.mod,ok.kind,ok.glob,ok.blt,ok.above,ok.inj,ok.has,ok.cab,ok.hd,ok.frames,ok.stk,ok.exf,ok.bs,ok.bsz,ok.noex,ok.exfs,ok.funs,ok.frf⟩
theorem Cx.Ok.unwish{E:vL->sH7->Prop}(ok:(X.wish E).Ok):X.Ok:=
  ⟨ok.mod,ok.kind,ok.glob,ok.blt,ok.above,ok.inj,ok.has,ok.cab,ok.hd,ok.frames,ok.stk,ok.exf,ok.bs,ok.bsz,ok.noex,ok.exfs,ok.funs,ok.frf⟩
variable{E:vL->sH7->Prop}
theorem Inv.wish(I:Inv X pQ O H s)(E:vL->sH7->Prop):Inv (X.wish E) pQ O H s:=⟨I.ok.wish E,I.os,I.bare,I.base,I.loc,I.cell,I.free,I.freeC,I.pin,I.hok,I.len⟩
theorem Inv.unwish(I:Inv (X.wish E) pQ O H s):Inv X pQ O H s:=⟨I.ok.unwish,I.os,I.bare,I.base,I.loc,I.cell,I.free,I.freeC,I.pin,I.hok,I.len⟩
theorem SP.unwish{D:Ends}{f:Flow}(h:SP (X.wish E) pQ D f s'):SP X pQ D f s':=by
  cases f with
  |next=>obtain⟨a,b,I,q⟩:=h;exact⟨a,b,I.unwish,q⟩
  |brk=>obtain⟨a,b,I,q⟩:=h;exact⟨a,b,I.unwish,q⟩
  |cont=>obtain⟨a,b,I,q⟩:=h;exact⟨a,b,I.unwish,q⟩
  |ret u=>obtain⟨v,a,b,I,r,q⟩:=h;exact⟨v,a,b,I.unwish,r,q⟩
theorem PSs.nox{a:Li Stmt}{t:TS}(h:PSs X.nox a t):PSs X a t:=λpQ s O H D I b=>
  bG (h pQ s O H D (I.wish _) b) (λ_ _ q=>q.unwish) λ_ _ z=>False.elim z
variable{e:Expr}{te:TE}
section
variable{st:Stmt}{rest:Li Stmt}{t u:TS}
def tNext:TS:=λD O H=>D.nx O H
def tSeq(t u:TS):TS:=λD O H=>t { D with nx:=u D } O H
theorem pss_nil:PSs X [] tNext:=λ_ _ O H _ I h=>wpAny_execs_nil ⟨O,H,I,h⟩
theorem pss_cons(b:PS X st t)(a:PSs X rest u):PSs X (st :: rest) (tSeq t u):=by
  intro pQ s O H D I h;refine wpAny_execs_cons (thn (b pQ s O H { D with nx:=u D } I h) λf s1 q=>?_)
  cases f with
  |next=>
    obtain⟨c,e,d,q⟩:=q;exact a pQ s1 c e D d q
  |ret v=>exact q
  |brk=>exact q
  |cont=>exact q
def tBreak:TS:=λD O H=>D.bk O H
def tCont:TS:=λD O H=>D.ct O H
theorem ps_pass:PS X (.Pass pos) tNext:=λ_ _ O H _ I h=>wpAny_Pass ⟨O,H,I,h⟩
theorem ps_break:PS X (.Break pos) tBreak:=λ_ _ O H _ I h=>wpAny_Break ⟨O,H,I,h⟩
theorem ps_continue:PS X (.Continue pos) tCont:=λ_ _ O H _ I h=>wpAny_Continue ⟨O,H,I,h⟩
theorem Inv.quiet{O:St}(I:Inv X pQ O H s):interactive X.env=false:=by simp[interactive,I.ok.kind]
def tDrop(te:TE):TS:=λD O H=>te O H λ_ a=>D.nx O a
theorem ps_expr(c:PE X e te)(b:swapsWith e none pos.line X.env=pure false:=by rfl):PS X (.Expr e pos) (tDrop te):=by
  intro pQ s O H D I h;exact wpAny_Expr_any (thn (c pQ s O H _ I h) λv s1 ⟨x,f,d,g,a⟩=>⟨O,f,d,a⟩) I.quiet b
def tRet(te:TE):TS:=λD O H=>te O H D.rt
theorem ps_ret(c:PE X e te):PS X (.Return (some e) pos) (tRet te):=by
  intro pQ s O H D I h;exact wpAny_Return_some (thn (c pQ s O H _ I h) λv s1 ⟨x,f,d,a,b⟩=>⟨x,O,f,d,a,b⟩)
def tIfS(c:TT)(t u:TS):TS:=λD O H=>c O H λb a=>if b=true then t D O a else u D O a
theorem ps_if{c:Expr}{a b:Li Stmt}{e:TT}(j:PT X c e)(l:PSs X a t)(k:PSs X b u):PS X (.If c a b pos) (tIfS e t u):=by
  intro pQ s O H D I h;refine wpAny_If (thn (j pQ s O H _ I h) λd s1 ⟨i,g,f⟩=>?_)
  cases d with
  |true=>exact l pQ s1 O i D g f
  |false=>exact k pQ s1 O i D g f
end
abbrev TG:=V->St->Hp->(St->Hp->Prop)->Prop
abbrev TGs:=Li V->St->Hp->(St->Hp->Prop)->Prop
def PG(X:Cx)(a:Expr)(t:TG):Prop:=
  ∀ (pQ:Li (Ad×Obj)) (s:sH7) (O:St) (H:Hp) (v:V) (u:vL) (Q:St->Hp->Prop),Inv X pQ O H s->RelV v u->t v O H Q->
    wpAny (model X.prog X.w) X.A (assign a X.env u) (λ_ s'=>∃ b c,Inv X pQ b c s'/\Q b c) X.xe s
def PGs(X:Cx)(c:Li Expr)(t:TGs):Prop:=
  ∀ (pQ:Li (Ad×Obj)) (s:sH7) (O:St) (H:Hp) (vs:Li V) (us:Li vL) (Q:St->Hp->Prop),Inv X pQ O H s->Vals vs us->t vs O H Q->
    wpAny (model X.prog X.w) X.A (assignInOrder ((assignEach c X.env).map (·.2)) us) (λ_ s'=>∃ a b,Inv X pQ a b s'/\Q a b) X.xe s
abbrev TSet:=V->V->V->Hp->(Hp->Prop)->Prop
def PSet(X:Cx)(t:TSet):Prop:=
  ∀ (pQ:Li (Ad×Obj)) (s:sH7) (O:St) (H:Hp) (o i v:V) (ov iv u:vL) (Q:Hp->Prop),Inv X pQ O H s->RelV o ov->RelV i iv->RelV v u->t o i v H Q->
    wpAny (model X.prog X.w) X.A (setItem ov iv u) (λ_ s'=>∃ a,Inv X pQ O a s'/\Q a) X.xe s
variable{es:Li Expr}{n:Nat}{tg:Expr}
def gName(i:Nat):TG:=λv O H Q=>Q (O.set i (some v)) H
theorem pg_name{x:Str}(hN:X.N.Nodup)(b:X.N[i]?=some x)(a:Loc X.env.scope x)(c:X.fn x=true\/X.env.scope.names.lookup x=some .local:=by first|exact .inl rfl|exact .inr rfl|assumption):PG X (.Name x pos) (gName i):=by
  intro pQ s O H v u Q I r h;exact wpAny_assign_Name (store_ok I hN b a r (λs' d=>⟨_,H,d,h⟩) c)
def gNil:TGs:=λa O H Q=>a=[]/\Q O H
def gCons(t:TG)(u:TGs):TGs:=λa O H Q=>∃ v r,a=v :: r/\t v O H λb c=>u r b c Q
theorem pgs_nil:PGs X [] gNil:=by
  intro pQ s O H a us Q I r h;obtain⟨e,h⟩:=h;subst e;cases r;exact assignInOrder_nil ⟨O,H,I,h⟩
theorem pgs_cons{e:Expr}{t:TG}{u:TGs}(g:PG X e t)(f:PGs X es u)(d:(assignEach (e :: es) X.env).map (·.2)=assign e X.env :: (assignEach es X.env).map (·.2):=by rfl):PGs X (e :: es) (gCons t u):=by
  intro pQ s O H l us Q I r h;obtain⟨v,m,i,h⟩:=h;subst i;cases r with
  |cons r b=>
    rw[d];refine assignInOrder_cons (thn (g pQ s O H _ _ _ I r h) λ_ s1 ⟨a,k,j,c⟩=>?_)
    exact f pQ s1 a k _ _ Q j b c
def gTup(K:fG7)(n:Nat)(t:TGs):TG:=λv O H Q=>∃ a xs,v=.ref a/\SqT K H a xs/\xs.length=n/\t xs O H Q
theorem pg_tup{k:Nat}{t:TGs}(p:X.calm=true)(h:PGs X es t)(l:(assignEach es X.env).length=n:=by rfl)(d:(assignEach es X.env).findIdx? (·.1)=none:=by rfl):PG X (.Tuple es k pos) (gTup X.K n t):=by
  intro pQ s O H v u Q I r c;obtain⟨a,xs,w,j,m,c⟩:=c;subst w;cases r;obtain⟨f,rv,i,y⟩:=I.tuple j;refine assign_Tuple_tuple (I.ok.hd p) i (by simp[l,<-m,rv.length]) d λq g=>?_
  have x:Inv X pQ O H { s with heap:=q }:=I.kept (t':=s.toks) λb o e=>g b o (aY (aJ e)) e
  exact h pQ _ O H xs _ Q x (by simpa using rv) c
def gSub(a b:TE)(t:TSet):TG:=λv O H Q=>a O H λo e=>b O e λi d=>t o i v d λc=>Q O c
theorem pg_sub{o i:Expr}{c d:TE}{t:TSet}(n:PE X o c)(p:PE X i d)(m:PSet X t)(q:∀ v,assign (.Subscript o i pos) X.env v=(do
      let a <-holding [v] (eval o X.env)
      let b <-holding [v,a] (eval i X.env)
      standAt pos
      holding [v,a,b] (setItem a b v)
      release [v,a,b] []):=by intro _;rfl):PG X (.Subscript o i pos) (gSub c d t):=by
  intro pQ s O H v u Q I r h;rw[q];refine aA (wpAny_holding (thn (n pQ s O H _ I h) λa s1 ⟨x,D,A,g,l⟩=>?_))
  refine aA (wpAny_holding (thn (p pQ s1 O D _ A l) λb e ⟨y,C,z,f,k⟩=>?_))
  refine aA (wpAny_standAt (aA (wpAny_holding (thn (m pQ e O C x y v a b u _ z g f r k) λ_ E ⟨B,w,j⟩=>?_))))
  exact wpAny_release ⟨O,B,w,j⟩
def tAsg(a:TE)(g:TG):TS:=λD O H=>a O H λx b=>g x O b D.nx
theorem ps_asg{e:Expr}{a:TE}{g:TG}(j:PE X e a)(i:PG X tg g)(f:swapsWithSole [tg] e pos.line X.env=pure false:=by rfl)(d:swappedStores [tg] e X.env=pure none:=by rfl)(k:(assignEach [tg] X.env).map (·.2)=[assign tg X.env]:=by rfl):PS X (.Assign [tg] e pos) (tAsg a g):=by
  intro pQ s O H D I h;refine wpAny_Assign_stores (thn (j pQ s O H _ I h) λv s1 ⟨x,m,l,b,c⟩=>?_) f d
  rw[k];exact thn (i pQ s1 O m x v _ l b c) λ_ n q=>q
theorem ps_set{x:Str}{e:Expr}{b:TE}{a:Pos}(hN:X.N.Nodup)(j:X.N[i]?=some x)(f:Loc X.env.scope x)(l:PE X e b)(g:swapsWith e (some (.Name x a)) pos.line X.env=pure false:=by rfl)(k:X.fn x=true\/X.env.scope.names.lookup x=some .local:=by first|exact .inl rfl|exact .inr rfl|assumption) :
    PS X (.Assign [.Name x a] e pos) (tAsg b (gName i)):=by
  intro pQ s O H D I h;refine wpAny_Assign_Name (thn (l pQ s O H _ I h) λv s1 ⟨y,o,n,c,d⟩=>?_) g
  exact store_ok n hN j f c (λp m=>⟨_,o,m,d⟩) k
variable{body:Li Stmt}
def tWhile(c:TT)(g:TS):TS:=λD O H=>∃ W:Nat->St->Hp->Prop,(∃ m,W m O H)/\∀ m O H,W m O H->
  c O H λb e=>if b=true then ∃ N:St->Hp->Prop,(∀ d f,N d f->∃ a,a < m/\W a d f)/\g { D with nx:=N,ct:=N,bk:=D.nx } O e else D.nx O e
theorem ps_while{c:Expr}{p:TT}{q:TS}(r:PassesOwn (model X.prog X.w) X.A X.env X.xe)(J:PT X c p)(K:PSs X body q):PS X (.While c body [] pos) (tWhile p q):=by
  intro pQ s O H D I h;obtain⟨W,⟨G,E⟩,turn⟩:=h;refine wpAny_While (codeAny_whileLoop (λn s'=>∃ u B,Inv X pQ u B s'/\W n u B) ?_ G ⟨O,H,I,E⟩)
  rintro n s1 ⟨d,z,L,C⟩
  refine wpAny_passesOwn r (thn (J pQ s1 d z _ L (turn n d z C)) λb F ⟨y,x,i⟩=>?_)
  cases b with
  |true=>
    obtain⟨N,t,i⟩:=i;rw[if_pos rfl];refine wpAny_passesOwn r (thn (K pQ F d y _ x i) λf M g=>?_)
    cases f with
    |next=>
      obtain⟨a,e,o,k⟩:=g;obtain⟨l,m,j⟩:=t a e k;exact⟨l,m,a,e,o,j⟩
    |cont=>
      obtain⟨a,e,o,k⟩:=g;obtain⟨l,m,j⟩:=t a e k;exact⟨l,m,a,e,o,j⟩
    |brk=>exact g
    |ret v=>exact g
  |false=>
    rw[if_neg bF7];exact wpAny_execs_nil ⟨d,y,x,i⟩
structure It where
  go:Nat->Hp->Prop
  yld:Nat->Hp->V->Hp->Prop
  stop:Nat->Hp->Prop
def FpOk(X:Cx)(pQ:Li (Ad×Obj))(H:Hp)(b:Ad):Prop:=
  H b=none/\b≠X.env.locals/\b∉X.fs/\(b∈X.ex\/X.s₀.heap.objs.size<=b)/\(∀ x c,X.env.cells.lookup x=some c->c≠b)/\∀ p∈X.pn++pQ,p.1≠b
theorem Inv.fpOk{O:St}{d:Hp}{b:Ad}(I:Inv X pQ O H s)(a:s.heap.objs.size<=b)(g:d b=none):FpOk X pQ d b:=by
  refine⟨g,Nat.ne_of_gt (aT I.lt a),I.nofs a,.inr (aP I.sz a),λx c e z=>?_,λp f z=>?_⟩
  · obtain⟨v,q⟩:=I.cell x c e
    exact absurd (aT q.lt (by rw[z];exact a)) (bO _)
  · exact absurd (aT (aJ (I.pin p f).1) (by rw[z];exact a)) (bO _)
structure Turn(P:Program)(w:World)(K:fG7)(tg:Expr)(J:It)(fp:List Addr)(it:Addr)(tn:Nat->Heap->Prop):Prop where
  mem:it∈fp
  obj:∀ i h,tn i h->∀ b∈fp,∃ o,h.get? b=some o/\∀ v,o.data≠.cell v
  keep:∀ i h h',tn i h->(∀ b∈fp,∀ o,h.get? b=some o->h'.get? b=some o)->tn i h'
  item:∀ (X:Cx),X.prog=P->X.w=w->X.K=K->X.calm=true->∀ (i:Nat) (pQ:List (Addr×Obj)) (s:Shared) (O:St) (H:Hp) (E:Value->Shared->Prop),Inv X pQ O H s->(∀ b∈fp,FpOk X pQ H b)->tn i s.heap->J.go i H->
    wpAny (model P w) X.A (pyNext (.ref it)) (λr s1=>∃ u,r=some u /\
      wpAny (model P w) X.A (letOwnedTupleGo tg (.ref it) u) (λ_ s2=>∃ x H',Inv X pQ O H' s2/\RelV x u/\J.yld i H x H'/\tn (i+1) s2.heap/\∀ b∈fp,H' b=none) E s1) E s
  done:∀ (X:Cx),X.prog=P->X.w=w->X.K=K->X.calm=true->∀ (i:Nat) (pQ:List (Addr×Obj)) (s:Shared) (O:St) (H:Hp) (E:Value->Shared->Prop),Inv X pQ O H s->(∀ b∈fp,FpOk X pQ H b)->tn i s.heap->J.stop i H->
    wpAny (model P w) X.A (pyNext (.ref it)) (λr s1=>r=none/\Inv X pQ O H s1) E s
  self:∀ (A:Around) (i:Nat) (s:Shared) (Q:Value->Shared->Prop) (E:Value->Shared->Prop),tn i s.heap->Q (.ref it) s->wpAny (model P w) A (pyIter (.ref it)) Q E s
abbrev TI:=St->Hp->(It->Hp->Prop)->Prop
def PIE(X:Cx)(pQ:Li (Ad×Obj))(O:St)(tg:Expr)(R:It->Hp->Prop)(a:vL)(c:sH7):Prop:=
  ∃ (it:Ad) (fp:Li Ad) (tn:Nat->Heap->Prop) (J:It) (H':Hp),a=.ref it/\Inv X pQ O H' c/\Turn X.prog X.w X.K tg J fp it tn/\tn 0 c.heap/\(∀ b∈fp,FpOk X pQ H' b)/\R J H'
def PI(X:Cx)(tg iter:Expr)(a:TI):Prop:=
  ∀ (pQ:Li (Ad×Obj)) (s:sH7) (O:St) (H:Hp) (R:It->Hp->Prop),Inv X pQ O H s->a O H R->
    wpAny (model X.prog X.w) X.A (eval iter X.env) (λv s1=>wpAny (model X.prog X.w) X.A (pyIter v) (PIE X pQ O tg R) X.xe s1) X.xe s
theorem go_of{E:vL->sH7->Prop}{c:Ad}{u:vL}{o:Obj}{n:String}{b:Array vL}{Q:Unit->sH7->Prop}(d:s.heap.get? c=some o)(f:o.cls=.type n)(hd:o.data=.fields b)(e:["enumerate", "zip", "dict_itemiterator", "dict_reverseitemiterator", "odict_iterator", "itertools.zip_longest", "itertools.pairwise"].contains n=false)(a:Q () s):wpAny M A (letOwnedTupleGo tg (.ref c) u) Q E s:=by
  unfold letOwnedTupleGo;cases tg<;>first
    |exact aE a
    | (cases u<;>first
        |exact aE a
        | (refine aA (wpAny_load d ?_)
           rw[f,hd];show wpAny M A (if (["enumerate", "zip", "dict_itemiterator", "dict_reverseitemiterator", "odict_iterator", "itertools.zip_longest", "itertools.pairwise"].contains n&&b[0]?==some (rawInt _))=true then _ else _) Q E s
           rw[if_neg (by intro h;rw[e,Bool.false_and]at h;cases h)]
           exact aE a))
noncomputable def Itl(K:fG7)(a:Ad):It:=
  ⟨λi H=>∃ xs x,SqL K H a xs/\xs[i]?=some x,λi H x b=>b=H/\∀ xs,SqL K H a xs->xs[i]?=some x,λi H=>∃ xs,SqL K H a xs/\xs.length<=i⟩
noncomputable def Itt(K:fG7)(a:Ad):It:=
  ⟨λi H=>∃ xs x,SqT K H a xs/\xs[i]?=some x,λi H x b=>b=H/\∀ xs,SqT K H a xs->xs[i]?=some x,λi H=>∃ xs,SqT K H a xs/\xs.length<=i⟩
noncomputable def Itr(a:Int)(n:Nat):It:=⟨λi _=>i < n,λi H x b=>b=H/\x=.int (a+i),λi _=>n<=i⟩
theorem turn_list{P:Program}(a g:Ad):Turn P w K tg (Itl K a) [g] g (λi h=>h.IsListIter g a i) where
  mem:=by simp
  obj:=λi h f b j=>by
    have e:b=g:=by simpa using j
    subst e;obtain⟨o,e,c,d⟩:=f;exact⟨o,e,λv z=>by rw[d]at z;cases z⟩
  keep:=λi h q f k=>f.at λo e=>k g (by simp) o e
  item:=by
    intro X B y C M i pQ s O H E I n f A;subst B y C;obtain⟨xs,x,m,t⟩:=A;obtain⟨r,rv,p,Q⟩:=I.list m;obtain⟨u,S,N⟩:=rv.get t;obtain⟨L,J,T,G,F,D⟩:=n g (by simp)
    refine wpAny_pyNext_list_item f p.isList (x:=u) (by simpa using S) λq l sb=>?_
    have V:Inv X pQ O H { s with heap:=q }:=I.turned (t':=s.toks) (λb o j e=>(sb.2 b j).trans e) L J G F D
    obtain⟨o,e,c,d⟩:=id l;exact⟨u,rfl,go_of (s:={ s with heap:=q }) e c d (by decide) ⟨x,H,V,N,⟨rfl,λW R=>by rw[I.list_inj R m];exact t⟩,l,λb j=>(n b j).1⟩⟩
  done:=by
    intro X B y C M i pQ s O H E I n f A;subst B y C;obtain⟨xs,m,t⟩:=A;obtain⟨r,rv,p,Q⟩:=I.list m;obtain⟨L,J,T,G,F,D⟩:=n g (by simp)
    have Y:=rv.length;exact wpAny_pyNext_list_end (I.ok.hd M) f p.isList (by simp;omega) λq U=>⟨rfl,I.turned (t':=s.toks) (λb o j e=>U b o j e) L J G F D⟩
  self:=λ_ _ _ _ _ f h=>wpAny_pyIter_listiter f h
theorem turn_tuple{P:Program}(a j:Ad):Turn P w K tg (Itt K a) [j] j (λi h=>h.IsTupleIter j a i) where
  mem:=by simp
  obj:=λi h f b l=>by
    have e:b=j:=by simpa using l
    subst e;obtain⟨o,e,c,d⟩:=f;exact⟨o,e,λv z=>by rw[d]at z;cases z⟩
  keep:=λi h r f k=>f.at λo e=>k j (by simp) o e
  item:=by
    intro X B y C M i pQ s O H E I q f A;subst B y C;obtain⟨xs,x,n,t⟩:=A;obtain⟨g,rv,p,Q⟩:=I.tuple n;obtain⟨u,S,N⟩:=rv.get t;obtain⟨L,J,T,G,F,D⟩:=q j (by simp)
    refine wpAny_pyNext_tuple_item f (show s.heap.IsTuple a g.toArray from p) (x:=u) (by simpa using S) λr m sb=>?_
    have V:Inv X pQ O H { s with heap:=r }:=I.turned (t':=s.toks) (λb o l e=>(sb.2 b l).trans e) L J G F D
    obtain⟨o,e,c,d⟩:=id m;exact⟨u,rfl,go_of (s:={ s with heap:=r }) e c d (by decide) ⟨x,H,V,N,⟨rfl,λW R=>by rw[I.tuple_inj R n];exact t⟩,m,λb l=>(q b l).1⟩⟩
  done:=by
    intro X B y C M i pQ s O H E I q f A;subst B y C;obtain⟨xs,n,t⟩:=A;obtain⟨g,rv,p,Q⟩:=I.tuple n;obtain⟨L,J,T,G,F,D⟩:=q j (by simp)
    have Y:=rv.length;exact wpAny_pyNext_tuple_end (I.ok.hd M) f (show s.heap.IsTuple a g.toArray from p) (by simp;omega) λr U=>⟨rfl,I.turned (t':=s.toks) (λb o l e=>U b o l e) L J G F D⟩
  self:=λ_ _ _ _ _ f h=>wpAny_pyIter_tupleiter f h
theorem turn_range{P:Program}(c:Ad)(g:Int)(n:Nat):Turn P w K tg (Itr g n) [c] c (λi h=>IsRangeIter h c (g+(i:Nat) * 1) ((n:Int) - (i:Nat)) 1) where
  mem:=by simp
  obj:=λi h a b d=>by
    have e:b=c:=by simpa using d
    subst e;exact⟨_,a,λv z=>by
      have F:Data.fields _=Data.cell v:=z;cases F⟩
  keep:=λi h l a k=>k c (by simp) _ a
  item:=by
    intro X r m u q i pQ s O H E I j a p;subst r m u;obtain⟨C,B,L,A,y,x⟩:=j c (by simp)
    have W:=Walks.range (prog:=X.prog) (w:=X.w) (I.ok.hd q) c g 1 n;refine W.item i s _ _ p a λv l D J f G=>?_
    obtain⟨t,rfl⟩:=J;have N:Inv X pQ O H { s with heap:=l,toks:=D }:=I.turned (λb o d e=>G b o (by simpa using d) e) C B A y x
    refine⟨_,rfl,go_of (s:={ s with heap:=l,toks:=D }) (n := "range_iterator") f rfl rfl (by decide) ⟨.int (g+i),H,N,⟨t,?_⟩,⟨rfl,rfl⟩,f,λb d=>(j b d).1⟩⟩
    rw[Int.mul_one]
  done:=by
    intro X r m u q i pQ s O H E I j a p;subst r m u;obtain⟨C,B,L,A,y,x⟩:=j c (by simp)
    exact wpAny_pyNext_range_end (I.ok.hd q) a (by have:n<=i:=p;omega) λl M=>⟨rfl,I.turned (t':=s.toks) (λb o d e=>M b o d e) C B A y x⟩
  self:=λ_ _ _ _ _ a h=>wpAny_pyIter_rangeiter a h
variable{l:Expr}{lo:Int}{fp:Li Ad}
variable{tg:Expr}
def iList(K:fG7)(tl:TE):TI:=λO H R=>tl O H λx b=>∃ a,x=.ref a/\(∃ xs,SqL K b a xs)/\R (Itl K a) b
def iTup(K:fG7)(tl:TE):TI:=λO H R=>tl O H λx b=>∃ a,x=.ref a/\(∃ xs,SqT K b a xs)/\R (Itt K a) b
theorem pi_list{tl:TE}(j:PE X l tl):PI X tg l (iList X.K tl):=by
  intro pQ s O H R I h;refine thn (j pQ s O H _ I h) λv s1 ⟨x,m,c,d,f⟩=>?_
  obtain⟨a,e,⟨xs,i⟩,q⟩:=f;subst e;cases d;obtain⟨g,rv,p,n⟩:=c.list i;refine wpAny_pyIter_list p.isList ?_;refine⟨s1.heap.objs.size,[s1.heap.objs.size],_,_,m,rfl,c.kept (t':=s1.toks) λb o e=>aK _ e,turn_list a _,⟨_,aX _ rfl,rfl,rfl⟩,λb k=>?_,q⟩
  have e:b=s1.heap.objs.size:=by simpa using k
  subst e;exact c.fpOk (aD _) (c.hok.fresh (aD _))
theorem pi_tup{tl:TE}(j:PE X l tl):PI X tg l (iTup X.K tl):=by
  intro pQ s O H R I h;refine thn (j pQ s O H _ I h) λv s1 ⟨x,m,c,f,g⟩=>?_
  obtain⟨a,e,⟨xs,i⟩,q⟩:=g;subst e;cases f;obtain⟨d,rv,p,n⟩:=c.tuple i;refine wpAny_pyIter_tuple (show s1.heap.IsTuple a d.toArray from p) ?_;refine⟨s1.heap.objs.size,[s1.heap.objs.size],_,_,m,rfl,c.kept (t':=s1.toks) λb o e=>aK _ e,turn_tuple a _,⟨_,aX _ rfl,rfl,rfl⟩,λb k=>?_,q⟩
  have e:b=s1.heap.objs.size:=by simpa using k
  subst e;exact c.fpOk (aD _) (c.hok.fresh (aD _))
theorem range_it{O:St}{R:It->Hp->Prop}{E:vL->sH7->Prop}{a:Int}{t u v:Tok}{c:Nat}(I:Inv X pQ O H s)(j:-(2 ^ 62)<=lo)(i:lo < 2 ^ 62)(h:-(2 ^ 62)<=a)(g:a < 2 ^ 62)(q:R (Itr lo (a - lo).toNat) H):wpAny (model X.prog X.w) X.A (pyIter (.ref s.heap.objs.size)) (PIE X pQ O tg R) E { s with heap:=s.heap.push { cls:=.type "range",data:=.fields #[.int lo t,.int a u,.int 1 v] },toks:=c }:=by
  refine wpAny_pyIter_range (IsRange.new ..) (small_one j i h g) ?_;have d:Inv X pQ O H { s with heap:=s.heap.push { cls:=.type "range",data:=.fields #[.int lo t,.int a u,.int 1 v] },toks:=c }:=I.kept λb o e=>aK _ e
  refine⟨(s.heap.push { cls:=.type "range",data:=.fields #[.int lo t,.int a u,.int 1 v] }).objs.size,[(s.heap.push { cls:=.type "range",data:=.fields #[.int lo t,.int a u,.int 1 v] }).objs.size],_,_,H,rfl,
    d.kept (t':=c) λb o e=>aK _ e,turn_range _ lo (a - lo).toNat,?_,λb f=>?_,q⟩
  · have l:lo+((0:Nat):Int) * 1=lo:=by simp
    have k:(((a - lo).toNat:Nat):Int) - ((0:Nat):Int)=Builtin.Range.rangeSize lo a 1:=by rw[rangeSize_one];split<;>omega
    show IsRangeIter _ _ (lo+((0:Nat):Int) * 1) ((((a - lo).toNat:Nat):Int) - ((0:Nat):Int)) 1;rw[l,k];exact aX _ rfl
  · have e:b=(s.heap.push { cls:=.type "range",data:=.fields #[.int lo t,.int a u,.int 1 v] }).objs.size:=by simpa using f
    subst e;exact d.fpOk (aD _) (d.hok.fresh (aD _))
def iRng1(b:TA):TI:=λO H R=>b O H λa c=>∃ j:Int,a=[.int j]/\-(2 ^ 62)<=j/\j < 2 ^ 62/\R (Itr 0 j.toNat) c
theorem pi_range1{a:Expr}{d:TA}{p b:Pos}(m:Gl X "range")(l:X.mg "range"=none)(n:PA X [a] d)(k:starEach [a] X.env=[(false,eval a X.env)]:=by rfl):PI X tg (.Call (.Name "range" p) [a] [] b) (iRng1 d):=by
  intro pQ s O H R I h;refine Call_ (ld_blt I m l boot_range (PyProof.Rows.callWith_type1 (thn (n b pQ s O H _ I h) λus s1 ⟨u,v,o,g,c⟩=>?_) k rfl))
  obtain⟨j,e,c,i,q⟩:=c;subst e;cases g with
  |cons r f=>
    cases f;obtain⟨t,rfl⟩:=r;exact call_range_1 (range_it o (by omega) (by omega) c i (by simpa using q))
def tFor(e:TI)(g:TG)(f:TS):TS:=λD O H=>e O H λJ j=>∃ W:Nat->Nat->St->Hp->Prop,(∃ m,W 0 m O j)/\∀ i m O H,W i m O H->
  (J.stop i H/\D.nx O H)\/(J.go i H/\∃ N:St->Hp->Prop,(∀ d a,N d a->∃ c,c < m/\W (i+1) c d a)/\∀ x a,J.yld i H x a->g x O a λb h=>f { D with nx:=N,ct:=N,bk:=D.nx } b h)
noncomputable def pinsAt(fp:Li Ad)(h:Heap):Li (Ad×Obj):=fp.filterMap λb=>(h.get? b).map λo=>(b,o)
theorem mem_pinsAt{b:Ad}{o:Obj}(a:b∈fp)(e:h.get? b=some o):(b,o)∈pinsAt fp h:=List.mem_filterMap.mpr ⟨b,a,by rw[e];rfl⟩
theorem of_pinsAt{p:Ad×Obj}(a:p∈pinsAt fp h):p.1∈fp/\h.get? p.1=some p.2:=by
  obtain⟨b,c,e⟩:=List.mem_filterMap.mp a;cases q:h.get? b with
  |none=>rw[q]at e;cases e
  |some o=>
    rw[q]at e;have d:(b,o)=p:=Option.some.inj e;subst d;exact⟨c,q⟩
theorem Inv.pinned{O:St}{fp:Li Ad}(I:Inv X pQ O H s)(h:∀ b∈fp,FpOk X pQ H b)(g:∀ b∈fp,∃ o,s.heap.get? b=some o/\∀ v,o.data≠.cell v):Inv X (pQ++pinsAt fp s.heap) O H s:=
  I.pins_of λp f=>(bP.mp f).elim (λz=>I.pin p (cB _ z)) λz=>by
    obtain⟨a,e⟩:=of_pinsAt z;obtain⟨k,j,i,_⟩:=h p.1 a;obtain⟨o,c,d⟩:=g p.1 a;rw[e]at c;cases c
    exact⟨e,k,j,i,d⟩
theorem Inv.unpinned{a:Li (Ad×Obj)}{O:St}(I:Inv X (pQ++a) O H s):Inv X pQ O H s:=I.pins_of λp b=>I.pin p (cB _ (List.mem_append_left _ b))
theorem ps_for{iter:Expr}{V:TI}{g:TG}{Z:TS}{Q:Pos}(E:PassesOwn (model X.prog X.w) X.A X.env X.xe)(hc:X.calm=true)(hi:PI X tg iter V)(hg:PG X tg g)(k:PSs X body Z)(hs:∀ x,foldedSetIterable iter X.env x=pure x:=by intro _;rfl):PS X (.For tg iter body [] Q) (tFor V g Z):=by
  intro pQ s O H D I h;refine wpAny_For (thn (hi pQ s O H _ I h) λv s1 h1=>thn h1 λitv s2 h2=>?_) hs
  obtain⟨it,fp,Y,J,H2,e,I2,T,M,f2,W,⟨m0,w0⟩,turn⟩:=h2;subst e
  -- what stays true of the iterator's objects through the loop
  have j:∀ {t:Hp},(∀ b∈fp,t b=none)->∀ b∈fp,FpOk X pQ t b:=λhn b k=>⟨hn b k,(f2 b k).2⟩
  refine codeAny_forLoop_any (λn s'=>∃ i G t,Inv X pQ G t s'/\Y i s'.heap/\(∀ b∈fp,t b=none)/\W i n G t) ?_ m0 ⟨0,O,H2,I2,M,λb k=>(f2 b k).1,w0⟩
  rintro n s3 ⟨i,c,K,I3,B,F,w3⟩
  rcases turn i n c K w3 with⟨stop,qn⟩|⟨go,N,hN,step⟩
  · refine wpAny_passesOwn E (thn (T.done X rfl rfl rfl hc i pQ s3 c K X.xe I3 (j F) B stop) λr s4 ⟨R,I4⟩=>?_)
    subst R;exact wpAny_execs_nil ⟨c,K,I4,qn⟩
  · refine wpAny_passesOwn E (thn (T.item X rfl rfl rfl hc i pQ s3 c K X.xe I3 (j F) B go) λr s4 ⟨u,R,h4⟩=>?_)
    subst R;refine wpAny_passesOwn E (thn h4 λ_ s5 ⟨x,H5,I5,r5,y5,z,S⟩=>?_)
    have U:=I5.pinned (j S) (T.obj _ _ z);refine wpAny_passesOwn E (thn (hg _ s5 c H5 x u _ U r5 (step x H5 y5)) λ_ s6 ⟨L,H6,I6,q6⟩=>?_)
    refine wpAny_passesOwn E (thn (k _ s6 L H6 _ I6 q6) λf P y=>?_)
    have l:∀ {a:St}{q:Hp},Inv X (pQ++pinsAt fp s5.heap) a q P->N a q->∃ m,m < n/\∃ i G t,Inv X pQ G t P/\Y i P.heap/\(∀ b∈fp,t b=none)/\W i m G t:=λ{a q} p C=>by
      obtain⟨m',hm,w7⟩:=hN a q C;refine⟨m',hm,i+1,a,q,p.unpinned,T.keep _ _ _ z λb k o e=>(p.pin (b,o) (cB _ (cB _ (mem_pinsAt k e)))).1,λb k=>?_,w7⟩
      obtain⟨o,e,d⟩:=T.obj _ _ z b k;exact(p.pin (b,o) (cB _ (cB _ (mem_pinsAt k e)))).2.1
    cases f with
    |next=>obtain⟨a,q,p,C⟩:=y;exact l p C
    |cont=>obtain⟨a,q,p,C⟩:=y;exact l p C
    |brk=>obtain⟨a,q,p,y⟩:=y;exact⟨a,q,p.unpinned,y⟩
    |ret v=>obtain⟨x7,a,q,p,r7,y⟩:=y;exact⟨x7,a,q,p.unpinned,r7,y⟩
theorem for_tup{a:Ad}{g:TG}{k:TS}{D:Ends}{O:St}{H:Hp}(b:Nat->St->Hp->Prop)(t:b 0 O H)(r:∀ i O H,i<=xs.length->b i O H->SqT K H a xs)(o:∀ i x O H,xs[i]?=some x->b i O H->g x O H λc j=>k { D with nx:=b (i+1),ct:=b (i+1),bk:=D.nx } c j)(hd:∀ O H,b xs.length O H->D.nx O H) :
    ∃ W:Nat->Nat->St->Hp->Prop,(∃ m,W 0 m O H)/\∀ i m O H,W i m O H->
      ((Itt K a).stop i H/\D.nx O H)\/((Itt K a).go i H/\∃ N:St->Hp->Prop,(∀ h d,N h d->∃ l,l < m/\W (i+1) l h d)/\∀ x d,(Itt K a).yld i H x d->g x O d λc j=>k { D with nx:=N,ct:=N,bk:=D.nx } c j):=by
  refine⟨λi m O H=>m=xs.length - i/\i<=xs.length/\b i O H,⟨xs.length,by simp,aM _,t⟩,?_⟩
  rintro i m O H ⟨rfl,s,p⟩
  have q:=r i O H s p;by_cases f:i < xs.length
  · refine .inr ⟨⟨xs,xs[i],q,by simp[f]⟩,b (i+1),λh d n=>⟨xs.length - (i+1),by omega,rfl,f,n⟩,λx d y=>?_⟩
    obtain⟨e,y⟩:=y;subst e;exact o i x O _ (y xs q) p
  · have e:i=xs.length:=by omega
    subst e;exact .inl ⟨⟨xs,q,aD _⟩,hd O H p⟩
theorem for_range{g:TG}{j:TS}{D:Ends}{O:St}{H:Hp}(c:Nat->St->Hp->Prop)(q:c 0 O H)(o:∀ i O H,i < n->c i O H->g (.int (lo+i)) O H λa h=>j { D with nx:=c (i+1),ct:=c (i+1),bk:=D.nx } a h)(hd:∀ O H,c n O H->D.nx O H) :
    ∃ W:Nat->Nat->St->Hp->Prop,(∃ m,W 0 m O H)/\∀ i m O H,W i m O H->
      ((Itr lo n).stop i H/\D.nx O H)\/((Itr lo n).go i H/\∃ N:St->Hp->Prop,(∀ f d,N f d->∃ k,k < m/\W (i+1) k f d)/\∀ x d,(Itr lo n).yld i H x d->g x O d λa h=>j { D with nx:=N,ct:=N,bk:=D.nx } a h):=by
  refine⟨λi m O H=>m=n - i/\i<=n/\c i O H,⟨n,by simp,aM _,q⟩,?_⟩
  rintro i m O H ⟨rfl,r,p⟩
  by_cases b:i < n
  · refine .inr ⟨b,c (i+1),λf d l=>⟨n - (i+1),by omega,rfl,b,l⟩,λx d y=>?_⟩
    obtain⟨e,y⟩:=y;subst e y;exact o i O _ b p
  · have e:i=n:=by omega
    subst e;exact .inl ⟨aD _,hd O H p⟩
abbrev R2:=V->V->Hp->VK->Prop
def OpR(X:Cx)(f:vL->vL->Sem vL)(r:R2):Prop:=
  ∀ (pQ:Li (Ad×Obj)) (s:sH7) (O:St) (H:Hp) (x y:V) (v u:vL) (Q:VK),Inv X pQ O H s->RelV x v->RelV y u->r x y H Q->
    wpAny (model X.prog X.w) X.A (f v u) (EP X pQ O Q) X.xe s
def UnR(X:Cx)(f:vL->Sem vL)(r:V->Hp->VK->Prop):Prop:=
  ∀ (pQ:Li (Ad×Obj)) (s:sH7) (O:St) (H:Hp) (x:V) (v:vL) (Q:VK),Inv X pQ O H s->RelV x v->r x H Q->
    wpAny (model X.prog X.w) X.A (f v) (EP X pQ O Q) X.xe s
def CallR(X:Cx)(f:vL)(r:Li V->Hp->VK->Prop):Prop:=
  ∀ (pQ:Li (Ad×Obj)) (s:sH7) (O:St) (H:Hp) (xs:Li V) (us:Li vL) (Q:VK),Inv X pQ O H s->Vals xs us->r xs H Q->
    wpAny (model X.prog X.w) X.A (call f us) (EP X pQ O Q) X.xe s
def tOp(r:R2)(b a:TE):TE:=λO H Q=>b O H λx d=>a O d λy c=>r x y c Q
def tUn(r:V->Hp->VK->Prop)(a:TE):TE:=λO H Q=>a O H λx b=>r x b Q
def rI(C:Int->Int->Prop)(g:Int->Int->V):R2:=λx y H Q=>∃ i j,x=.int i/\y=.int j/\C i j/\Q (g i j) H
def rI0(g:Int->Int->V):R2:=λx y H Q=>∃ i j,x=.int i/\y=.int j/\Q (g i j) H
def rU(g:Int->V):V->Hp->VK->Prop:=λx H Q=>∃ i,x=.int i/\Q (g i) H
variable{c:Expr}{tc:TE}
section
variable{a:Expr}
theorem binT(p:PE X a ta)(o:PE X b tb){O:St}{R:V->V->Hp->Prop}(I:Inv X pQ O H s)(h:ta O H λx i=>tb O i λy c=>R x y c){f:vL->vL->Sem vL}(n:∀ v u g x y c,Inv X pQ O c g->RelV x v->RelV y u->R x y c->wpAny (model X.prog X.w) X.A (f v u) Q X.xe g) :
    wpAny (model X.prog X.w) X.A (eval a X.env) (λv e=>wpAny (model X.prog X.w) X.A (eval b X.env) (λu d=>wpAny (model X.prog X.w) X.A (f v u) Q X.xe d) X.xe e) X.xe s:=by
  refine thn (p pQ s O H _ I h) λv s1 ⟨x,i,r,k,m⟩=>?_
  refine thn (o pQ s1 O i _ r m) λu g ⟨y,c,q,j,l⟩=>?_
  exact n v u g x y c q k j l
theorem pe_op{c:Operator}{r:R2}(g:OpR X (binaryOp c) r)(j:PE X a ta)(i:PE X b tb):PE X (.BinOp a c b pos) (tOp r ta tb):=by
  intro pQ s O H Q I h;exact wpAny_BinOp (binT j i I h λv u d x y l k f e q=>g pQ d O l x y v u Q k f e q)
theorem pe_un{b:UnaryOp}{r:V->Hp->VK->Prop}(e:UnR X (unaryOp b) r)(f:PE X a ta):PE X (.UnaryOp b a pos) (tUn r ta):=by
  intro pQ s O H Q I h;exact UnaryOp_ (thn (f pQ s O H _ I h) λv s1 ⟨x,i,g,c,d⟩=>e pQ s1 O i x v Q g c d)
theorem opI{f:vL->vL->Sem vL}{C:Int->Int->Prop}{g:Int->Int->Int}(a:∀ (i j:Int) (t u:Tok) (s:sH7) (Q:vL->sH7->Prop) (E:vL->sH7->Prop),C i j->Q (.int (g i j) s.toks) { s with toks:=s.toks+1 }->wpAny (model X.prog X.w) X.A (f (.int i t) (.int j u)) Q E s) :
    OpR X f (rI C λi j=>.int (g i j)):=by
  intro pQ s O H x y v u Q I c b h;obtain⟨i,j,rfl,rfl,d,q⟩:=h;obtain⟨t,rfl⟩:=c;obtain⟨t',rfl⟩:=b;exact a i j t t' s _ _ d ⟨.int (g i j),H,I.tok _,⟨_,rfl⟩,q⟩
theorem opI0{f:vL->vL->Sem vL}{g:Int->Int->Int}(a:∀ (i j:Int) (t u:Tok) (s:sH7) (Q:vL->sH7->Prop) (E:vL->sH7->Prop),Q (.int (g i j) s.toks) { s with toks:=s.toks+1 }->wpAny (model X.prog X.w) X.A (f (.int i t) (.int j u)) Q E s) :
    OpR X f (rI0 λi j=>.int (g i j)):=by
  intro pQ s O H x y v u Q I c b h;obtain⟨i,j,rfl,rfl,q⟩:=h;obtain⟨t,rfl⟩:=c;obtain⟨t',rfl⟩:=b;exact a i j t t' s _ _ ⟨.int (g i j),H,I.tok _,⟨_,rfl⟩,q⟩
theorem opB0{f:vL->vL->Sem vL}{g:Int->Int->Bool}(a:∀ (i j:Int) (t u:Tok) (s:sH7) (Q:vL->sH7->Prop) (E:vL->sH7->Prop),Q (.bool (g i j)) s->wpAny (model X.prog X.w) X.A (f (.int i t) (.int j u)) Q E s) :
    OpR X f (rI0 λi j=>.bl (g i j)):=by
  intro pQ s O H x y v u Q I c b h;obtain⟨i,j,rfl,rfl,q⟩:=h;obtain⟨t,rfl⟩:=c;obtain⟨t',rfl⟩:=b;exact a i j t t' s _ _ ⟨.bl (g i j),H,I,rfl,q⟩
def CDiv(i j:Int):Prop:=0 < j/\j < 1073741824
def CDivN(i j:Int):Prop:=j≠0/\j.natAbs < 1073741824
def CMul(i j:Int):Prop:=(-(2 ^ 64) < i/\i < 2 ^ 64)\/(-(2 ^ 64) < j/\j < 2 ^ 64)
theorem CMul.ok{i j:Int}(h:CMul i j):IntMulOk i j:=by
  rcases h with⟨b,a⟩|⟨b,a⟩
  · exact .of_left (intBits_le_64 b a)
  · exact .of_right (intBits_le_64 b a)
theorem op_add:OpR X (binaryOp .Add) (rI0 λi j=>.int (i+j)):=opI0 λ_ _ _ _ _ _ _ q=>add_int q
theorem op_sub:OpR X (binaryOp .Sub) (rI0 λi j=>.int (i - j)):=opI0 λ_ _ _ _ _ _ _ q=>sub_int q
theorem op_mul:OpR X (binaryOp .Mult) (rI CMul λi j=>.int (i * j)):=opI λ_ _ _ _ _ _ _ a q=>mul_int q a.ok
theorem op_fdiv:OpR X (binaryOp .FloorDiv) (rI CDiv λi j=>.int (i / j)):=opI λi j _ _ _ _ _ a q=>by
  have c:(0:Int) < j:=a.1;have b:j < 1073741824:=a.2;exact floordiv_int (by omega) (by rw[Int.fdiv_eq_ediv_of_nonneg i (by omega)];exact q) (.inl (PyProof.noPylong_small (by omega)))
theorem op_fdivN:OpR X (binaryOp .FloorDiv) (rI CDivN λi j=>.int (i.fdiv j)):=opI λ_ _ _ _ _ _ _ a q=>floordiv_int a.1 q (.inl (PyProof.noPylong_small a.2))
theorem op_mod:OpR X (binaryOp .Mod) (rI (λ_ j=>0 < j) λi j=>.int (i % j)):=opI λi j _ _ _ _ _ a q=>by
  have b:(0:Int) < j:=a;exact mod_int' (by omega) (by rw[Int.fmod_eq_emod_of_nonneg i (by omega)];exact q)
theorem op_modN:OpR X (binaryOp .Mod) (rI (λ_ j=>j≠0) λi j=>.int (i.fmod j)):=opI λ_ _ _ _ _ _ _ a q=>mod_int' a q
theorem op_and:OpR X (binaryOp .BitAnd) (rI0 λi j=>.int (Builtin.bitAnd i j)):=opI0 λ_ _ _ _ _ _ _ q=>and_int q
theorem op_or:OpR X (binaryOp .BitOr) (rI0 λi j=>.int (Builtin.bitOr i j)):=opI0 λ_ _ _ _ _ _ _ q=>or_int q
theorem unI{f:vL->Sem vL}{g:Int->Int}(a:∀ (i:Int) (t:Tok) (s:sH7) (Q:vL->sH7->Prop) (E:vL->sH7->Prop),Q (.int (g i) s.toks) { s with toks:=s.toks+1 }->wpAny (model X.prog X.w) X.A (f (.int i t)) Q E s) :
    UnR X f (rU λi=>.int (g i)):=by
  intro pQ s O H x v Q I b h;obtain⟨i,rfl,q⟩:=h;obtain⟨t,rfl⟩:=b;exact a i t s _ _ ⟨.int (g i),H,I.tok _,⟨_,rfl⟩,q⟩
theorem un_neg:UnR X (unaryOp .USub) (rU λi=>.int (-i)):=unI λ_ _ _ _ _ q=>neg_int q
theorem un_inv:UnR X (unaryOp .Invert) (rU λi=>.int (Builtin.bitNot i)):=unI λ_ _ _ _ _ q=>invert_int q
end
noncomputable def scal:V->V->Bool
  |.non,.non=>true|.non,.int _=>true|.int _,.non=>true|.non,.bl _=>true|.bl _,.non=>true|.non,.str _=>true|.str _,.non=>true
  |.int _,.int _=>true|.bl _,.bl _=>true|.str _,.str _=>true|.byt _,.byt _=>true
  |.int _,.str _=>true|.str _,.int _=>true|.bl _,.str _=>true|.str _,.bl _=>true
  |_,_=>false
def rEq:R2:=λx y H Q=>scal x y=true/\Q (.bl (decide (x=y))) H
def rNe:R2:=λx y H Q=>scal x y=true/\Q (.bl (!decide (x=y))) H
theorem dec_int{i j:Int}:decide (V.int i=V.int j)=(i==j):=by
  rw[bX];simp
theorem dec_bl{i j:Bool}:decide (V.bl i=V.bl j)=(i==j):=by
  rw[bX];simp
theorem dec_str{i j:Str}:decide (V.str i=V.str j)=(i==j):=by
  rw[bX];simp
theorem dec_byt{i j:Array UInt8}:decide (V.byt i=V.byt j)=(i.toList==j.toList):=by
  rw[bX];cases i;cases j;simp
variable{op:CmpOp}
section
variable{a:Expr}
theorem fin_bl{O:St}{Q:VK}{k a:Bool}(I:Inv X pQ O H s)(q:Q (.bl k) H)(e:k=a):EP X pQ O Q (.bool a) s:=by
  subst e;exact⟨.bl k,H,I,rfl,q⟩
theorem op_eq:OpR X (compareOp .Eq) rEq:=by
  intro pQ s O H x y v u Q I c a h;obtain⟨b,q⟩:=h;cases x with
  |non=>
    cases c;cases y with
    |non=>cases a;exact PySem.EqNone.eq_none_none (fin_bl I q (by simp))
    |bl j=>cases a;exact PySem.EqNone.eq_none_bool (fin_bl I q (by simp))
    |int j=>obtain⟨t',rfl⟩:=a;exact PySem.EqNone.eq_none_int (fin_bl I q (by simp))
    |str j=>obtain⟨t',rfl⟩:=a;exact PySem.EqNone.eq_none_str (fin_bl I q (by simp))
    |_=>exact absurd (show false=true from b) bF7
  |bl i=>
    cases c;cases y with
    |non=>cases a;exact PySem.EqNone.eq_bool_none (fin_bl I q (by simp))
    |bl j=>cases a;exact eq_bool (fin_bl I q dec_bl)
    |str j=>obtain⟨t',rfl⟩:=a;exact PySem.EqMixed.eq_bool_str (fin_bl I q (by simp))
    |_=>exact absurd (show false=true from b) bF7
  |int i=>
    obtain⟨t,rfl⟩:=c;cases y with
    |non=>cases a;exact PySem.EqNone.eq_int_none (fin_bl I q (by simp))
    |int j=>obtain⟨t',rfl⟩:=a;exact eq_int (fin_bl I q dec_int)
    |str j=>obtain⟨t',rfl⟩:=a;exact PySem.EqMixed.eq_int_str (fin_bl I q (by simp))
    |_=>exact absurd (show false=true from b) bF7
  |str i=>
    obtain⟨t,rfl⟩:=c;cases y with
    |non=>cases a;exact PySem.EqNone.eq_str_none (fin_bl I q (by simp))
    |bl j=>cases a;exact PySem.EqMixed.eq_str_bool (fin_bl I q (by simp))
    |int j=>obtain⟨t',rfl⟩:=a;exact PySem.EqMixed.eq_str_int (fin_bl I q (by simp))
    |str j=>obtain⟨t',rfl⟩:=a;exact eq_str (fin_bl I q dec_str)
    |_=>exact absurd (show false=true from b) bF7
  |byt i=>
    obtain⟨t,rfl⟩:=c;cases y with
    |byt j=>obtain⟨t',rfl⟩:=a;exact W.eq_bytes (fin_bl I q dec_byt)
    |_=>exact absurd (show false=true from b) bF7
  |_=>cases y<;>exact absurd (show false=true from b) bF7
theorem op_ne:OpR X (compareOp .NotEq) rNe:=by
  intro pQ s O H x y v u Q I c a h;obtain⟨b,q⟩:=h;cases x with
  |non=>
    cases c;cases y with
    |non=>cases a;exact PySem.EqNone.ne_none_none (fin_bl I q (by simp))
    |bl j=>cases a;exact PySem.EqNone.ne_none_bool (fin_bl I q (by simp))
    |int j=>obtain⟨t',rfl⟩:=a;exact PySem.EqNone.ne_none_int (fin_bl I q (by simp))
    |str j=>obtain⟨t',rfl⟩:=a;exact PySem.EqNone.ne_none_str (fin_bl I q (by simp))
    |_=>exact absurd (show false=true from b) bF7
  |bl i=>
    cases c;cases y with
    |non=>cases a;exact PySem.EqNone.ne_bool_none (fin_bl I q (by simp))
    |bl j=>cases a;exact ne_bool (fin_bl I q (congrArg not dec_bl))
    |str j=>obtain⟨t',rfl⟩:=a;exact PySem.EqMixed.ne_bool_str (fin_bl I q (by simp))
    |_=>exact absurd (show false=true from b) bF7
  |int i=>
    obtain⟨t,rfl⟩:=c;cases y with
    |non=>cases a;exact PySem.EqNone.ne_int_none (fin_bl I q (by simp))
    |int j=>obtain⟨t',rfl⟩:=a;exact ne_int (fin_bl I q (congrArg not dec_int))
    |str j=>obtain⟨t',rfl⟩:=a;exact PySem.EqMixed.ne_int_str (fin_bl I q (by simp))
    |_=>exact absurd (show false=true from b) bF7
  |str i=>
    obtain⟨t,rfl⟩:=c;cases y with
    |non=>cases a;exact PySem.EqNone.ne_str_none (fin_bl I q (by simp))
    |bl j=>cases a;exact PySem.EqMixed.ne_str_bool (fin_bl I q (by simp))
    |int j=>obtain⟨t',rfl⟩:=a;exact PySem.EqMixed.ne_str_int (fin_bl I q (by simp))
    |str j=>obtain⟨t',rfl⟩:=a;exact ne_str (fin_bl I q (congrArg not dec_str))
    |_=>exact absurd (show false=true from b) bF7
  |byt i=>
    obtain⟨t,rfl⟩:=c;cases y with
    |byt j=>obtain⟨t',rfl⟩:=a;exact W.ne_bytes (fin_bl I q (congrArg not dec_byt))
    |_=>exact absurd (show false=true from b) bF7
  |_=>cases y<;>exact absurd (show false=true from b) bF7
theorem op_lt:OpR X (compareOp .Lt) (rI0 λi j=>.bl (decide (i < j))):=opB0 λ_ _ _ _ _ _ _ q=>lt_int q
theorem op_le:OpR X (compareOp .LtE) (rI0 λi j=>.bl (decide (i<=j))):=opB0 λ_ _ _ _ _ _ _ q=>le_int q
theorem op_gt:OpR X (compareOp .Gt) (rI0 λi j=>.bl (decide (j < i))):=opB0 λ_ _ _ _ _ _ _ q=>gt_int q
theorem op_ge:OpR X (compareOp .GtE) (rI0 λi j=>.bl (decide (j<=i))):=opB0 λ_ _ _ _ _ _ _ q=>ge_int q
theorem op_in_str:OpR X (compareOp .In) (λx y H Q=>∃ i j,x=.str i/\y=.str j/\Q (.bl (!(Builtin.Str.occurrences j i 0 j.length 1).isEmpty)) H):=by
  intro pQ s O H x y v u Q I b a h;obtain⟨i,j,rfl,rfl,q⟩:=h;obtain⟨t,rfl⟩:=b;obtain⟨t',rfl⟩:=a;exact in_str (fin_bl I q rfl)
theorem op_isN:OpR X (compareOp .Is) (λx y H Q=>y=.non/\Q (.bl (decide (x=.non))) H):=by
  intro pQ s O H x y v u Q I a b h;obtain⟨rfl,q⟩:=h;cases b;refine is_none_gen (fin_bl I q ?_);cases x<;>first
    | (cases a;rfl)
    | (obtain⟨t,rfl⟩:=a;rfl)
theorem op_notN:OpR X (compareOp .IsNot) (λx y H Q=>y=.non/\Q (.bl (!decide (x=.non))) H):=by
  intro pQ s O H x y v u Q I a b h;obtain⟨rfl,q⟩:=h;cases b;refine isnot_none_gen (fin_bl I q ?_);cases x<;>first
    | (cases a;rfl)
    | (obtain⟨t,rfl⟩:=a;rfl)
theorem pe_cmpR{r:R2}(f:OpR X (compareOp op) r)(j:PE X a ta)(i:PE X b tb)(g:behindInMarks op b=false):PE X (.Compare a [op] [b] pos) (tOp r ta tb):=by
  intro pQ s O H Q I h;exact wpAny_Compare1 (binT j i I h λv u c x y l k e d q=>f pQ c O l x y v u Q k e d q) g
def tTest(t:TE):TT:=λO H Q=>t O H λx a=>∃ k,x=.bl k/\Q k a
theorem pt_cmpR{r:R2}(n:OpR X (compareOp op) r)(q:PE X a ta)(p:PE X b tb)(o:behindInMarks op b=false):PT X (.Compare a [op] [b] pos) (tTest (tOp r ta tb)):=by
  intro pQ s O H Q I h;refine wpAny_isTrue_Compare1 (thn (q pQ s O H _ I h) λv s1 ⟨x,D,A,i,m⟩=>thn (p pQ s1 O D _ A m) λu d ⟨y,C,w,g,l⟩=>
    thn (n pQ d O C x y v u _ w i g l) λc E ⟨z,B,t,f,k,e,j⟩=>?_) o
  subst e;cases f;exact wpAny_truthy_bool ⟨B,t,j⟩
theorem line63:(sizeLine:Nat) < 2 ^ 63:=by rw[sizeLine_eq];decide
theorem op_add_str:OpR X (binaryOp .Add) (λx y H Q=>∃ i j,x=.str i/\y=.str j/\i.length+j.length<=sizeLine/\Q (.str (i++j)) H):=by
  intro pQ s O H x y v u Q I b a h;obtain⟨i,j,rfl,rfl,c,q⟩:=h;obtain⟨t,rfl⟩:=b;obtain⟨t',rfl⟩:=a;exact add_str (λt' d=>⟨.str (i++j),H,I.tok _,⟨_,rfl⟩,q⟩) c
theorem vals1{x:V}(r:Vals [x] us):∃ u,us=[u]/\RelV x u:=by
  cases r with
  |cons b a=>cases a;exact⟨_,rfl,b⟩
theorem vals2{x y:V}(r:Vals [x,y] us):∃ u a,us=[u,a]/\RelV x u/\RelV y a:=by
  cases r with
  |cons e d=>
    cases d with
    |cons c b=>cases b;exact⟨_,_,rfl,e,c⟩
theorem call_max2(b:X.calm=true):CallR X (.builtin "max") (λxs H Q=>∃ i j,xs=[.int i,.int j]/\Q (.int (if j > i then j else i)) H):=by
  intro pQ s O H xs us Q I r h;obtain⟨i,j,rfl,q⟩:=h;obtain⟨u,c,rfl,⟨t,rfl⟩,⟨t',rfl⟩⟩:=vals2 r;refine max_two_ints (I.ok.hd b) λe d k=>⟨_,H,I.kept k,?_,q⟩
  by_cases a:j > i
  · rw[if_pos a,if_pos a];exact⟨_,rfl⟩
  · rw[if_neg a,if_neg a];exact⟨_,rfl⟩
theorem call_min2(b:X.calm=true):CallR X (.builtin "min") (λxs H Q=>∃ i j,xs=[.int i,.int j]/\Q (.int (if j < i then j else i)) H):=by
  intro pQ s O H xs us Q I r h;obtain⟨i,j,rfl,q⟩:=h;obtain⟨u,c,rfl,⟨t,rfl⟩,⟨t',rfl⟩⟩:=vals2 r;refine min_two_ints (I.ok.hd b) λe d k=>⟨_,H,I.kept k,?_,q⟩
  by_cases a:j < i
  · rw[if_pos a,if_pos a];exact⟨_,rfl⟩
  · rw[if_neg a,if_neg a];exact⟨_,rfl⟩
theorem call_int1:CallR X (.type "int") (λxs H Q=>(∃ i,xs=[.int i]/\Q (.int i) H)\/∃ k,xs=[.bl k]/\Q (.int (if k then 1 else 0)) H):=by
  intro pQ s O H xs us Q I r h;rcases h with⟨i,rfl,q⟩|⟨k,rfl,q⟩
  · obtain⟨u,rfl,t,rfl⟩:=vals1 r
    exact call_int_int ⟨.int i,H,I,⟨_,rfl⟩,q⟩
  · obtain⟨u,rfl,a⟩:=vals1 r
    cases a;exact call_int_bool ⟨.int (if k then 1 else 0),H,I.tok _,⟨_,rfl⟩,q⟩
def LenV(K:fG7)(x:V)(H:Hp)(n:Nat):Prop:=
  match x with
  |.str y=>y.length<=sizeLine/\n=y.length
  |.byt y=>y.size<=sizeLine/\n=y.size
  |.ref p=>(∃ xs,SqL K H p xs/\n=xs.length)\/∃ xs,SqT K H p xs/\n=xs.length
  |_=>False
theorem call_len:CallR X (.builtin "len") (λxs H Q=>∃ x n,xs=[x]/\LenV X.K x H n/\Q (.int n) H):=by
  intro pQ s O H xs us Q I r h;obtain⟨x,n,rfl,e,q⟩:=h;obtain⟨u,rfl,c⟩:=vals1 r;have m:=line63;have l:sizeLine=16777216:=sizeLine_eq;cases x with
  |str y=>
    obtain⟨t,rfl⟩:=c;obtain⟨k,b⟩:y.length<=sizeLine/\n=y.length:=e;subst b;exact len_str (by omega) ⟨.int _,H,I.tok _,⟨_,rfl⟩,q⟩
  |byt y=>
    obtain⟨t,rfl⟩:=c;obtain⟨k,b⟩:y.size<=sizeLine/\n=y.size:=e;subst b;exact W.len_bytes (by omega) ⟨.int _,H,I.tok _,⟨_,rfl⟩,q⟩
  |ref p=>
    cases c;have b:(∃ xs,SqL X.K H p xs/\n=xs.length)\/∃ xs,SqT X.K H p xs/\n=xs.length:=e;rcases b with⟨xs,i,b⟩|⟨xs,i,b⟩
    · subst b
      obtain⟨g,d,f,j⟩:=I.list i;have a:=d.length;exact Calls.call_len_list f.isList (by simp only[aG];omega) ⟨.int xs.length,H,I.tok _,⟨_,by simp only[aG];rw[a]⟩,q⟩
    · subst b
      obtain⟨g,d,f,j⟩:=I.tuple i;have a:=d.length;exact len_tuple f (by simp only[aG];omega) ⟨.int xs.length,H,I.tok _,⟨_,by simp only[aG];rw[a]⟩,q⟩
  |_=>exact(show False from e).elim
end
structure ObjM(h:Heap)(x dx C:Addr)(mA:Str->Option Value):Prop where
  obj:h.get? x=some (W.instObj C dx)
  ns:h.Ns1 dx mA
  ne:dx≠x
variable{mA:Str->Ot vL}
theorem lookIn_ns{f:Ad}(n:h.Ns1 f mA):∃ d,h.get? f=some d/\∀ b,W.lookIn b d=some (mA b):=by
  obtain⟨o,es,p,i,l,k,_,j⟩:=n;refine⟨o,i,λb=>?_⟩
  have e:=j b;unfold nsFind findBy at e;rw[<-Array.find?_toList]at e;unfold W.lookIn;rw[l];dsimp only;split
  · rename_i y q
    rw[q]at e;exact congrArg some e
  · rename_i q
    rw[q]at e;have a:es.toList.any (·.refKey)=false:=by
      rw[List.any_eq_false];intro y g;obtain⟨z,t,c⟩:=k y (Array.mem_toList_iff.mp g);simp[DictEntry.refKey,c]
    have m:¬es.toList.any (·.refKey)=true:=by rw[a];exact bF7
    rw[if_neg m];exact congrArg some e
theorem ObjM.look{x c C:Ad}(I:ObjM h x c C mA):∃ b,W.InstAt h x (W.instObj C c) C (some b)/\∀ a,W.lookIn a b=some (mA a):=
  let ⟨b,ho,hl⟩:=lookIn_ns I.ns
  ⟨b,⟨I.obj,rfl,rfl,ho⟩,hl⟩
variable{pl:Sem Bool}
variable{A:Around}{K:fG7}{dx C f:Ad}{mA:Str->Ot vL}
section
variable{prog:Program}{name:Str}{v:vL}
theorem get_meth{Q:vL×Li vL->sH7->Prop}(X:K.In s.heap)(I:ObjM s.heap x dx C mA)(a:W.plainGet K C name=true)(g:W.findIn K (.ref C) name=some (some (.ref f)))(d:W.isFn K (.ref f)=true)(c:mA name=none)(h:Q (.ref f,[.ref x]) s) :
    wpAny (model prog w) A (getMethod (.ref x) name pl) Q E s:=by
  obtain⟨b,J,e⟩:=I.look;exact W.method_fn X J (W.plainGet_of a).1 (W.plainGet_of a).2 g (beq_iff_eq.mp d) (by show(W.lookIn name b).map (·.isSome)=some false;rw[e,c];rfl) h
end
theorem RelO.some_of{v:V}{o:Ot vL}(r:RelO (some v) o):∃ u,o=some u/\RelV v u:=by
  cases o with
  |none=>exact(show False from r).elim
  |some u=>exact⟨u,rfl,r⟩
theorem RelO.none_of{o:Ot vL}(r:RelO none o):o=none:=by
  cases o with
  |none=>rfl
  |some u=>exact(show False from r).elim
variable{fs:Li (Str×V)}
section
variable{fs':Li (Str×V)}
theorem ins_get(hok:HOk P w H h)(e:H a=some (.ins C dx fs)):∃ mA,ObjM h a dx C mA/\(∀ f,RelO (fs.lookup f) (mA f))/\PySem.Within mA (fs.map (·.1))/\fs.length<=1000/\H dx=some (.own a):=by
  obtain⟨d,z,c,b,mA,n,r,q⟩:=(show ObjOk P w H h a (.ins C dx fs) from hok a _ e);exact⟨mA,⟨b,n,c⟩,r,q,z,d⟩
end
structure Cls(K:fG7)(C:Addr):Prop where
  pg:W.plainGet K C Str.empty=true
  hd:W.hasDictIn K C=true
  po:W.plainOver K C=true
  sa:W.findIn K (.ref C) "__setattr__"=some (some (.builtin "object.__setattr__"))
theorem Cls.get{C:Ad}(c:Cls K C)(f:Str):W.plainGet K C f=true:=c.pg
structure Con(K:fG7)(C:Addr)(f:Str)(v:V)(u:Value):Prop where
  at_:W.findIn K (.ref C) f=some (some u)
  rel:RelV v u
  get:W.specialIn K u "__get__"=some none
  cp:W.copiedNames.contains f=false
structure Meth(K:fG7)(C:Addr)(m:Str)(f:Addr):Prop where
  at_:W.findIn K (.ref C) m=some (some (.ref f))
  fn:W.isFn K (.ref f)=true
  kp:W.keepIn K (.ref f)=true
section
variable{f:Str}{v:V}
theorem getmeth_ok{m:Str}{g:Ad}{Q:vL×Li vL->sH7->Prop}(I:Inv X pQ O H s)(e:H a=some (.ins C dx fs))(c:Cls X.K C)(k:Meth X.K C m g)(l:fs.lookup m=none)(h:Q (.ref g,[.ref a]) s):wpAny (model X.prog X.w) A (getMethod (.ref a) m pl) Q E s:=by
  obtain⟨mA,d,r,_,_,_⟩:=ins_get I.hok e;have b:mA m=none:=RelO.none_of (by rw[<-l];exact r m)
  exact get_meth I.kIn d (c.get m) k.at_ k.fn b h
theorem Inv.made(I:Inv X pQ O H s):Inv X pQ O (upd (upd H s.heap.objs.size (.own (s.heap.objs.size+1))) (s.heap.objs.size+1) (.ins C s.heap.objs.size []))
    { s with heap:=(s.heap.push W.emptyDict).push (W.instObj C s.heap.objs.size) }:=by
  have d:(s.heap.push W.emptyDict).get? s.heap.objs.size=some W.emptyDict:=aX s.heap rfl;have i:((s.heap.push W.emptyDict).push (W.instObj C s.heap.objs.size)).get? (s.heap.objs.size+1)=some (W.instObj C s.heap.objs.size):=by
    have:=aX (s.heap.push W.emptyDict) (o:=W.instObj C s.heap.objs.size) rfl
    rwa [Heap.size_push]at this
  have h:(s.heap.push W.emptyDict).Ns s.heap.objs.size (λ_=>none):=⟨W.emptyDict,#[],_,d,rfl,(λe g=>absurd g (by simp)),λ_=>rfl⟩
  have j:=I.laid (a:=s.heap.objs.size) (o:=.own (s.heap.objs.size+1)) (h':=s.heap.push W.emptyDict) (t':=s.toks) (λb u q=>aK _ q) (aD _) ⟨_,d⟩
  refine j.laid (a:=s.heap.objs.size+1) (o:=.ins C s.heap.objs.size []) (t':=s.toks) (λb u q=>aK _ q) (cJ (Heap.size_push _ _)) ?_
  have c:s.heap.objs.size≠s.heap.objs.size+1:=aY (dS _);refine⟨by rw[upd_ne c,upd_same],aM _,c,i,λ_=>none,(Heap.Ns1.of_empty h).at λo q=>aK _ q,λ_=>True.intro,λy f=>absurd rfl f⟩
end
variable{o:Expr}
section
variable{value:Expr}{f:Str}{pos' tpos:Pos}{tv:TE}
end
variable{Q:vL->sH7->Prop}
section
variable{c:vL}{b:Bool}
inductive TyOf(K:fG7)(H:Hp):V->Value->Prop where
  |non:TyOf K H .non (.type "NoneType")
  |bl (x:Bool):TyOf K H (.bl x) (.type "bool")
  |int (i:Int):TyOf K H (.int i) (.type "int")
  |str (x:Str):TyOf K H (.str x) (.type "str")
  |flt (x:UInt64):TyOf K H (.flt x) (.type "float")
  |lst {a:Addr}{xs:List V} (e:H a=some (.lst xs)):TyOf K H (.ref a) (.type "list")
  |frz {a:Addr}{o:Obj}{xs:List V} (e:H a=some (.frz o (.lst xs))):TyOf K H (.ref a) (.type "list")
  |tup {a:Addr}{xs:List V} (e:H a=some (.tup xs)):TyOf K H (.ref a) (.type "tuple")
  |dK {a:Addr}{kvs:List (Key×V)} (e:H a=some (.dK kvs)):TyOf K H (.ref a) (.type "dict")
  |dT {a:Addr}{kvs:List (List Key×V)} (e:H a=some (.dT kvs)):TyOf K H (.ref a) (.type "dict")
  |ins {a C dx:Addr}{fs:List (Str×V)} (e:H a=some (.ins C dx fs)) (cl:Cls K C) (ha:W.findIn K (.ref C) "__class__"=some (some (.builtin "object.__class__")))
      (hn:W.specialIn K (.builtin "object.__class__") "__get__"=some (some (.builtin "getset_descriptor.__get__"))) (htk:W.takesIn K (.builtin "object.__class__")=some true)
      (hm:W.mroIn K C (.type "object")=some true):TyOf K H (.ref a) (.ref C)
theorem isinst_ok{x:V}{u t:vL}(I:Inv X pQ O H s)(d:RelV x u)(ty:TyOf X.K H x t)(e:W.kitOne X.K t c=some b)(h:∀ r,Q (.bool b) { s with toks:=r }) :
    wpAny (model X.prog X.w) A (call (.builtin "isinstance") [u,c]) Q E s:=by
  cases ty with
  |non=>cases (show u=Value.none from d);exact W.kia_one W.kitx_none I.kIn True.intro e (λz=>nomatch z) h
  |bl y=>cases (show u=Value.bool y from d);exact W.kia_one W.kitx_bool I.kIn True.intro e (λz=>nomatch z) h
  |int i=>obtain⟨t,q⟩:=(show ∃ t,u=Value.int i t from d);cases q;exact W.kia_one W.kitx_int I.kIn True.intro e (λz=>nomatch z) h
  |str y=>obtain⟨t,q⟩:=(show ∃ t,u=Value.str y t from d);cases q;exact W.kia_one W.kitx_str I.kIn True.intro e (λz=>nomatch z) h
  |flt y=>obtain⟨t,q⟩:=(show ∃ t,u=Value.float y t from d);cases q;exact W.kia_one W.kitx_float I.kIn True.intro e (λz=>nomatch z) h
  |@lst a xs f=>
    cases (show u=Value.ref a from d)
    obtain⟨_,_,n,_,g⟩:=(show ObjOk X.prog X.w H s.heap a (.lst xs) from I.hok a _ f);exact W.kia_one W.kitx_list I.kIn ⟨_,g,rfl⟩ e (λz=>nomatch z) h
  |@frz a v xs f=>
    cases (show u=Value.ref a from d)
    obtain⟨_,_,_,n,_,g⟩:=(show ObjOk X.prog X.w H s.heap a (.frz v (.lst xs)) from I.hok a _ f);exact W.kia_one W.kitx_list I.kIn ⟨_,g,rfl⟩ e (λz=>nomatch z) h
  |@tup a xs f=>
    cases (show u=Value.ref a from d)
    obtain⟨_,_,_,p⟩:=(show ObjOk X.prog X.w H s.heap a (.tup xs) from I.hok a _ f);obtain⟨o,g,k,_⟩:=p;exact W.kia_one W.kitx_tuple I.kIn ⟨o,g,k⟩ e (λz=>nomatch z) h
  |@dK a j f=>
    cases (show u=Value.ref a from d)
    obtain⟨_,_,M,_,p⟩:=(show ObjOk X.prog X.w H s.heap a (.dK j) from I.hok a _ f);obtain⟨o,es,G,g,k,_⟩:=p;exact W.kia_one W.kitx_dict I.kIn ⟨o,g,k.1⟩ e (λz=>nomatch z) h
  |@dT a j f=>
    cases (show u=Value.ref a from d)
    obtain⟨_,_,xs,_,o,es,G,g,k,_⟩:=(show ObjOk X.prog X.w H s.heap a (.dT j) from I.hok a _ f);exact W.kia_one W.kitx_dict I.kIn ⟨o,g,k.1⟩ e (λz=>nomatch z) h
  |@ins a C P fs f m F B l D=>
    cases (show u=Value.ref a from d)
    obtain⟨mA,L,_⟩:=ins_get I.hok f;obtain⟨N,J,_⟩:=L.look;exact W.kia_one (W.kitx_own (m.get _) m.hd F B l D) I.kIn J e (λz=>nomatch z) h
end
structure Room(k:Nat)(A:Around):Prop where
  hd:A.handled=none
  dp:A.depth+3 * k+5 < recursionLimit
  un:A.units+16 * k+200 < cLine
variable{k:Nat}
theorem Room.deeper(r:Room (k+1) A)(env:Env):Room k (A.deeper env):=
  ⟨r.hd,by have:=r.dp;show A.depth+1+3 * k+5 < _;omega,by have:=r.un;show A.units+3+16 * k+200 < _;omega⟩
theorem Room.depth(r:Room k A):A.depth < recursionLimit:=by have:=r.dp;omega
theorem Room.units(r:Room k A):A.units+64 < cLine:=by have:=r.un;omega
def tNil:TA:=λ_ H Q=>Q [] H
def tCons(a:TE)(tr:TA):TA:=λO H Q=>a O H λx c=>tr O c λxs b=>Q (x :: xs) b
variable{es:Li Expr}{t:TA}
theorem pa_nil:PA X [] tNil:=λ_ _ _ _ H Q I h=>Calls.spliced_nil ⟨[],H,I,.nil,h⟩
theorem pa_cons(i:PE X e te)(g:PA X es t)(f:starEach (e :: es) X.env=(false,eval e X.env) :: starEach es X.env:=by rfl):PA X (e :: es) (tCons te t):=by
  intro pos pQ s O H Q I h;rw[f];show wpAny _ _ (spliced ((false,eval e X.env) :: backTo pos (starEach es X.env))) _ _ s;refine Calls.spliced_cons (thn (i pQ s O H _ I h) λu s1 ⟨x,m,k,b,d⟩=>?_)
  exact thn (g pos pQ s1 O m _ k d) λus n ⟨xs,l,j,a,c⟩=>⟨x :: xs,l,j,.cons b a,c⟩
def tTup(t:TA):TE:=λO H Q=>t O H λxs a=>xs.length<=sizeLine/\∀ p,a p=none->Q (.ref p) (upd a p (.tup xs))
def tLst(t:TA):TE:=λO H Q=>t O H λxs a=>xs.length<=sizeLine/\∀ p,a p=none->Q (.ref p) (upd a p (.lst xs))
theorem pe_tup{x1}(h:PA X es t):PE X (.Tuple es x1 pos) (tTup t):=by
  intro pQ s O H Q I d;refine wpAny_Tuple_spliced (thn (h pos pQ s O H _ I d) λus s1 ⟨xs,c,a,r,z,q⟩=>⟨by rw[<-r.length];exact z,?_⟩)
  have f:c s1.heap.objs.size=none:=a.hok.fresh (aD _);refine⟨.ref s1.heap.objs.size,upd c s1.heap.objs.size (.tup xs),a.laid (t':=s1.toks) (λb u e=>aK _ e) (aD _) ?_,rfl,q _ f⟩
  exact⟨z,us,r,⟨_,aX _ rfl,rfl,_,rfl⟩⟩
theorem pe_lst(h:PA X es t):PE X (.List es pos) (tLst t):=by
  intro pQ s O H Q I d;refine wpAny_List_spliced (thn (h pos pQ s O H _ I d) λus s1 ⟨xs,c,a,r,z,q⟩=>⟨by rw[<-r.length];exact z,?_⟩)
  have f:c s1.heap.objs.size=none:=a.hok.fresh (aD _);refine⟨.ref s1.heap.objs.size,upd c s1.heap.objs.size (.lst xs),a.laid (t':=s1.toks) (λb u e=>aK _ e) (aD _) ?_,rfl,q _ f⟩
  exact⟨z,us,0,r,aX _ rfl⟩
abbrev Sp:=Li V->Hp->VK->XK->Prop
abbrev CXT:=Li Env->Hp->sH7->XK->vL->sH7->Prop
structure Env0(P:Program)(w:World)(K:fG7)(mg:Str->Option Value)(base:Heap)(A:Around)(outer:List Env)(s:Shared)(H:Hp):Prop where
  frames:A.frames=some outer
  mod:Mod K mg base
  bs:∀ b o,base.get? b=some o->s.heap.get? b=some o/\H b=none
  bsz:base.objs.size<=s.heap.objs.size
  funs:s.heap.FunFrames base outer
  frf:∀ b∈frs outer,H b=none
  hok:HOk P w H s.heap
  bare:AllBare s.gens
def CE(outer:Li Env)(P:Program)(w:World)(H:Hp)(s:sH7)(Q:VK)(u:vL)(s':sH7):Prop:=
  ∃ v a,s'.os=s.os/\AllBare s'.gens/\Un (frs outer) [] H a s.heap s'.heap/\HOk P w a s'.heap/\RelV v u/\Q v a
def CR(CX:CXT)(outer:Li Env)(P:Program)(w:World)(H:Hp)(s:sH7)(Q:VK)(E:XK)(r:Result)(s':sH7):Prop:=
  match r with
  |.ok (.ret u)=>CE outer P w H s Q u s'
  |.ok _=>False
  |.error e=>CX outer H s E e s'
structure FnOk(P:Program)(w:World)(K:fG7)(mg:Str->Option Value)(base:Heap)(CX:CXT)(k:Nat)(f:Addr)(fd:FuncData)(ps:List Str)(sp:Sp):Prop where
  len:∀ vs H Q E,sp vs H Q E->vs.length=ps.length
  run:∀ (A:Around) (outer:List Env) (s:Shared) (H:Hp) (args:Args) (us:List Value) (vs:List V) (Q:VK) (E:XK),Room k A->Env0 P w K mg base A outer s H->BindsTo s fd args (ps.zip us)->Vals vs us->sp vs H Q E->
    codeAny (model P w) A (.call (.ref f) args) (CR CX outer P w H s Q E) s
variable{s':sH7}
theorem Inv.env0(I:Inv X pQ O H s):Env0 X.prog X.w X.K X.mg X.base X.A X.stack s H:=
  ⟨I.ok.frames,I.ok.mod,I.bs,aP I.ok.bsz I.sz,I.stack,I.stkFree,I.hok,I.bare⟩
theorem Inv.after{Q:VK}{u:vL}(I:Inv X pQ O H s)(h:CE X.stack X.prog X.w H s Q u s'):EP X pQ O Q u s':=by
  obtain⟨v,j,f,a,un,e,r,q⟩:=h;obtain⟨i,g,d,t,c⟩:=s';obtain rfl:c=s.os:=f;exact⟨v,j,I.call (h':=i) (g':=g) (d':=d) (t':=t) (ch:=[]) un e a (λb z=>absurd z (by simp)),r,q⟩
def tCall(c:Sp)(a:Li V)(E:XK)(t:TA):TE:=λO H Q=>t O H λb d=>c (b++a) d Q E
def Binds(K:fG7)(fd:FuncData)(a:Li Str)(b:Li vL):Prop:=
  ∀ (s:sH7) (us:Li vL),K.In s.heap->(us++b).length=a.length->BindsTo s fd ⟨us,[]⟩ (a.zip (us++b))
variable{ps:Li Str}
theorem Binds.all{fd:FuncData}(h:∀ us:Li vL,us.length=ps.length->bindArgs fd ⟨us,[]⟩=pure (ps.zip us)):Binds K fd ps []:=λs us _ a=>by
  rw[bH]at a ⊢;exact .of_eq (h us a)
def Passes(CX:CXT)(X:Cx)(E:XK):Prop:=∀ (pQ:Li (Ad×Obj)) (O:St) (H:Hp) (s:sH7) (e:vL) (s':sH7),Inv X pQ O H s->CX X.stack H s E e s'->X.xe e s'
variable{vs:Li V}
variable{CX:CXT}{k:Nat}{fd:FuncData}{ps:Li Str}{sp:Sp}{m:Str}{p apos:Pos}
section
variable{dvs:Li V}{ds:Li vL}{E:XK}{x:Str}
theorem run_fn{O:St}{Q:VK}(F:FnOk X.prog X.w X.K X.mg X.base CX k f fd ps sp)(d:Room k X.A)(i:Binds X.K fd ps ds)(hd:Vals dvs ds)(c:Passes CX X E)(I:Inv X pQ O H s)(r:Vals vs us)(h:sp (vs++dvs) H Q E):wpAny (model X.prog X.w) X.A (call (.ref f) us) (EP X pQ O Q) X.xe s:=by
  have b:Vals (vs++dvs) (us++ds):=r.append hd;have g:(us++ds).length=ps.length:=by rw[<-b.length];exact F.len _ _ _ _ h
  refine wpAny_call (codeAny_mono (F.run X.A X.stack s H ⟨us,[]⟩ (us++ds) (vs++dvs) Q E d I.env0 (i s us I.kIn g) b h) λr s' a=>?_)
  cases r with
  |error e=>exact c pQ O H s e s' I a
  |ok j=>
    cases j with
    |ret u=>exact I.after a
    |next=>exact False.elim a
    |brk=>exact False.elim a
    |cont=>exact False.elim a
theorem pe_call(F:FnOk X.prog X.w X.K X.mg X.base CX k f fd ps sp)(g:Room k X.A)(l:Gl X x)(i:X.mg x=some (.ref f))(j:W.keepIn X.K (.ref f)=true)(n:Binds X.K fd ps ds)(hd:Vals dvs ds)(d:Passes CX X E)(o:PA X (e :: es) t)(b:(x==("__debug__":Str))=false:=by decide)(m:starEach (e :: es) X.env=(false,eval e X.env) :: starEach es X.env:=by rfl)(a:(backTo pos (starEach es X.env)).any (·.1)=false:=by rfl) :
    PE X (.Call (.Name x p) (e :: es) [] pos) (tCall sp dvs E t):=by
  intro pQ s O H Q I h;refine wpAny_Call_Name_kw (ld_glob I l i ?_ b);refine W.callWith_K (h₀:=X.base) I.ok.mod.kin j (thn (o pos pQ s O H _ I h) λus s1 ⟨vs,u,c,r,q⟩=>⟨c.kIn,?_⟩) m a
  exact run_fn F g n hd d c r q
theorem pe_call0(F:FnOk X.prog X.w X.K X.mg X.base CX k f fd ps sp)(c:Room k X.A)(g:Gl X x)(d:X.mg x=some (.ref f))(e:W.keepIn X.K (.ref f)=true)(i:Binds X.K fd ps ds)(hd:Vals dvs ds)(b:Passes CX X E)(a:(x==("__debug__":Str))=false:=by decide):PE X (.Call (.Name x p) [] [] pos) (tCall sp dvs E tNil):=by
  intro pQ s O H Q I h;refine wpAny_Call_Name_kw (ld_glob I g d ?_ a);exact W.callWith_K0 I.kIn e (run_fn (us:=[]) F c i hd b I .nil h)
structure Mk(K:fG7)(C f:Addr):Prop where
  makes:W.makesIn K C=true
  init:W.findIn K (.ref C) "__init__"=some (some (.ref f))
  fn:W.isFn K (.ref f)=true
  kp:W.keepIn K (.ref C)=true
end
section
variable{ks:Li Str}{E:XK}{x:Str}{kpos:Pos}{kws:Li Keyword}{tk:TA}{nm:Ot Str}
structure KBinds(K:fG7)(fd:FuncData)(ps ks:List Str)(g:List Value->List Value->List Value)(gV:List V->List V->List V):Prop where
  to:∀ (s:Shared) (us ws:List Value),K.In s.heap->(g us ws).length=ps.length->BindsTo s fd ⟨us,ks.zip ws⟩ (ps.zip (g us ws))
  rel:∀ {vs:List V}{us:List Value}{zs:List V}{ws:List Value},Vals vs us->Vals zs ws->Vals (gV vs zs) (g us ws)
variable{g:Li vL->Li vL->Li vL}{gV:Li V->Li V->Li V}
end
structure FnScope(N P:List Str)(sc:Scope):Prop where
  kind:sc.kind=.function
  co:sc.isCoroutine=false
  gen:sc.isGenerator=false
  nd:N.Nodup
  pre:N.take P.length=P
  par:∀ x∈P,sc.names.lookup x=some .local\/sc.names.lookup x=some .cell
  nofree:∀ y∈sc.names,y.2≠.free
theorem bindL_out{a:Str->Ot NameKind}{x:Str}:∀ {binds:Li (Str×vL)}{m:Str->Ot vL},(∀ v,(x,v)∉binds)->bindL a binds m x=m x
  |[],_,_=>rfl
  | (n,v) :: r,m,h=>by
    unfold bindL;rw[bindL_out λw b=>h w (lM7 _ b)]
    split
    · have:x≠n:=by rintro rfl;exact h v lQ7
      simp[this]
    · rfl
theorem bindC_out{a:Str->Ot NameKind}{x:Str}:∀ {binds:Li (Str×vL)}{m:Str->Ot vL},(∀ v,(x,v)∉binds)->bindC a binds m x=m x
  |[],_,_=>rfl
  | (n,v) :: r,m,h=>by
    unfold bindC;rw[bindC_out λw b=>h w (lM7 _ b)]
    split
    · rfl
    · have:x≠n:=by rintro rfl;exact h v lQ7
      simp[this]
theorem bindL_get{a:Str->Ot NameKind}{x:Str}{v:vL}:∀ {P:Li Str}{vs:Li vL}{i:Nat}{m:Str->Ot vL},P.Nodup->P[i]?=some x->vs[i]?=some v->a x=some .local->
    bindL a (P.zip vs) m x=some v
  |[],_,_,_,_,h,_,_=>by simp at h
  |_ :: _,[],_,_,_,_,h,_=>by simp at h
  |p :: P,w :: vs,0,m,d,c,b,e=>by
    simp at c b;subst c;subst b;show bindL a ((p,w) :: P.zip vs) m p=_;unfold bindL;rw[bindL_out λv f=>(bM.mp d).1 (dU f).1,if_pos e]
    simp
  |p :: P,w :: vs,i+1,m,d,c,b,e=>by
    show bindL a ((p,w) :: P.zip vs) m x=_;unfold bindL;exact bindL_get (i:=i) (bM.mp d).2 (by simpa using c) (by simpa using b) e
theorem bindC_get{a:Str->Ot NameKind}{x:Str}{v:vL}:∀ {P:Li Str}{vs:Li vL}{i:Nat}{m:Str->Ot vL},P.Nodup->P[i]?=some x->vs[i]?=some v->a x≠some .local->
    bindC a (P.zip vs) m x=some v
  |[],_,_,_,_,h,_,_=>by simp at h
  |_ :: _,[],_,_,_,_,h,_=>by simp at h
  |p :: P,w :: vs,0,m,d,c,b,e=>by
    simp at c b;subst c;subst b;show bindC a ((p,w) :: P.zip vs) m p=_;unfold bindC;rw[bindC_out λv f=>(bM.mp d).1 (dU f).1,if_neg e]
    simp
  |p :: P,w :: vs,i+1,m,d,c,b,e=>by
    show bindC a ((p,w) :: P.zip vs) m x=_;unfold bindC;exact bindC_get (i:=i) (bM.mp d).2 (by simpa using c) (by simpa using b) e
noncomputable def start(N:Li Str)(vs:Li V):St:=vs.map some++List.replicate (N.length - vs.length) none
noncomputable def cxOf(CX:CXT)(P:Program)(w:World)(K:fG7)(mg:Str->Ot vL)(base:Heap)(N:Li Str)(a:Str)(scope:Scope)(f:Ad)(c:vL)(A:Around)(outer:Li Env)(s:sH7)(H:Hp)(E:XK):Cx where
  prog:=P
  w:=w
  K:=K
  mg:=mg
  base:=base
  A:=A.deeper (envOfC a scope s.heap.objs.size f c)
  N:=N
  s₀:=s
  H₀:=H
  env:=envOfC a scope s.heap.objs.size f c
  outer:=outer
  stack:=envOfC a scope s.heap.objs.size f c :: outer
  ex:=[]
  calm:=true
  fn:=λ_=>true
  pn:=[]
  xe:=λe s'=>wpAny (model P w) (A.deeper (envOfC a scope s.heap.objs.size f c)) (leaving (envOfC a scope s.heap.objs.size f c) e) (λ_ b=>CX outer H s E e b) (λd b=>CX outer H s E d b) s'
theorem cell_has{sc:Scope}{x:Str}(h:sc.names.lookup x=some .cell):∃ c,(cellsFrom n sc.names []).lookup x=some c:=by
  have q:=W.cellsFrom_some sc.names n [] (.inl h);exact Option.isSome_iff_exists.mp q
variable{mg:Str->Ot vL}{base:Heap}
theorem inv_start{CX:CXT}{P:Program}{d:Str}{scope:Scope}{f:Ad}{C:vL}{outer:Li Env}{s1:sH7}{E:XK}(S:FnScope N ps scope)(hd:A.handled=none)(j:Env0 P w K mg base A outer s H)(L:vs.length=ps.length)(r:Vals vs us)(x:InCallC s s.heap.objs.size (bindL (envOfC d scope s.heap.objs.size f C).kindOf (ps.zip us) λ_=>none) (cellsFrom (s.heap.objs.size+1) scope.names []) (bindC (envOfC d scope s.heap.objs.size f C).kindOf (ps.zip us) λ_=>none) s1) :
    Inv (cxOf CX P w K mg base N d scope f C A outer s H E) [] (start N vs) H s1:=by
  have G:ps.length<=N.length:=by have:=congrArg List.length S.pre;rw[cK]at this;omega
  obtain⟨B,J,rfl,F⟩:=x.done;have l:∀ b:Ad,b∉(cxOf CX P w K mg base N d scope f C A outer s H E).ex:=λb z=>absurd (show b∈([]:Li Ad) from z) (by simp)
  refine⟨⟨j.mod,S.kind,rfl,rfl,aD _,λy z c B g=>?_,λy hy=>?_,λy c _ h=>?_,λ_=>hd,Around.frames_deeper j.frames,.inr ⟨rfl,rfl⟩,λb z=>absurd z (l b),j.bs,j.bsz,λb _ _=>l b,λb z=>absurd z (l b),j.funs,j.frf⟩,
    rfl,j.bare,Un.kept F,⟨_,x.toInCall.ns,λi y v B g M=>?_⟩,λy c h=>⟨_,x.cell y c h⟩,j.hok.fresh (aD _),λy c h=>?_,λp o=>absurd (show p∈([]:Li (Ad×Obj)) from o) (by simp),j.hok.kept F,?_⟩
  · exact name_of_addr x.apart (PySem.mem_of_lookup B) (PySem.mem_of_lookup g)
  · have hy:scope.names.lookup y=some .cell\/scope.names.lookup y=some .free:=hy
    rcases hy with hy|hy
    · exact cell_has hy
    · exact absurd rfl (S.nofree _ (PySem.mem_of_lookup hy))
  · exact cU (x.above y c (PySem.mem_of_lookup h))
  · have t:i < vs.length:=by
      unfold start at g;by_cases t:i < vs.length
      · exact t
      · rw[cC (by simpa using t)]at g
        rw[eC]at g;split at g<;>cases g
    have I:vs[i]?=some v:=by
      unfold start at g;rw[bY (by simpa using t),aV]at g
      cases e:vs[i]? with
      |none=>rw[e]at g;cases g
      |some a=>rw[e]at g;cases g;rfl
    obtain⟨u,D,rv⟩:=r.get I;have o:ps[i]?=some y:=by
      rw[<-S.pre,List.getElem?_take_of_lt (by omega)];exact B
    have m:ps.Nodup:=by rw[<-S.pre];exact S.nd.sublist (List.take_sublist _ _)
    refine⟨u,rv,?_⟩;rcases S.par y (aW o) with k|k
    · exact .inl ⟨k,bindL_get m o D k⟩
    · obtain⟨c,e⟩:=cell_has (n:=s.heap.objs.size+1) k
      refine .inr ⟨.inl k,c,e,?_⟩;have q:=x.cell y c e;rw[bindC_get m o D (by show scope.names.lookup y≠_;rw[k];decide)]at q
      exact q
  · exact j.hok.fresh (cU (x.above y c (PySem.mem_of_lookup h)))
  · unfold start
    show _=N.length;rw[aI,aB,bS];omega
theorem fn_of{CX:CXT}{P:Program}{f:Ad}{g a:Str}{d:Arguments}{body:Li Stmt}{scope:Scope}{R kV B O c ct oc:vL}{U Y:Ot Ad}{F:Array (Ot vL)}{D:Sp}(lk:K.lookup f=some ⟨oc,Y,.func (W.fnOf g a d body scope R kV B O U c ct),F⟩)(M:W.codeIn K c a=true)(S:FnScope N ps scope)(len:∀ vs H Q E,D vs H Q E->vs.length=ps.length)(j:∀ (A:Around) (outer:Li Env) (s:sH7) (H:Hp) (vs:Li V) (Q:VK) (E:XK),Room k (A.deeper (envOfC a scope s.heap.objs.size f c))->D vs H Q E->
      ∃ t,PSs (cxOf CX P w K mg base N a scope f c A outer s H E) body t/\t { nx:=λ_ h=>Q .non h,rt:=Q } (start N vs) H) :
    FnOk P w K mg base CX (k+1) f (W.fnOf g a d body scope R kV B O U c ct) ps D:=by
  refine⟨len,λA outer s H T us vs Q E L z hb r m=>?_⟩
  have hl:=len _ _ _ _ m;have X:K.In s.heap:=z.mod.kin.keeps λb o e=>(z.bs b o e).1
  have G:s.heap.NoLimit:=z.mod.nolimit.keeps λb o e=>(z.bs b o e).1
  have i:∀ y∈ps.zip us,scope.names.lookup y.1=some .local\/(scope.names.lookup y.1=some .cell/\((cellsFrom (s.heap.objs.size+1) scope.names []).lookup y.1).isSome=true):=λ⟨n,v⟩ Z=>by
    rcases S.par n (dU Z).1 with q|q
    · exact .inl q
    · exact .inr ⟨q,W.cellsFrom_some _ _ _ (.inl q)⟩
  refine codeAny_call_function L.depth (X _ _ lk) rfl S.co S.gen rfl (W.codeRec_of X M) (hb _ _ _ _ ?_);refine wpAny_newFunctionEnv_cells S.kind i λenv he s1 x=>?_
  subst he;refine⟨G.keeps x.toInCall.keep,codeAny_func ?_⟩;obtain⟨t,ht,hq⟩:=j A outer s H vs Q E (L.deeper _) m;have I:Inv (cxOf CX P w K mg base N a scope f c A outer s H E) [] (start N vs) H s1:=inv_start S L.hd z hl r x;refine bG (ht [] s1 (start N vs) H _ I hq) (λfl s' l=>?_) λe s' l=>l
  have p:∀ {C:St}{h:Hp}{v:V}{u:vL},Inv (cxOf CX P w K mg base N a scope f c A outer s H E) [] C h s'->RelV v u->Q v h->CE outer P w H s Q u s':=
    λ{C h v u} J rv q=>⟨v,h,J.os,J.bare,J.base,J.hok,rv,q⟩
  cases fl with
  |ret u=>
    obtain⟨v,C,h,J,rv,q⟩:=l;exact p J rv q
  |next=>
    obtain⟨C,h,J,q⟩:=l;exact p (v:=V.non) (u:=Value.none) J rfl q
  |brk=>
    obtain⟨_,_,_,q⟩:=l;exact False.elim q
  |cont=>
    obtain⟨_,_,_,q⟩:=l;exact False.elim q
section
variable{x:Str}{id T:String}{r:Li V->Hp->VK->Prop}
def tCB(r:Li V->Hp->VK->Prop)(t:TA):TE:=λO H Q=>t O H λvs a=>r vs a Q
theorem pe_callB(l:CallR X (.builtin id) r)(j:Gl X x)(i:X.mg x=none)(f:bootBuiltins x=some (.builtin id))(m:PA X (e :: es) t)(g:x ≠ "__name__":=by decide)(b:(x==("__debug__":Str))=false:=by decide)(k:starEach (e :: es) X.env=(false,eval e X.env) :: starEach es X.env:=by rfl)(a:(backTo pos (starEach es X.env)).any (·.1)=false:=by rfl):PE X (.Call (.Name x p) (e :: es) [] pos) (tCB r t):=by
  intro pQ s O H Q I h;refine wpAny_Call_Name_kw (ld_blt I j i f ?_ g b);exact PyProof.Rows.callWith_builtin1 (thn (m pos pQ s O H _ I h) λus s1 ⟨vs,o,n,c,d⟩=>l pQ s1 O o vs us Q n c d) k a
theorem pe_callTy(l:CallR X (.type T) r)(j:Gl X x)(i:X.mg x=none)(f:bootBuiltins x=some (.type T))(m:PA X (e :: es) t)(g:x ≠ "__name__":=by decide)(b:(x==("__debug__":Str))=false:=by decide)(k:starEach (e :: es) X.env=(false,eval e X.env) :: starEach es X.env:=by rfl)(a:(backTo pos (starEach es X.env)).any (·.1)=false:=by rfl):PE X (.Call (.Name x p) (e :: es) [] pos) (tCB r t):=by
  intro pQ s O H Q I h;refine wpAny_Call_Name_kw (ld_blt I j i f ?_ g b);exact PyProof.Rows.callWith_type1 (thn (m pos pQ s O H _ I h) λus s1 ⟨vs,o,n,c,d⟩=>l pQ s1 O o vs us Q n c d) k a
end
end L2
namespace HT
open PySem PyProof.Rows
section
open PySem.SeqAt
open PySem.AutoSeq1 (wpAny_loadPart')
open PySem.MeetsSeq PySem.MeetsSeq2 PySem.MeetsSeq3
end
variable{Q:vL->sH7->Prop}{lo hi:Ot Int}
section
variable{prog:Program}{w:World}{A:Around}{E:vL->sH7->Prop}{s:sH7}
theorem cat_tup{t b:Ad}{d a:Li vL}(v:IsTup s.heap t d.toArray)(x:IsTup s.heap b a.toArray)(p:d≠[])(z:a=[]->Q (.ref t) s)(y:a≠[]->Q (.ref s.heap.objs.size) { s with heap:=s.heap.push { cls:=.type "tuple",data:=.seq (d++a).toArray } })(l:d.length+a.length<=sizeLine):wpAny (model prog w) A (binaryOp .Add (.ref t) (.ref b)) Q E s:=by
  obtain⟨⟨cls,dd,data,sl⟩,k,r,n,q⟩:=id v;obtain⟨⟨u,i,m,f⟩,c,h,o,g⟩:=id x;simp only at r q h g;subst r q h g;have e:d.toArray++a.toArray=(d++a).toArray:=by simp
  by_cases j:a=[]
  · exact concat_meets ⟨_,k,rfl⟩ ⟨_,c,rfl⟩ noFill_tuple_add seq_tuple_add PySem.F.slot_tuple_add PySem.F.entry_tuple_add (PySem.F.args_tuple_add_2 _ _)
      (tuple_addW1 t b d.toArray a.toArray n o dd i sl f (by simpa using p) (by simp[j])) ⟨k,c,z j⟩
  · refine concat_meets ⟨_,k,rfl⟩ ⟨_,c,rfl⟩ noFill_tuple_add seq_tuple_add PySem.F.slot_tuple_add PySem.F.entry_tuple_add (PySem.F.args_tuple_add_2 _ _)
      (tuple_addW2 t b d.toArray a.toArray n o dd i sl f (by simpa using p) (by simpa using j) (by rw[aG,aG];exact l)) ⟨k,c,?_⟩
    rw[e];exact y j
noncomputable def sIx(n d:Nat):Ot Int->Nat
  |none=>d
  |some v=>if v < 0 then (v+(n:Int)).toNat else min v.toNat n
theorem sIx_le(n d:Nat)(hd:d<=n)(o:Ot Int):sIx n d o<=n:=by
  cases o with
  |none=>exact hd
  |some v=>
    show(if v < 0 then (v+(n:Int)).toNat else min v.toNat n)<=n
    by_cases a:v < 0
    · rw[if_pos a];omega
    · rw[if_neg a];exact Nat.min_le_right _ _
theorem clip_eq(v:Int)(n d:Nat):(if v < 0 then max (v+(n:Int)) 0 else min v (n:Int))=((sIx n d (some v):Nat):Int):=by
  show(if v < 0 then max (v+(n:Int)) 0 else min v (n:Int))=(((if v < 0 then (v+(n:Int)).toNat else min v.toNat n):Nat):Int)
  by_cases a:v < 0
  · simp only[if_pos a];omega
  · simp only[if_neg a];omega
theorem adjust_gen(lo hi:Ot Int)(n:Nat):Builtin.Slice.sliceAdjust lo hi 1 (n:Int)=(((sIx n 0 lo:Nat):Int),((sIx n n hi:Nat):Int)):=by
  have a:¬((1:Int) < 0):=by omega
  unfold Builtin.Slice.sliceAdjust;simp only[a,if_false];refine Prod.ext ?_ ?_
  · cases lo with
    |none=>rfl
    |some v=>exact clip_eq v n 0
  · cases hi with
    |none=>rfl
    |some v=>exact clip_eq v n n
theorem places_gen(i j:Nat):Builtin.Slice.slicePlaces (i:Int) (j:Int) 1=j - i:=by
  unfold Builtin.Slice.slicePlaces;have a:(1:Int) > 0:=by omega
  simp only[a,if_true,dE];split<;>omega
theorem slicePart_{v:vL}{o:Ot Int}{Q:Ot Int->sH7->Prop}(p:IsPart v o)(h:Q o s):wpAny (model prog w) A (Builtin.Slice.slicePartIndex v) Q E s:=by
  cases p with
  |none=>exact slicePart_none h
  |int i t=>exact slicePart_int h
theorem sliceApplied_gen{sl:Ad}{d c:vL}{n:Nat}{Q:Int×Int×Nat->sH7->Prop}(g:s.heap.IsSliceOf sl d c .none)(f:IsPart d lo)(e:IsPart c hi)(h:Q (((sIx n 0 lo:Nat):Int),1,sIx n n hi - sIx n 0 lo) s):wpAny (model prog w) A (Builtin.Slice.sliceApplied (.ref sl) (pure (n:Int))) Q E s:=by
  obtain⟨j,a,i,b⟩:=id g;unfold Builtin.Slice.sliceApplied Builtin.Slice.sliceFields;refine aA (aA (wpAny_field a b (x:=d) rfl (aA (wpAny_field a b (x:=c) rfl (aA (wpAny_field a b (x:=.none) rfl (aE ?_)))))));refine aA (slicePart_none ?_);show wpAny _ _ (if ((1:Int)==0)=true then _ else _) _ _ s
  rw[if_neg (by decide)]
  refine aA (slicePart_ f (aA (slicePart_ e (aA (aE ?_)))));show wpAny _ _ (match Builtin.Slice.sliceAdjust lo hi 1 (n:Int) with | (lo,hi)=>pure (lo,(1:Int),Builtin.Slice.slicePlaces lo hi 1)) _ _ s
  rw[adjust_gen lo hi n];show wpAny _ _ (pure (((sIx n 0 lo:Nat):Int),(1:Int),Builtin.Slice.slicePlaces ((sIx n 0 lo:Nat):Int) ((sIx n n hi:Nat):Int) 1)) _ _ s;rw[places_gen];exact aE h
theorem pick_gen(a:Array vL)(i k:Nat):((List.range k).filterMap λ(m:Nat)=>a[((i:Int)+(m:Int) * 1).toNat]?).toArray=((a.toList.drop i).take k).toArray:=by
  have e:(λ(m:Nat)=>a[((i:Int)+(m:Int) * 1).toNat]?)=λm=>a[i+m]?:=by
    funext m
    have:((i:Int)+(m:Int) * 1).toNat=i+m:=by omega
    rw[this]
  rw[e];have:=pick_run a i k;rw[List.filterMap_map]at this;have b:((λx=>a[x]?) ∘ λx=>i+x)=λm=>a[i+m]?:=rfl
  rw[b]at this;rw[this]
theorem getItem_tuple_cut{t sl:Ad}{a:Array vL}{j i:vL}(c:IsTup s.heap t a)(k:s.heap.IsSliceOf sl j i .none)(n:IsPart j lo)(l:IsPart i hi)(p:¬(sIx a.size 0 lo=0/\sIx a.size a.size hi=a.size))(h:Q (.ref s.heap.objs.size) { s with heap:=s.heap.push { cls:=.type "tuple",data:=.seq ((a.toList.drop (sIx a.size 0 lo)).take (sIx a.size a.size hi - sIx a.size 0 lo)).toArray } })(r:a.size<=sizeLine):wpAny (model prog w) A (getItem (.ref t) (.ref sl)) Q E s:=by
  have b:sizeOk (.seq ((a.toList.drop (sIx a.size 0 lo)).take (sIx a.size a.size hi - sIx a.size 0 lo)).toArray):=by
    show((a.toList.drop (sIx a.size 0 lo)).take (sIx a.size a.size hi - sIx a.size 0 lo)).toArray.size<=sizeLine;rw[aG,cK,dF,cI];omega
  have y:sIx a.size a.size hi<=a.size:=sIx_le _ _ (aD _) hi;obtain⟨o,d,f,u⟩:=id k;have g:s.TypeIs (.ref sl) "slice":=⟨o,d,f⟩;unfold getItem
  try with_reducible refine wpAny_holding ?_
  first|refine aA (aE ?_)|skip
  refine aA (wpAny_sequenceKey c.typeIs (by decide) ?_)
  refine aA (wpAny_callSpecial?_slot (name:=Str.ofString "__getitem__") c.typeIs PyProof.Rows.slot_tuple_getitem
    (wpAny_call_entry PyProof.Rows.slot_tuple_getitem c.typeIs entry_tuple_getitem ?_ (args_tuple_getitem _ _)))
  show wpAny _ _ (Builtin.Tuple.tupleItemsOf (.ref t) >>= _) _ _ s;refine aA (tupleItemsOf_ c ?_);refine aA (wpAny_typeOf g ?_);rw[if_pos (by decide)]
  refine aA (sliceApplied_gen k n l ?_);have e:¬((((sIx a.size 0 lo:Nat):Int)==0&&(1:Int)==1&&(sIx a.size a.size hi - sIx a.size 0 lo)==a.size)=true):=by
    intro q;rw[bA7,bA7]at q;have x:((sIx a.size 0 lo:Nat):Int)=0:=eq_of_beq q.1.1;have v:sIx a.size a.size hi - sIx a.size 0 lo=a.size:=eq_of_beq q.2;exact p ⟨by omega,by omega⟩
  show wpAny _ _ (if (((sIx a.size 0 lo:Nat):Int)==0&&(1:Int)==1&&(sIx a.size a.size hi - sIx a.size 0 lo)==a.size)=true then _ else _) _ _ s
  rw[if_neg e,pick_gen]
  first
    |exact aA (m:=Builtin.Tuple.tupleExact _) (wpAny_newObj_type (aE ⟨_,rfl,aE h⟩) b)
    |exact aA (m:=Builtin.Tuple.tupleExact _) (wpAny_newObj_type (aA (aE (aE ⟨_,rfl,aE h⟩))) b)
    |exact aA (aA (m:=Builtin.Tuple.tupleExact _) (wpAny_newObj_type (aE (aE ⟨_,rfl,aE h⟩)) b))
    |exact aA (aA (m:=Builtin.Tuple.tupleExact _) (wpAny_newObj_type (aE ⟨_,rfl,aE h⟩) b))
end
end HT
namespace L2
open PySem PySem.Spec PyProof.Rows
abbrev TO:=St->Hp->(Ot Int->Hp->Prop)->Prop
def PO(X:Cx)(e:Ot Expr)(t:TO):Prop:=
  ∀ (pQ:Li (Ad×Obj)) (s:sH7) (O:St) (H:Hp) (Q:Ot Int->Hp->Prop),Inv X pQ O H s->t O H Q->
    wpAny (model X.prog X.w) X.A (evalPart e X.env) (λu b=>∃ o a,Inv X pQ O a b/\IsPart u o/\Q o a) X.xe s
def tNoPart:TO:=λ_ H Q=>Q none H
def tPart(t:TE):TO:=λO H Q=>t O H λx a=>∃ i,x=.int i/\Q (some i) a
variable{xs:Li V}{us:Li vL}
variable{X:Cx}{e:Expr}{pos:Pos}
section
variable{te:TE}{lo hi:Ot Expr}{tl th:TO}{p2:Pos}
theorem po_none:PO X none tNoPart:=by
  intro a s O H Q I h;rw[evalPart_none];exact aE ⟨none,H,I,.none,h⟩
theorem po_some(h:PE X e te):PO X (some e) (tPart te):=by
  intro c s O H Q I d;rw[evalPart_some];refine thn (h c s O H _ I d) λu s1 ⟨x,g,f,a,b⟩=>?_
  obtain⟨i,rfl,q⟩:=b;obtain⟨t,rfl⟩:=a;exact⟨some i,g,f,.int i t,q⟩
def SlR(X:Cx)(r:V->Ot Int->Ot Int->Hp->VK->Prop):Prop:=
  ∀ (pQ:Li (Ad×Obj)) (s:sH7) (O:St) (H:Hp) (x:V) (v vl vu:vL) (lo hi:Ot Int) (sl:Ad) (Q:VK),Inv X pQ O H s->RelV x v->s.heap.IsSliceOf sl vl vu .none->IsPart vl lo->IsPart vu hi->r x lo hi H Q->
    ∃ T id,typeLookup (.type T) "__getitem__"=pure (some (.builtin id))/\s.TypeIs v T/\wpAny (model X.prog X.w) X.A (getItem v (.ref sl)) (EP X pQ O Q) X.xe s
def tSl(r:V->Ot Int->Ot Int->Hp->VK->Prop)(te:TE)(tl th:TO):TE:=λO H Q=>te O H λx c=>tl O c λl b=>th O b λu a=>r x l u a Q
theorem pe_slice{r:V->Ot Int->Ot Int->Hp->VK->Prop}(y:SlR X r)(C:PE X e te)(z:PO X lo tl)(hu:PO X hi th):PE X (.Subscript e (.Slice lo hi none p2) pos) (tSl r te tl th):=by
  intro c s O H Q I h;refine Subscript_ (thn (C c s O H _ I h) λv s1 ⟨x,L,J,j,n⟩=>?_)
  refine wpAny_Slice (thn (z c s1 O L _ J n) λf i ⟨l,K,G,p,m⟩=>thn (hu c i O K _ G m) λd a ⟨u,g,F,o,k⟩=>?_)
  rw[evalPart_none];refine aE ?_;have E:Inv X c O g { a with heap:=a.heap.push { cls:=.type "slice",data:=.fields #[f,d,.none] } }:=F.kept (t':=a.toks) λb M q=>aK _ q
  obtain⟨T,id,D,t,B⟩:=y c { a with heap:=a.heap.push { cls:=.type "slice",data:=.fields #[f,d,.none] } } O g x v f d l u a.heap.objs.size Q E j (Heap.IsSliceOf.new ..) p o k
  show wpAny (model X.prog X.w) X.A (subscriptTail e (.Slice lo hi none p2) v (.ref a.heap.objs.size)) (EP X c O Q) X.xe { a with heap:=a.heap.push { cls:=.type "slice",data:=.fields #[f,d,.none] } }
  exact tail_any (ops:=[.ref a.heap.objs.size,v]) t D B (by with_unfolding_all rfl)
noncomputable def cutV(xs:Li V)(lo hi:Ot Int):Li V:=(xs.drop (HT.sIx xs.length 0 lo)).take (HT.sIx xs.length xs.length hi - HT.sIx xs.length 0 lo)
theorem cutV_length(xs:Li V)(lo hi:Ot Int):(cutV xs lo hi).length<=xs.length:=by
  unfold cutV;rw[cK,dF];omega
def rSlT(K:fG7):V->Ot Int->Ot Int->Hp->VK->Prop:=λx lo hi H Q=>∃ a xs,x=.ref a/\SqT K H a xs /\
  ¬(HT.sIx xs.length 0 lo=0/\HT.sIx xs.length xs.length hi=xs.length)/\∀ p,H p=none->Q (.ref p) (upd H p (.tup (cutV xs lo hi)))
theorem sl_tup:SlR X (rSlT X.K):=by
  intro t s O H x v p n lo hi sl Q I g m j i h;obtain⟨a,xs,rfl,k,l,q⟩:=h;cases g;obtain⟨d,r,f,e⟩:=I.tuple k;have c:d.toArray.size=xs.length:=by rw[aG];exact r.length.symm
  refine⟨"tuple",_,PyProof.Rows.slot_tuple_getitem.lookup,f.typeIs,?_⟩;refine HT.getItem_tuple_cut f m j i (by rw[c];exact l) ?_ (by rw[c];exact e)
  rw[c];refine⟨.ref s.heap.objs.size,_,I.laid (t':=s.toks) (o:=.tup (cutV xs lo hi)) (λb u q=>aK _ q) (aD _) ?_,rfl,q _ (I.hok.fresh (aD _))⟩
  exact⟨aP (cutV_length xs lo hi) e,_,(r.drop (HT.sIx xs.length 0 lo)).take (HT.sIx xs.length xs.length hi - HT.sIx xs.length 0 lo),IsTup.new _ _⟩
def rCatT(K:fG7):R2:=λx y H Q=>∃ a b xs c,x=.ref a/\y=.ref b/\SqT K H a xs/\SqT K H b c/\xs≠[]/\xs.length+c.length<=sizeLine /\
  (c=[]->Q (.ref a) H)/\(c≠[]->∀ p,H p=none->Q (.ref p) (upd H p (.tup (xs++c))))
theorem Vals.nil_iff(r:Vals xs us):us=[]↔xs=[]:=by
  cases r with
  |nil=>simp
  |cons _ _=>simp
theorem op_catT:OpR X (binaryOp .Add) (rCatT X.K):=by
  intro A s O H x y v u Q I j i h;obtain⟨a,b,xs,g,rfl,rfl,t,r,p,f,l,k⟩:=h;cases j;cases i;obtain⟨n,d,m,_⟩:=I.tuple t;obtain⟨e,c,p2,_⟩:=I.tuple r;refine HT.cat_tup m p2 (λz=>p (d.nil_iff.mp z)) (λz=>⟨.ref a,H,I,rfl,l (c.nil_iff.mp z)⟩) (λz=>?_) (by rw[<-d.length,<-c.length];exact f)
  refine⟨.ref s.heap.objs.size,_,I.laid (t':=s.toks) (o:=.tup (xs++g)) (λb B q=>aK _ q) (aD _) ?_,rfl,k (λw=>z (c.nil_iff.mpr w)) _ (I.hok.fresh (aD _))⟩
  exact⟨by rw[aI];exact f,_,d.append c,IsTup.new _ _⟩
end
noncomputable def ixN(n:Nat)(i:Int):Ot Nat:=if 0<=i then (if i < n then some i.toNat else none) else if -(n:Int)<=i then some (i+n).toNat else none
noncomputable def atI{a:Type}(xs:Li a)(i:Int):Ot a:=(ixN xs.length i).bind λj=>xs[j]?
variable{n:Nat}
theorem ixN_seq{i:Int}{j:Nat}(h:ixN n i=some j):seqIndex? i n=some j/\j < n/\-(n:Int)<=i/\i < n:=by
  unfold ixN at h;by_cases b:0<=i
  · rw[if_pos b]at h
    by_cases a:i < n
    · rw[if_pos a]at h
      have e:i.toNat=j:=Option.some.inj h;exact⟨by rw[seqIndex_of b a,e],by omega,by omega,a⟩
    · rw[if_neg a]at h;cases h
  · rw[if_neg b]at h
    by_cases a:-(n:Int)<=i
    · rw[if_pos a]at h
      have e:(i+n).toNat=j:=Option.some.inj h;exact⟨by rw[seqIndex_neg (by omega) a,e],by omega,a,by omega⟩
    · rw[if_neg a]at h;cases h
variable{α:Type}
theorem atI_get{xs:Li α}{i:Int}{v:α}(h:atI xs i=some v):∃ j,seqIndex? i xs.length=some j/\xs[j]?=some v/\j < xs.length/\-(xs.length:Int)<=i/\i < xs.length:=by
  unfold atI at h;cases e:ixN xs.length i with
  |none=>rw[e]at h;cases h
  |some j=>
    rw[e]at h;obtain⟨d,c,b,a⟩:=ixN_seq e;exact⟨j,d,h,c,b,a⟩
def PlainIx(b:Expr):Prop:=∀ o i,subscripted b false o i=operate [o,i] (getItem o i)
def IxR(X:Cx)(r:R2):Prop:=
  ∀ (value slice:Expr) (pQ:Li (Ad×Obj)) (s:sH7) (O:St) (H:Hp) (x y:V) (v u:vL) (Q:VK),Inv X pQ O H s->RelV x v->RelV y u->r x y H Q->
    subscripted slice false v u=operate [v,u] (getItem v u)->wpAny (model X.prog X.w) X.A (subscriptTail value slice v u) (EP X pQ O Q) X.xe s
def MtR(X:Cx)(id:String)(r:V->Li V->Hp->VK->Prop):Prop:=
  ∀ (pQ:Li (Ad×Obj)) (s:sH7) (O:St) (H:Hp) (x:V) (xs:Li V) (v:vL) (us:Li vL) (Q:VK),Inv X pQ O H s->RelV x v->Vals xs us->r x xs H Q->
    wpAny (model X.prog X.w) X.A (call (.builtin id) (v :: us)) (EP X pQ O Q) X.xe s
variable{pQ:Li (Ad×Obj)}{s:sH7}{its its':Li vL}{y x:V}
section
variable{a b:Expr}{ta tb:TE}
theorem pe_ix{r:R2}(g:IxR X r)(j:PE X a ta)(i:PE X b tb)(f:PlainIx b):PE X (.Subscript a b pos) (tOp r ta tb):=by
  intro pQ s O H Q I h;exact Subscript_ (binT j i I h λv u c x y l k e d q=>g a b pQ c O l x y v u Q k e d q (f _ _))
def rIxL(K:fG7):R2:=λx y H Q=>∃ p xs i v,x=.ref p/\y=.int i/\SqL K H p xs/\atI xs i=some v/\Q v H
def rIxT(K:fG7):R2:=λx y H Q=>∃ p xs i v,x=.ref p/\y=.int i/\SqT K H p xs/\atI xs i=some v/\Q v H
def rIxS:R2:=λx y H Q=>∃ z i c,x=.str z/\y=.int i/\z.length<=sizeLine/\atI z.cps.toList i=some c/\Q (.str ⟨#[c]⟩) H
theorem ix_list:IxR X (rIxL X.K):=by
  intro c slice pQ s O H x y v u Q I o n h g;obtain⟨p,xs,i,z,rfl,rfl,A,C,q⟩:=h;cases o;obtain⟨t,rfl⟩:=n;obtain⟨its,r,e,G⟩:=I.list A;obtain⟨j,b,F,L,E,D⟩:=atI_get C;obtain⟨w,l,d⟩:=r.get F;have B:=r.length;have J:=line63;have a:EP X pQ O Q w s:=⟨z,H,I,d,q⟩;by_cases k:0<=i
  · have f:i.toNat=j:=by
      rw[seqIndex_of k D]at b;exact Option.some.inj b
    exact item_listR e.isList k (by omega) (by rw[f];simpa using l) a g
  · have f:(i+(its.toArray.size:Int)).toNat=j:=by
      rw[seqIndex_neg (by omega) E]at b
      rw[aG,<-B];exact Option.some.inj b
    exact subscriptTail_builtinR (x:=w) e.isList.typeIs slot_list_getitem.lookup
      (wpAny_getItem_list_neg (Q:=λr m=>r=w/\EP X pQ O Q r m) e.isList (by omega) (by rw[aG]<;>omega) (by omega) (by rw[f];simpa using l) ⟨rfl,a⟩) g
theorem ix_tup:IxR X (rIxT X.K):=by
  intro a slice pQ s O H x y v u Q I g f h k;obtain⟨p,xs,i,z,rfl,rfl,l,n,q⟩:=h;cases g;obtain⟨t,rfl⟩:=f;obtain⟨its,r,d,C⟩:=I.tuple l;obtain⟨j,A,o,G,F,E⟩:=atI_get n;obtain⟨w,B,b⟩:=r.get o;have m:=r.length;have D:=line63;have c:EP X pQ O Q w s:=⟨z,H,I,b,q⟩;exact subscriptTail_builtinR (x:=w) d.typeIs slot_tuple_getitem.lookup
    (getItem_tuple (j:=j) (Q:=λr e=>r=w/\EP X pQ O Q r e) d (by omega) (by omega) (by rw[aG,<-m];exact A) (by simpa using B) ⟨rfl,c⟩) k
theorem ix_str:IxR X rIxS:=by
  intro a slice pQ s O H x y v u Q I e d h f;obtain⟨z,i,c,rfl,rfl,w,k,q⟩:=h;obtain⟨t,rfl⟩:=e;obtain⟨r,rfl⟩:=d;obtain⟨j,b,n,B,m,l⟩:=atI_get k;have g:z.cps.toList.length=z.length:=by simp[Str.length]
  rw[g]at b m l;have A:=line63;exact tail_any (typeIs_str s z t) slot_str_getitem.lookup (getItem_str (c:=c) (by
    have p:decide (i < -(2 ^ 63:Int))=false:=aH (by omega)
    have o:decide (i>=2 ^ 63)=false:=aH (by omega)
    rw[p,o,cV]) (by rw[b];simpa using n) ⟨.str ⟨#[c]⟩,H,I.tok _,⟨_,rfl⟩,q⟩) f
theorem mapSeq_set(its:Li vL)(n j:Nat)(u:vL):Obj.mapSeq (·.setIfInBounds j u) { cls:=.type "list",data:=.seq its.toArray n }={ cls:=.type "list",data:=.seq (its.set j u).toArray n }:=by
  simp[Obj.mapSeq]
theorem Inv.lst{pQ:Li (Ad×Obj)}{O:St}{H:Hp}{s:sH7}{p:Ad}{xs:Li V}(I:Inv X pQ O H s)(h:H p=some (.lst xs)) :
    ∃ (its:Li vL) (n:Nat),Vals xs its/\s.heap.get? p=some { cls:=.type "list",data:=.seq its.toArray n }/\xs.length<=sizeLine:=by
  obtain⟨z,its,n,r,e⟩:=I.hok p _ h;exact⟨its,n,r,e,z⟩
theorem Inv.lstUpd{O:St}{H:Hp}{p:Ad}{a:Li V}{c:Nat}{f:Obj->Obj}(I:Inv X pQ O H s)(h:H p=some (.lst xs))(i:s.heap.get? p=some { cls:=.type "list",data:=.seq its.toArray n })(d:f { cls:=.type "list",data:=.seq its.toArray n }={ cls:=.type "list",data:=.seq its'.toArray c })(r:Vals a its')(g:a.length<=sizeLine)(t:Nat) :
    Inv X pQ O (upd H p (.lst a)) { s with heap:=s.heap.update p f,toks:=t }:=by
  have e:(s.heap.update p f).get? p=some { cls:=.type "list",data:=.seq its'.toArray c }:=by
    rw[Heap.get?_update_self f i (by rw[d]<;>rfl),d]
  refine I.write (x:=p) (e:=p) (by rw[h];trivial) (.inl rfl) (λb u j q=>(Heap.get?_update_other _ _ (Ne.symm j)).trans q) ⟨_,e⟩ ?_
  exact⟨g,its',c,r,e⟩
def rSetL:V->V->V->Hp->(Hp->Prop)->Prop:=λo i v H Q=>∃ p xs k j,o=.ref p/\i=.int k/\H p=some (.lst xs)/\ixN xs.length k=some j/\Q (upd H p (.lst (xs.set j v)))
theorem set_list:PSet X rSetL:=by
  intro pQ s O H o i v A B u Q I w x rv h;obtain⟨p,xs,k,j,rfl,rfl,e,z,q⟩:=h;cases w;obtain⟨t,rfl⟩:=x;obtain⟨its,n,r,b,y⟩:=I.lst e;obtain⟨a,D,g,f⟩:=ixN_seq z;have c:=r.length;have C:=line63;have m:Inv X pQ O (upd H p (.lst (xs.set j v))) { s with heap:=s.heap.update p (Obj.mapSeq (·.setIfInBounds j u)) }:=
    I.lstUpd e b (mapSeq_set its n j u) (r.set rv j) (by rw[bJ];exact y) s.toks
  by_cases l:0<=k
  · have d:k.toNat=j:=by
      rw[seqIndex_of l f]at a;exact Option.some.inj a
    exact W.ki_setAt b l (by omega) (by rw[aG,<-c];exact f) (by rw[d];exact⟨_,m,q⟩)
  · have d:(k+(its.toArray.size:Int)).toNat=j:=by
      rw[seqIndex_neg (by omega) g]at a
      rw[aG,<-c];exact Option.some.inj a
    exact W.ki_setBack b (by omega) (by rw[aG,<-c];exact g) (by omega) (by rw[d];exact⟨_,m,q⟩)
theorem slice_bounds(a b:Ot Int)(n:Nat):(sliceBounds a b none n).1=((HT.sIx n 0 a:Nat):Int)/\(sliceBounds a b none n).2.1=((HT.sIx n n b:Nat):Int)/\(sliceBounds a b none n).2.2=1:=by
  refine⟨?_,?_,rfl⟩
  · cases a with
    |none=>simp[sliceBounds,HT.sIx]
    |some i=>
      simp only[sliceBounds,HT.sIx,Option.getD_none,show(1:Int) > 0 by decide,if_true]
      by_cases h:i < 0
      · simp only[h,if_true]<;>omega
      · simp only[h,if_false]<;>omega
  · cases b with
    |none=>simp[sliceBounds,HT.sIx]
    |some i=>
      simp only[sliceBounds,HT.sIx,Option.getD_none,show(1:Int) > 0 by decide,if_true]
      by_cases h:i < 0
      · simp only[h,if_true]<;>omega
      · simp only[h,if_false]<;>omega
theorem slicePick_cut(its:Li vL)(a b:Ot Int):slicePick its.toArray a b none=((its.drop (HT.sIx its.length 0 a)).take (HT.sIx its.length its.length b - HT.sIx its.length 0 a)).toArray:=by
  obtain⟨e,d,c⟩:=slice_bounds a b its.toArray.size;unfold slicePick;rw[e,d,c];simp only[sliceRange_one,pick_run,aG]<;>rfl
def rSlL(K:fG7):V->Ot Int->Ot Int->Hp->VK->Prop:=λx b c H Q=>∃ a xs,x=.ref a/\SqL K H a xs/\∀ p,H p=none->Q (.ref p) (upd H p (.lst (cutV xs b c)))
theorem sl_list:SlR X (rSlL X.K):=by
  intro pQ s O H x v p n d e sl Q I g m j i h;obtain⟨a,xs,rfl,l,q⟩:=h;cases g;obtain⟨its,r,f,k⟩:=I.list l;have c:=r.length;refine⟨"list",_,slot_list_getitem.lookup,f.isList.typeIs,?_⟩;refine wpAny_getItem_list_slice f.isList m j i .none (by simp) ?_ (by rw[aG]<;>omega)
  rw[slicePick_cut,<-c];refine⟨.ref s.heap.objs.size,_,I.laid (t':=s.toks) (o:=.lst (cutV xs d e)) (λb t q=>aK _ q) (aD _) ?_,rfl,q _ (I.hok.fresh (aD _))⟩
  exact⟨aP (cutV_length xs d e) k,_,0,(r.drop (HT.sIx xs.length 0 d)).take (HT.sIx xs.length xs.length e - HT.sIx xs.length 0 d),aX _ rfl⟩
noncomputable def flatV:V->Bool
  |.non=>true
  |.bl _=>true
  |.int _=>true
  |.str _=>true
  |_=>false
noncomputable def eqV:V->V->Bool
  |.non,.non=>true
  |.bl a,.bl b=>a==b
  |.bl a,.int b=>(if a then 1 else 0)==b
  |.int a,.bl b=>a==(if b then 1 else 0)
  |.int a,.int b=>a==b
  |.str a,.str b=>a==b
  |_,_=>false
theorem eqAt_V{A:Around}{u v:vL}(e:RelV y u)(c:RelV x v)(g:flatV y=true)(f:flatV x=true):SeqAt.EqAt A s u v (eqV y x):=by
  cases y with
  |non=>
    cases e;cases x with
    |non=>cases c;exact SeqAt.EqAt.same _
    |bl b=>cases c;exact SeqAt.EqAt.none_bool b
    |int b=>obtain⟨t,rfl⟩:=c;exact SeqAt.EqAt.none_int b t
    |str b=>obtain⟨t,rfl⟩:=c;exact SeqAt.EqAt.none_str b t
    |_=>exact absurd (show false=true from f) bF7
  |bl a=>
    cases e;cases x with
    |non=>cases c;exact SeqAt.EqAt.bool_none a
    |bl b=>cases c;exact SeqAt.EqAt.bool_bool a b
    |int b=>obtain⟨t,rfl⟩:=c;exact SeqAt.EqAt.bool_int a b t
    |str b=>obtain⟨t,rfl⟩:=c;exact SeqAt.EqAt.bool_str a b t
    |_=>exact absurd (show false=true from f) bF7
  |int a=>
    obtain⟨d,rfl⟩:=e;cases x with
    |non=>cases c;exact SeqAt.EqAt.int_none a d
    |bl b=>cases c;exact SeqAt.EqAt.int_bool a d b
    |int b=>obtain⟨t,rfl⟩:=c;exact SeqAt.EqAt.int_int a d b t
    |str b=>obtain⟨t,rfl⟩:=c;exact SeqAt.EqAt.int_str a d b t
    |_=>exact absurd (show false=true from f) bF7
  |str a=>
    obtain⟨d,rfl⟩:=e;cases x with
    |non=>cases c;exact SeqAt.EqAt.str_none a d
    |bl b=>cases c;exact SeqAt.EqAt.str_bool a d b
    |int b=>obtain⟨t,rfl⟩:=c;exact SeqAt.EqAt.str_int a d b t
    |str b=>obtain⟨t,rfl⟩:=c;exact SeqAt.EqAt.str_str a d b t
    |_=>exact absurd (show false=true from f) bF7
  |_=>exact absurd (show false=true from g) bF7
noncomputable def eqU(x:V)(u:vL):Bool:=match u with
  |.none=>eqV .non x
  |.bool b=>eqV (.bl b) x
  |.int i _=>eqV (.int i) x
  |.str z _=>eqV (.str z) x
  |_=>false
theorem eqU_of{u:vL}(r:RelV y u)(f:flatV y=true):eqU x u=eqV y x:=by
  cases y with
  |non=>cases r;rfl
  |bl b=>cases r;rfl
  |int i=>obtain⟨t,rfl⟩:=r;rfl
  |str z=>obtain⟨t,rfl⟩:=r;rfl
  |_=>exact absurd (show false=true from f) bF7
theorem any_eqU{x:V}:∀ {xs:Li V}{us:Li vL},Vals xs us->xs.all flatV=true->us.any (eqU x)=xs.any λy=>eqV y x
  |_,_,.nil,_=>rfl
  |y :: xs,u :: us,.cons r t,f=>by
    rw[bC,bA7]at f;rw[cP,cP,eqU_of r f.1,any_eqU t f.2]
theorem mem_eqAt{A:Around}{s:sH7}{x:V}{v:vL}(a:RelV x v)(b:flatV x=true):∀ {xs:Li V}{us:Li vL},Vals xs us->xs.all flatV=true->∀ u∈us,SeqAt.EqAt A s u v (eqU x u)
  |_,_,.nil,_=>λu hu=>by cases hu
  |y :: xs,u :: us,.cons r t,f=>λc hu=>by
    rw[bC,bA7]at f;rcases aF.mp hu with rfl|hu
    · rw[eqU_of r f.1];exact eqAt_V r a f.1 b
    · exact mem_eqAt a b t f.2 c hu
noncomputable def inV(x:V)(xs:Li V):Bool:=xs.any λy=>eqV y x
def rIn(K:fG7)(neg:Bool):R2:=λx y H Q=>∃ p xs,y=.ref p/\(SqL K H p xs\/SqT K H p xs)/\flatV x=true/\xs.all flatV=true/\Q (.bl (if neg then !inV x xs else inV x xs)) H
theorem op_in_seq:OpR X (compareOp .In) (rIn X.K false):=by
  intro pQ s O H x y v u Q I c e h;obtain⟨p,xs,rfl,hq,d,fs,q⟩:=h;cases e;rcases hq with hq|hq
  · obtain⟨its,r,a,f⟩:=I.list hq
    refine SeqAt.in_listAt (eqU x) a.isList (λw b=>mem_eqAt c d r fs w (by simpa using b)) ⟨.bl _,H,I,rfl,?_⟩
    rw[show its.toArray.any (eqU x)=its.any (eqU x) by simp,any_eqU r fs]
    exact q
  · obtain⟨its,r,a,f⟩:=I.tuple hq
    refine SeqAt.in_tupleAt (eqU x) a (λw b=>mem_eqAt c d r fs w (by simpa using b)) ⟨.bl _,H,I,rfl,?_⟩
    rw[show its.toArray.any (eqU x)=its.any (eqU x) by simp,any_eqU r fs]
    exact q
theorem op_notIn_seq:OpR X (compareOp .NotIn) (rIn X.K true):=by
  intro pQ s O H x y v u Q I c e h;obtain⟨p,xs,rfl,hq,d,fs,q⟩:=h;cases e;rcases hq with hq|hq
  · obtain⟨its,r,a,f⟩:=I.list hq
    refine SeqAt.notIn_listAt (eqU x) a.isList (λw b=>mem_eqAt c d r fs w (by simpa using b)) ⟨.bl _,H,I,rfl,?_⟩
    rw[show its.toArray.any (eqU x)=its.any (eqU x) by simp,any_eqU r fs]
    exact q
  · obtain⟨its,r,a,f⟩:=I.tuple hq
    refine SeqAt.notIn_tupleAt (eqU x) a (λw b=>mem_eqAt c d r fs w (by simpa using b)) ⟨.bl _,H,I,rfl,?_⟩
    rw[show its.toArray.any (eqU x)=its.any (eqU x) by simp,any_eqU r fs]
    exact q
theorem op_notIn_str:OpR X (compareOp .NotIn) (λx y H Q=>∃ i j,x=.str i/\y=.str j/\Q (.bl (!(!(Builtin.Str.occurrences j i 0 j.length 1).isEmpty))) H):=by
  intro pQ s O H x y v u Q I b a h;obtain⟨i,j,rfl,rfl,q⟩:=h;obtain⟨t,rfl⟩:=b;obtain⟨c,rfl⟩:=a;exact notIn_str ⟨.bl _,H,I,rfl,q⟩
theorem call_len_seq:CallR X (.builtin "len") (λxs H Q=>∃ p b,xs=[.ref p]/\(SqL X.K H p b\/SqT X.K H p b)/\Q (.int b.length) H):=by
  intro pQ s O H xs us Q I r h;obtain⟨p,b,rfl,hq,q⟩:=h;obtain⟨u,rfl,e⟩:=vals1 r;cases e;have g:=line63;rcases hq with hq|hq
  · obtain⟨its,c,d,f⟩:=I.list hq
    have a:=c.length;exact Calls.call_len_list d.isList (by simp only[aG]<;>omega) ⟨.int b.length,H,I.tok _,⟨s.toks+1,by rw[aG,a]⟩,q⟩
  · obtain⟨its,c,d,f⟩:=I.tuple hq
    have a:=c.length;exact len_tuple d (by simp only[aG]<;>omega) ⟨.int b.length,H,I.tok _,⟨s.toks+1,by rw[aG,a]⟩,q⟩
theorem call_list_of:CallR X (.type "list") (λxs H Q=>∃ p c,xs=[.ref p]/\(SqL X.K H p c\/SqT X.K H p c)/\∀ l,H l=none->Q (.ref l) (upd H l (.lst c))):=by
  intro pQ s O H xs us Q I r h;obtain⟨p,c,rfl,hq,q⟩:=h;obtain⟨u,rfl,z⟩:=vals1 r;cases z;have k:∀ (its:Li vL),Vals c its->c.length<=sizeLine->∀ (a:Heap) (f:Nat),(∀ b y,s.heap.get? b=some y->a.get? b=some y)->
      a.get? s.heap.objs.size=some { cls:=.type "list",dict:=none,data:=.seq its.toArray f,slots:=#[] }->EP X pQ O Q (.ref s.heap.objs.size) { s with heap:=a }:=λits d i a f g e=>
    ⟨.ref s.heap.objs.size,_,I.laid (t':=s.toks) g (aD _) (show ObjOk X.prog X.w _ a _ (.lst c) from⟨i,its,f,d,e⟩),rfl,q _ (I.hok.fresh (aD _))⟩
  rcases hq with hq|hq
  · obtain⟨its,d,m,i⟩:=I.list hq
    have j:=d.length;obtain⟨o,t,x,n,v⟩:=m.isList;exact call_list_seq p (.inl rfl) t x v (λa f g e=>k its d i a f g e) (by simp only[aG]<;>omega)
  · obtain⟨its,d,m,i⟩:=I.tuple hq
    have j:=d.length;obtain⟨o,t,x,n,v⟩:=m;exact call_list_seq p (.inr rfl) t x v (λa f g e=>k its d i a f g e) (by simp only[aG]<;>omega)
theorem call_tuple_of:CallR X (.type "tuple") (λxs H Q=>∃ p a,xs=[.ref p]/\((SqL X.K H p a/\∀ l,H l=none->Q (.ref l) (upd H l (.tup a)))\/(SqT X.K H p a/\Q (.ref p) H))):=by
  intro pQ s O H xs us Q I r h;obtain⟨p,a,rfl,h⟩:=h;obtain⟨u,rfl,m⟩:=vals1 r;cases m;rcases h with⟨g,q⟩|⟨g,q⟩
  · obtain⟨its,d,f,i⟩:=I.list g
    have j:=d.length;refine call_tuple_list f.isList (λc n=>?_) (by simp only[aG]<;>omega)
    have k:Inv X pQ O H { s with heap:=c }:=I.kept (t':=s.toks) n
    have t:Inv X pQ O (upd H c.objs.size (.tup a)) { s with heap:=c.push { cls:=.type "tuple",data:=.seq its.toArray } }:=
      k.laid (t':=s.toks) (λb o e=>aK _ e) (aD _) (show ObjOk X.prog X.w _ _ _ (.tup a) from⟨i,its,d,IsTup.new _ _⟩)
    exact⟨.ref c.objs.size,_,t,rfl,q _ (k.hok.fresh (aD _))⟩
  · obtain⟨its,d,f,i⟩:=I.tuple g
    exact call_tuple_same f ⟨.ref p,H,I,rfl,q⟩
def tyV(K:fG7)(T:String)(x:V)(H:Hp):Prop:=match x with
  |.str _=>T = "str"
  |.int _=>T = "int"
  |.ref p=>(T = "list"/\∃ xs,SqL K H p xs)\/(T = "tuple"/\∃ o,K.lookup p=some o/\o.cls=.type "tuple"/\o.dict=none) \/
      (T = "dict"/\((∃ a,H p=some (.dK a))\/∃ a,H p=some (.dT a)))\/(T = "set"/\∃ S n,H p=some (.set S n))
  |_=>False
theorem tyV_is{O:St}{H:Hp}{T:String}{v:vL}(I:Inv X pQ O H s)(r:RelV x v)(ty:tyV X.K T x H) :
    s.TypeIs v T/\∀ a,v=.ref a->∃ j,s.heap.get? a=some j/\j.dict=none:=by
  cases x with
  |str z=>
    obtain⟨t,rfl⟩:=r;cases (show T = "str" from ty)
    exact⟨typeIs_str s z t,λ_ e=>nomatch e⟩
  |int i=>
    obtain⟨t,rfl⟩:=r;cases (show T = "int" from ty)
    exact⟨typeIs_int s i t,λ_ e=>nomatch e⟩
  |ref p=>
    cases r;rcases ty with⟨rfl,xs,k⟩|⟨rfl,o,b,l,f⟩|⟨rfl,b⟩|⟨rfl,S,n,b⟩
    · obtain⟨its,_,h,_⟩:=I.list k
      refine⟨h.isList.typeIs,λa e=>?_⟩
      cases e;obtain⟨o,n,e,c,f,_⟩:=h;exact⟨o,e,f⟩
    · refine⟨⟨o,I.kIn p o b,l⟩,λa e=>?_⟩
      cases e;exact⟨o,I.kIn _ o b,f⟩
    · have z:∃ o,s.heap.get? p=some o/\o.ExactDict:=by
        rcases b with⟨d,b⟩|⟨d,b⟩
        · obtain⟨_,_,_,_,o,_,_,e,ex,_⟩:=I.hok p _ b
          exact⟨o,e,ex⟩
        · obtain⟨_,_,_,_,o,_,_,e,ex,_⟩:=I.hok p _ b
          exact⟨o,e,ex⟩
      obtain⟨o,e,ex⟩:=z;refine⟨⟨o,e,ex.1⟩,λa g=>?_⟩
      cases g;exact⟨o,e,ex.2.1⟩
    · obtain⟨o,_,_,_,e,ex,_⟩:=I.hok p _ b
      refine⟨⟨o,e,ex.1⟩,λa g=>?_⟩
      cases g;exact⟨o,e,ex.2.1⟩
  |_=>exact False.elim ty
def tBM0(K:fG7)(T:String)(r:V->Li V->Hp->VK->Prop)(b:TE):TE:=λO H Q=>b O H λx a=>tyV K T x a/\r x [] a Q
def tBM(K:fG7)(T:String)(r:V->Li V->Hp->VK->Prop)(b:TE)(t:TA):TE:=λO H Q=>b O H λx a=>tyV K T x a/\t O a λxs c=>r x xs c Q
variable{o:Expr}{es:Li Expr}{to:TE}{t:TA}{name:Str}{apos cpos:Pos}{T id:String}{r:V->Li V->Hp->VK->Prop}
theorem pe_bm0(g:PlainAttrs T)(slot:Slot T name id)(c:typeOf (.builtin id)=pure (.type "method_descriptor"))(j:MtR X id r)(i:PE X o to)(b:attributeBase o name X.env (eval o X.env)=eval o X.env:=by rfl)(a:(apos.endLine==cpos.line)=true:=by rfl):PE X (.Call (.Attribute o name apos) [] [] cpos) (tBM0 X.K T r to):=by
  intro pQ s O H Q I h;refine wpAny_Call_method0_late b a (thn (i pQ s O H _ I h) λv s1 ⟨x,m,e,d,ty,f⟩=>?_)
  obtain⟨l,k⟩:=tyV_is e d ty;exact⟨T,id,g,slot,c,l,k,Calls.callWith_builtin rfl (PySem.evalArgs_none (j pQ s1 O m x [] v [] Q e d .nil f))⟩
theorem pe_bm(q:PlainAttrs T)(slot:Slot T name id)(f:typeOf (.builtin id)=pure (.type "method_descriptor"))(y:MtR X id r)(w:PE X o to)(z:PA X (e :: es) t)(c:attributeBase o name X.env (eval o X.env)=eval o X.env:=by rfl)(d:((backTo cpos (starEach (e :: es) X.env)).all (λx=>!x.1)&&(backToKw cpos (keywordEach [] X.env)).all (λx=>x.1.isSome)
     &&decide ((e :: es).length+([]:Li Keyword).length+(if ([]:Li Keyword).isEmpty then 0 else 1) < 30))=true:=by rfl)(b:(apos.endLine==cpos.line)=true:=by rfl)(u:starEach (e :: es) X.env=(false,eval e X.env) :: starEach es X.env:=by rfl)(a:(backTo cpos (starEach es X.env)).any (·.1)=false:=by rfl) :
    PE X (.Call (.Attribute o name apos) (e :: es) [] cpos) (tBM X.K T r to t):=by
  intro pQ s O H Q I h;refine wpAny_Call_method_late c d b rfl (thn (w pQ s O H _ I h) λv s1 ⟨x,E,j,g,ty,p⟩=>?_)
  obtain⟨B,A⟩:=tyV_is j g ty;refine⟨T,id,q,slot,f,B,A,?_⟩;have i:=z cpos pQ s1 O E _ j p;rw[u]at i ⊢;refine Calls.callWith_builtin (by show(false||(backTo cpos (starEach es X.env)).any (·.1))=false;rw[a]<;>rfl) (Calls.evalArgs_plain ?_)
  exact thn i λus l ⟨k,D,C,m,n⟩=>y pQ l O D x k v us Q C g m n
end
def MtM(X:Cx)(id:String)(r:V->Li V->Hp->VK->Prop):Prop:=
  ∀ (pQ:Li (Ad×Obj)) (s:sH7) (O:St) (H:Hp) (x:V) (xs:Li V) (v:vL) (us:Li vL) (Q:VK),Inv X pQ O H s->RelV x v->Vals xs us->r x xs H Q->
    wpAny (model X.prog X.w) X.A (call (.builtin id) (v :: us)) (EP X pQ O Q) X.xe s
theorem Vals.one(h:Vals [x] us):∃ u,us=[u]/\RelV x u:=by
  cases h with
  |cons r h=>cases h;exact⟨_,rfl,r⟩
theorem Vals.two(h:Vals [x,y] us):∃ u v,us=[u,v]/\RelV x u/\RelV y v:=by
  cases h with
  |cons r h=>cases h with
    |cons q h=>cases h;exact⟨_,_,rfl,r,q⟩
theorem Vals.zero:∀ {us:Li vL},Vals [] us->us=[]
  |_,.nil=>rfl
theorem Vals.dropLast(h:Vals xs us):Vals xs.dropLast us.dropLast:=by
  induction h with
  |nil=>exact .nil
  |cons r t a=>
    cases t with
    |nil=>exact .nil
    |cons q b=>exact .cons r a
theorem Vals.rep(h:Vals xs us):∀ k:Nat,Vals (List.replicate k xs).flatten (List.replicate k us).flatten
  |0=>.nil
  |k+1=>by
    rw[cD,cD,cX,cX];exact Vals.append h (Vals.rep h k)
theorem erase_last(l:Li α):l.eraseIdx (l.length - 1)=l.dropLast:=by
  induction l with
  |nil=>rfl
  |cons a r c=>
    cases r with
    |nil=>rfl
    |cons b r=>
      have e:(a :: b :: r).length - 1=((b :: r).length - 1)+1:=by
        have f:(a :: b :: r).length=r.length+2:=rfl;have d:(b :: r).length=r.length+1:=rfl;omega
      rw[e,List.eraseIdx_cons_succ,c]
      all_goals rfl
theorem foldl_rep(its:Li vL):∀ (k:Nat) (a:Li vL),
    List.foldl (λc b=>c++b) a.toArray (List.replicate k its.toArray)=(a++(List.replicate k its).flatten).toArray
  |0,a=>by simp
  |k+1,a=>by
    have e:a.toArray++its.toArray=(a++its).toArray:=by simp
    have d:(a++its)++(List.replicate k its).flatten=a++(List.replicate (k+1) its).flatten:=by
      rw[cD,cX,bD]
    rw[<-d,<-foldl_rep its k (a++its),<-e,cD,List.foldl_cons]
variable{pQ:Li (Ad×Obj)}{s:sH7}{xs:Li V}
section
variable{O:St}{H:Hp}{l b:Ad}{ys zs:Li V}
theorem Inv.lset{f:Array vL->Array vL}{a:Nat}(I:Inv X pQ O H s)(i:H l=some (.lst xs))(e:s.heap.get? l=some { cls:=.type "list",data:=.seq its.toArray n })(g:f its.toArray=its'.toArray)(c:Vals ys its')(b:ys.length<=sizeLine) :
    Inv X pQ O (upd H l (.lst ys)) { s with heap:=s.heap.update l (Obj.mapSeq f),toks:=a }:=by
  have q:=PySem.IsL.update e f;rw[g]at q;refine I.write (x:=l) (e:=l) (by rw[i];exact trivial) (.inl rfl) (λj u h d=>(Heap.get?_update_other s.heap (Obj.mapSeq f) (Ne.symm h)).trans d) ⟨_,q⟩ ?_
  exact⟨b,its',_,c,q⟩
theorem Inv.lnew{t':Nat}(I:Inv X pQ O H s)(b:Vals ys its)(a:ys.length<=sizeLine) :
    Inv X pQ O (upd H s.heap.objs.size (.lst ys)) { s with heap:=s.heap.push { cls:=.type "list",data:=.seq its.toArray },toks:=t' }:=
  I.laid (λ_ _ q=>aK _ q) (aD _) ⟨a,its,0,b,aX _ rfl⟩
theorem Inv.fresh(I:Inv X pQ O H s):H s.heap.objs.size=none:=I.hok.fresh (aD _)
theorem Inv.lstM(I:Inv X pQ O H s)(a:H l=some (.lst xs)):xs.length<=sizeLine/\∃ (its:Li vL) (n:Nat),Vals xs its/\xs.length=its.length/\s.heap.get? l=some { cls:=.type "list",data:=.seq its.toArray n }:=by
  obtain⟨z,its,n,r,e⟩:=I.hok l _ a;exact⟨z,its,n,r,r.length,e⟩
theorem notLongL(h:n<=sizeLine):Builtin.List.listTooLong n=false:=by
  unfold Builtin.List.listTooLong;exact aH (by omega)
end
def rAppend:V->Li V->Hp->VK->Prop:=λx a H Q=>∃ l xs y,x=.ref l/\a=[y]/\H l=some (.lst xs)/\xs.length < sizeLine/\Q .non (upd H l (.lst (xs++[y])))
theorem mt_append:MtM X "list.append" rAppend:=by
  intro pQ s O H x d v us Q I b rv h;obtain⟨l,xs,y,rfl,rfl,a,f,q⟩:=h;cases b;obtain⟨u,rfl,c⟩:=rv.one;obtain⟨z,its,n,r,g,e⟩:=I.lstM a;refine call_meets F.slot_list_append ⟨_,e,rfl⟩ F.entry_list_append (F.args_list_append_2 _ _) (PySem.list_append l its.toArray n u (by rw[aG];omega)) ⟨e,?_⟩
  refine⟨.non,_,I.lset (its':=its++[u]) a e (by simp) (r.append (.cons c .nil)) ?_,rfl,q⟩
  rw[aI,eD];omega
def rExtend:V->Li V->Hp->VK->Prop:=λx c H Q=>∃ l b xs a,x=.ref l/\c=[.ref b]/\H l=some (.lst xs)/\H b=some (.lst a)/\xs.length+a.length<=sizeLine/\Q .non (upd H l (.lst (xs++a)))
theorem mt_extend:MtM X "list.extend" rExtend:=by
  intro pQ s O H x y v us Q I g rv h;obtain⟨l,b,xs,t,rfl,rfl,f,o,A,q⟩:=h;cases g;obtain⟨u,rfl,i⟩:=rv.one;cases i;obtain⟨z,its,n,r,B,e⟩:=I.lstM f;obtain⟨w,a,k,j,m,p⟩:=I.lstM o;have d:its.toArray.size+a.toArray.size<=sizeLine:=by rw[aG,aG];omega
  have c:¬(!its.toArray.isEmpty&&Builtin.List.listTooLong (its.toArray.size+a.toArray.size))=true:=by
    rw[notLongL d,Bool.and_false];exact bF7
  refine call_meets F.slot_list_extend ⟨_,e,rfl⟩ F.entry_list_extend (F.args_list_extend_2 _ _)
    (AutoSeq1.list_extend_list_list_0 l its.toArray n b a.toArray k c (by rw[aG];omega) (by omega)) ⟨e,p,?_⟩
  refine⟨.non,_,I.lset (its':=its++a) f e (by simp) (r.append j) ?_,rfl,q⟩
  rw[aI];omega
def rPop:V->Li V->Hp->VK->Prop:=λx a H Q=>∃ l xs y,x=.ref l/\a=[]/\H l=some (.lst xs)/\xs[xs.length - 1]?=some y/\Q y (upd H l (.lst xs.dropLast))
theorem mt_pop:MtM X "list.pop" rPop:=by
  intro pQ s O H x k v us Q I d rv h;obtain⟨l,xs,y,rfl,rfl,c,g,q⟩:=h;cases d;have b:=rv.zero;subst b;obtain⟨z,its,n,r,j,e⟩:=I.lstM c;obtain⟨u,i,f⟩:=r.get g;have a:its.toArray[its.toArray.size - 1]?=some u:=by
    show its.toArray[its.length - 1]?=some u;rw[<-eE,<-j];exact i
  refine call_meets F.slot_list_pop ⟨_,e,rfl⟩ F.entry_list_pop (F.args_list_pop_1 _) (MeetsSeq.list_pop_last l its.toArray n u a (by rw[aG];omega)) ⟨e,?_⟩
  refine⟨y,_,I.lset (its':=its.dropLast) c e ?_ r.dropLast ?_,f,q⟩
  · show its.toArray.eraseIdxIfInBounds (its.toArray.size - 1)=its.dropLast.toArray
    rw[aG,List.eraseIdxIfInBounds_toArray,erase_last]
  · rw[List.length_dropLast]
    omega
def rRep:R2:=λx y H Q=>∃ l k xs,x=.ref l/\y=.int k/\H l=some (.lst xs)/\-(2 ^ 63)<=k/\k < 2 ^ 63/\xs.length * k.toNat<=sizeLine /\
  ∀ p,H p=none->Q (.ref p) (upd H p (.lst (List.replicate k.toNat xs).flatten))
theorem len_rep(xs:Li α)(k:Nat):(List.replicate k xs).flatten.length=k * xs.length:=by
  induction k with
  |zero=>simp
  |succ k a=>rw[cD,cX,aI,a,Nat.succ_mul,Nat.add_comm]
theorem op_rep:OpR X (binaryOp .Mult) rRep:=by
  intro pQ s O H x y v u Q I A w h;obtain⟨l,k,xs,rfl,rfl,C,E,D,o,q⟩:=h;cases A;obtain⟨t,rfl⟩:=w;obtain⟨z,its,n,r,B,e⟩:=I.lstM C;have d:its.toArray.size * k.toNat<=sizeLine:=by rw[aG,<-B];exact o
  have g:¬its.toArray.size * k.toNat > (2 ^ 63 - 1) / 8:=by
    have:(sizeLine:Nat)<=(2 ^ 63 - 1) / 8:=by decide
    omega
  have f:¬(!Builtin.List.listFitsIndex k)=true:=by
    rw[fitsIndex_both E D];exact bF7
  have b:¬Builtin.List.listTooLong (its.toArray.size * k.toNat)=true:=by
    rw[notLongL d];exact bF7
  have c:List.foldl (λj i=>j++i) #[] (List.replicate (if its.toArray.isEmpty=true then 0 else k.toNat) its.toArray)=(List.replicate k.toNat its).flatten.toArray:=by
    have G:∀ m:Nat,List.foldl (λj i=>j++i) #[] (List.replicate m its.toArray)=(List.replicate m its).flatten.toArray:=λm=>by
      have:=foldl_rep its m [];rw[dG]at this;exact this
    rw[G];cases its with
    |nil=>simp
    |cons a J=>rw[if_neg (by simp)]
  refine wpAny_binaryOp_repeat_ref (T := "list") (U := "int") (by decide) ⟨_,e,rfl⟩ (λp=>typeIs_int p k t) noFill_list_mul F.fills_int_mul F.slot_int_rmul repeat_list F.slot_int_index.lookup
    (call_meets F.slot_int_rmul (typeIs_int s k t) F.entry_int_rmul (F.args_int_rmul_2 _ _) (int___rmul___int_list k t l its.toArray n)
      ⟨e,rfl,⟨_,e,rfl⟩,call_meets F.slot_list_mul ⟨_,e,rfl⟩ F.entry_list_mul (F.args_list_mul_2 _ _) (AutoListH.list___mul___list_int_3 l its.toArray n k t f g b) ⟨e,?_⟩⟩)
  rw[c];exact⟨.ref _,_,I.lnew (t':=s.toks) (r.rep k.toNat) (by rw[len_rep,Nat.mul_comm];exact o),rfl,q _ I.fresh⟩
section
variable{prog:Program}{w:World}{A:Around}{E:vL->sH7->Prop}
end
end L2
namespace Att
open PySem PySem.W PySem.Calls PyProof.Rows
variable{h:Heap}
theorem ints_of_wellAll{P:Params}:∀ (c:Li Int) (d:Li vL),WellAll P h d (c.map WData.int)->IntsAre d c:=by
  intro c
  induction c with
  |nil=>
    intro d w;rw[List.map_nil]at w;cases w;exact .nil
  |cons n c e=>
    intro d w;rw[aO]at w;cases w with
    |cons a b=>
      cases a;exact .cons _ _ (e _ b)
variable{l:OpenLaw}
theorem script_of{n:Nat}(w:l.most=some n){P:Params}{args:Li WData}{c:Li vL}(e:l.row.toRowW.claim.pre args=true)(k:WellAll P h c args) :
    ∃ a o b,c=[Value.ref a]/\args=[WData.list (b.map WData.int)]/\h.get? a=some { cls:=.type "list",data:=.seq o.toArray }/\IntsAre o b/\b.length<=n:=by
  have m:WShape.hasAll [] args [.list .int]=true:=(pre_splitW e).1;have p:l.pre.holds [] { args:=args }=true:=(pre_splitW e).2;obtain⟨d,r,rfl,z,y⟩:=hasAllW_cons m;obtain rfl:=hasAllW_nil y;obtain⟨A,rfl,x⟩:=hasW_list z;obtain⟨b,rfl⟩:=items_int x;have f:b.length<=n:=by
    unfold OpenLaw.pre at p;have j:(WTm.not (.lt (.lit (.int (n:Int))) (.len (.arg 0)))).holds [] { args:=[.list (b.map .int)] }=true:=by
      have j:=(holds_andW p).1;rw[w]at j;exact j
    have i:=condW_of j (w_not (w_lt w_lit (w_len_list (w_arg rfl))));rw[aB]at i;refine dW λq=>?_
    have u:(n:Int) < ((b.length:Nat):Int):=by omega
    first
      | (rw[aL u]at i;exact absurd i (by decide))
      | (simp at i;omega)
  cases k with
  |cons t s=>
    cases s;cases t with
    |list v g=>exact⟨_,_,b,rfl,rfl,v,ints_of_wellAll b _ g,f⟩
theorem post_true(l:OpenLaw)(args:Li WData):l.row.toRowW.claim.post args (.bool true) args=true:=
  postW_of (r:=l.row.toRowW) (X:=(true==true))
    (show WShape.has [] (.bool true) .bool=true by first|rfl|decide|simp[WShape.has,WShape.arms,WShape.armsAll])
    (show(WTm.eq .res (.lit (.bool true))).value [] { args:=args,res:=some (.bool true),after:=args }=some (.bool (true==true)) from w_eq_bool (w_res rfl) w_lit) rfl
theorem attach_call{n:Nat}{q:Program}{c:Li Str}{H:(Str->Ot vL)->Heap->Prop}{F:World->Heap->Prop}{d:DefRec}(L:l.most=some n)(z:d.params.defaults=[])(call:∀ (w:World) (s₀ b:sH7) (mg v:Str->Ot vL) (m:Ad) (o:Obj) (u t g:vL) (a:Ad) (h:Li vL) (s:Li Int),
      Ground q c [] H w s₀ mg v b.heap->F w b.heap->
      b.heap.get? m=some o->o.data=.func (docDef d.name d.params d.body d.scope u t g)->b.heap.CodeRec t d.name->mg d.name=some (.ref m)->
      b.heap.get? a=some { cls:=.type "list",data:=.seq h.toArray }->IntsAre h s->s.length<=n->b.gens=#[]->
      codeAny (model l.prog w) callerA (.call (.ref m) ⟨[.ref a],[]⟩) (λr p=>r=.ok (.ret (.bool true))/\OldK b.heap p.heap/\p.os=b.os/\AllBare p.gens) b) :
    WalkO q c H F l.row.toRowW d [] (λf h=>PySem.call f h):=by
  intro w s₀ b mg v G Y m o u t g T kV K P A D y O E B U i C I x N;obtain rfl:T=.none:=Dflts.none D z;obtain rfl:kV=.none:=Dflts.noKw D;obtain⟨a,h,s,rfl,rfl,j,e,k⟩:=script_of L i x;refine enter_call (codeAny_mono (call w s₀ b mg v m o u t g a h s G Y K (fd_plain P) A y j e k O) λr p J=>?_)
  obtain⟨rfl,S,R,Q⟩:=J;exact⟨.inl ⟨.bool true,.bool true,[],rfl,λ_=>rfl,.bool true,post_true l _,λ_=>⟨List.Pairwise.nil,λ_ M=>(nomatch M)⟩⟩,S,R,Q⟩
section
variable{prog:Program}{w:World}{A:Around}{E:vL->sH7->Prop}{s:sH7}{K:Frag}
end
end Att
namespace L2
open PySem PySem.Spec PyProof.Rows
theorem vals_ints:∀ {vs:Li vL}{ns:Li Int},IntsAre vs ns->Vals (ns.map V.int) vs
  |_,_,.nil=>.nil
  |_,_,.cons n t h=>.cons ⟨t,rfl⟩ (vals_ints h)
def Only(H:Hp):Prop:=∀ b,H b=none\/∃ o a,H b=some (.frz o (.lst a))
variable{w:World}
theorem law_call{P:Program}{K:fG7}{mg Q:Str->Ot vL}{CX:CXT}{k:Nat}{W a:Ad}{fd:FuncData}{x:Str}{Y:Sp}{c:sH7}{p:Li vL}{A:Li Int}(KX:K.In c.heap)(E:c.heap.Ns mainGlobals mg)(g:c.heap.Ns builtinsNs Q)(T:∀ x:Str,x ≠ "__name__"->Q x=bootBuiltins x)(G:c.heap.NoLimit)(hg:c.gens=#[])(N:c.heap.get? a=some { cls:=.type "list",data:=.seq p.toArray })(hi:IntsAre p A)(Z:A.length<=sizeLine)(hr:Room k callerA)(F:∀ base:Heap,K.In base->base.Ns mainGlobals mg->FnOk P w K mg base CX k W fd [x] Y)(t:∀ (s:sH7) (u:vL),BindsTo s fd ⟨[u],[]⟩ [(x,u)])(R:∀ H:Hp,Only H->SqL K H a (A.map V.int)->Y [.ref a] H (λv _=>v=.bl true) λ_ _ _=>False)(U:∀ H e i,CX [] H c (λ_ _ _=>False) e i->False) :
    codeAny (model P w) callerA (.call (.ref W) ⟨[.ref a],[]⟩) (λr i=>r=.ok (.ret (.bool true))/\OldK c.heap i.heap/\i.os=c.os/\AllBare i.gens) c:=by
  have rv:=vals_ints hi;have B:=hi.length
  -- from an abstract heap in which nothing but the script may be tracked
  have l:∀ H:Hp,Only H->SqL K H a (A.map V.int)->HOk P w H c.heap->(∀ b,H b≠none->b=a)->(H a≠none->K.lookup a=none)->
      codeAny (model P w) callerA (.call (.ref W) ⟨[.ref a],[]⟩) (λr i=>r=.ok (.ret (.bool true))/\OldK c.heap i.heap/\i.os=c.os/\AllBare i.gens) c:=by
    intro H hO hS D hA hK;have f:∀ {b:Ad}{o:Obj},c.heap.get? b=some o->H b=none->(hidT c.heap H).get? b=some o:=λe n=>hidT_get e n
    have O:∀ {b:Ad}{o:Obj}{J:Array DictEntry}{L:Nat},c.heap.get? b=some o->o.data=.dict J L->H b=none:=λ{b o J L} e d=>by
      cases q:H b with
      |none=>rfl
      |some u=>
        have X:b=a:=hA b (by rw[q];simp)
        subst X;rw[N]at e;cases e
        have d':Data.seq p.toArray _=Data.dict J L:=d;cases d'
    have j:∀ {b:Ad}{m:Str->Ot vL},c.heap.Ns b m->(hidT c.heap H).Ns b m:=λ{b m} ⟨o,J,L,e,d,r⟩=>⟨o,J,L,f e (O e d),d,r⟩
    have I:K.In (hidT c.heap H):=λb o e=>f (KX b o e) (by
      cases q:H b with
      |none=>rfl
      |some u=>
        have X:b=a:=hA b (by rw[q];simp)
        subst X;rw[hK (by rw[q];simp)]at e;cases e)
    have hM:Mod K mg (hidT c.heap H):=⟨I,j E,⟨Q,j g,T⟩,let ⟨mc,h1,h2⟩:=G;⟨mc,j h1,h2⟩⟩
    have e0:Env0 P w K mg (hidT c.heap H) callerA [] c H:=⟨rfl,hM,λb o e=>of_hidT e,cJ (hidT_size _ _),trivial,λb g=>absurd (show b∈([]:Li Ad) from g) (by simp),D,.of_eq hg⟩
    refine codeAny_mono ((F _ I (j E)).run callerA [] c H ⟨[.ref a],[]⟩ [.ref a] [.ref a] _ _ hr e0 (t c (.ref a)) (.cons rfl .nil) (R H hO hS)) λr i h=>?_
    cases r with
    |error e=>exact(U H e i h).elim
    |ok fl=>
      cases fl with
      |next=>exact False.elim h
      |brk=>exact False.elim h
      |cont=>exact False.elim h
      |ret u=>
        obtain⟨v,H',os,M,un,C,r',q⟩:=h;have q':v=.bl true:=q;subst q';obtain rfl:u=Value.bool true:=r';refine⟨rfl,OldK.of_keep λb o e=>?_,os,M⟩
        cases q:H b with
        |none=>exact un.keep b o e q (by intro z;exact absurd (show b∈([]:Li Ad) from z) (by simp)) (by simp)
        |some u=>
          rcases hO b with z|⟨ob,xs,z⟩
          · rw[q]at z;cases z
          · have z2:=un.frzs b ob _ z
            obtain⟨e1,_⟩:=D b _ z;obtain⟨e2,_⟩:=C b _ z2;rw[e]at e1;cases e1
            exact e2
  cases S:K.lookup a with
  |some o=>
    -- the script is one of the module's own objects
    have e:=KX a o S;rw[N]at e;cases e;refine l (λ_=>none) (λ_=>.inl rfl) (.inr ⟨_,p.toArray,_,S,rfl,rfl,rfl,by rw[aG,B];exact Z,by simpa using rv⟩) (λb u z=>by have y:(none:Ot HO)=some u:=z;cases y) (λb z=>absurd rfl z) λz=>absurd rfl z
  |none=>
    refine l (λb=>if b=a then some (.frz { cls:=.type "list",data:=.seq p.toArray } (.lst (A.map V.int))) else none) (λb=>?_) (.inl (.inr ⟨{ cls:=.type "list",data:=.seq p.toArray },if_pos rfl⟩)) (λb u z=>?_) (λb z=>?_) λ_=>S
    · by_cases g:b=a
      · exact .inr ⟨_,_,if_pos g⟩
      · exact .inl (if_neg g)
    · by_cases g:b=a
      · have y:=(if_pos g).symm.trans z
        cases y;subst g;exact⟨N,by rw[aB];exact Z,p,_,rv,N⟩
      · have y:=(if_neg g).symm.trans z
        cases y
    · by_cases g:b=a
      · exact g
      · exact absurd (if_neg g) z
theorem walk_of{l:W.OpenLaw}{n k:Nat}{q:Program}{i:Li Str}{XP:(Str->Ot vL)->Heap->Prop}{J:World->Heap->Prop}{d:DefRec}{K:Params->fG7}{CX:World->CXT}{sp:World->Sp}{x:Str}(N:l.most=some n)(A:n<=sizeLine)(C:d.params.defaults=[])(M:Room k callerA)(R:∀ (w:World) (h:Heap),J w h->(K w.params).In h)(F:∀ (w:World) (mg:Str->Ot vL) (t:Ad) (h:Heap),(K w.params).In h->h.Ns mainGlobals mg->mg d.name=some (.ref t)->
      ∃ fd:FuncData,(∀ (s:sH7) (u:vL),BindsTo s fd ⟨[u],[]⟩ [(x,u)]) /\
        ∀ base:Heap,(K w.params).In base->base.Ns mainGlobals mg->FnOk l.prog w (K w.params) mg base (CX w) k t fd [x] (sp w))(z:∀ (w:World) (H:Hp) (a:Ad) (r:Li Int),r.length<=n->Only H->SqL (K w.params) H a (r.map V.int)->sp w [.ref a] H (λv _=>v=.bl true) λ_ _ _=>False)(D:∀ (w:World) (H:Hp) (s:sH7) (e:vL) (y:sH7),CX w [] H s (λ_ _ _=>False) e y->False) :
    W.WalkO q i XP J l.row.toRowW d [] (λf E=>PySem.call f E):=by
  refine Att.attach_call N C λw I m mg mb t o pm cd Z a E r G Y ho hd P B p j c O=>?_
  have L:=R w _ Y;obtain⟨fd,Q,X⟩:=F w mg t _ L G.T.g B;exact law_call L G.T.g G.T.b G.T.builtins G.T.nolimit O p j (aP c A) M X Q (λH U S=>z w H a r c U S) λH e y=>D w H m e y
noncomputable def defArgs(s:Stmt):Arguments:=match s with
  |.FunctionDef _ a _ _ _ _ _ _ _ _=>a
  |_=>{ posonlyargs:=[],args:=[],vararg:=none,kwonlyargs:=[],kw_defaults:=[],kwarg:=none,defaults:=[] }
noncomputable def defBody(s:Stmt):Li Stmt:=match s with
  |.FunctionDef _ _ b _ _ _ _ _ _ _=>b
  |_=>[]
noncomputable def defScope(s:Stmt):Scope:=match s with
  |.FunctionDef _ _ _ _ _ _ sc _ _ _=>sc
  |_=>{ kind:=.function,names:=[],isGenerator:=false,isCoroutine:=false }
noncomputable abbrev CX0:CXT:=λ_ _ _ _ _ _=>False
abbrev E0:XK:=λ_ _ _=>False
variable{X:Cx}
theorem pass0:Passes CX0 X E0:=λ_ _ _ _ _ _ _ h=>h.elim
structure Fun(K:fG7)(x qual:Str)(st:Stmt)(f:Addr)(fd:FuncData):Prop where
  ex:∃ (oc:Value) (od:Option Addr) (kV doc pm:Value) (an:Option Addr) (cdv ct:Value) (osl:Array (Option Value)),
    fd=W.fnOf x qual (defArgs st) (defBody st) (defScope st) .none kV doc pm an cdv ct/\K.lookup f=some ⟨oc,od,.func fd,osl⟩/\W.codeIn K cdv qual=true
  kp:W.keepIn K (.ref f)=true
variable{P:Program}{w:World}
section
variable{K:fG7}{mg:Str->Ot vL}{base:Heap}
end
variable{X:Cx}
variable{y:V}{u:vL}
section
variable {κ:Type} [DecidableEq κ]
noncomputable def valV(a:Li (κ×V))(k:κ):Ot V:=(a.find? λb=>decide (b.1=k)).map (·.2)
noncomputable def putK(a:Li (κ×V))(k:κ)(v:V):Li (κ×V):=
 if (a.any λb=>decide (b.1=k))=true then a.map (λb=>if b.1=k then (b.1,v) else b) else a++[(k,v)]
theorem valV_pos{p:κ×V}{r:Li (κ×V)}{k:κ}(e:p.1=k):valV (p :: r) k=some p.2:=by simp[valV,cQ,e]
theorem valV_neg{p:κ×V}{r:Li (κ×V)}{k:κ}(e:¬p.1=k):valV (p :: r) k=valV r k:=by simp[valV,cQ,e]
theorem length_putK(a:Li (κ×V))(k:κ)(v:V):(putK a k v).length<=a.length+1:=by
 unfold putK;split
 ·rw[aB];omega
 ·rw[aI,aQ,cY];omega
theorem RelO.isSome_eq{o:Ot V}{u:Ot vL}(r:RelO o u):o.isSome=u.isSome:=by
 cases o with
 |none=>cases u with
  |none=>rfl
  |some _=>exact(show False from r).elim
 |some _=>cases u with
  |none=>exact(show False from r).elim
  |some _=>rfl
theorem KV.val{a:Li (κ×V)}{f:Li (κ×vL)}(r:KV a f)(k:κ):RelO (valV a k) (valueAt f k):=by
 unfold KV at r
 induction r with
 |nil=>exact True.intro
 |@cons p q l c h t i=>
  obtain⟨g,j⟩:=h;by_cases e:p.1=k
  ·have d:q.1=k:=g.symm.trans e
   have b:valueAt (q :: c) k=some q.2:=by simp[valueAt,cQ,d]
   rw[valV_pos e,b];exact j
  ·have d:¬q.1=k:=λz=>e (g.trans z)
   have b:valueAt (q :: c) k=valueAt c k:=by simp[valueAt,cQ,d]
   rw[valV_neg e,b];exact i
theorem KV.any{a:Li (κ×V)}{c:Li (κ×vL)}(r:KV a c)(k:κ):(a.any λb=>decide (b.1=k))=c.any λb=>decide (b.1=k):=by
 unfold KV at r
 induction r with
 |nil=>rfl
 |cons h t d=>rw[cP,cP,d,h.1]
theorem KV.repl{b:Li (κ×V)}{d:Li (κ×vL)}(r:KV b d)(k:κ)(f:RelV y u) :
  KV (b.map λa=>if a.1=k then (a.1,y) else a) (d.map λa=>if a.1=k then (a.1,u) else a):=by
 unfold KV at r ⊢
 induction r with
 |nil=>exact .nil
 |@cons p q l j h t g=>
  rw[aO,aO];refine .cons ?_ g;obtain⟨c,i⟩:=h;by_cases e:p.1=k
  ·rw[if_pos e,if_pos (c.symm.trans e)];exact⟨c,f⟩
  ·rw[if_neg e,if_neg (λz=>e (c.trans z))];exact⟨c,i⟩
theorem KV.put{a:Li (κ×V)}{b:Li (κ×vL)}(r:KV a b)(k:κ)(c:RelV y u):KV (putK a k y) (stored b k u):=by
 unfold putK stored;rw[r.any k];by_cases e:(b.any λd=>decide (d.1=k))=true
 ·rw[if_pos e,if_pos e];exact r.repl k c
 ·rw[if_neg e,if_neg e];exact Paired.snoc r ⟨rfl,c⟩
end
theorem kV_is{P:Program}{k:Key}(r:RelV (kV k) u):(mixKind P w).is k u=true:=by
 cases k with
 |inl i=>obtain⟨t,e⟩:=(show ∃ t,u=Value.int i t from r);subst e;exact mixKind_int P w i t
 |inr x=>obtain⟨t,e⟩:=(show ∃ t,u=Value.str x t from r);subst e;exact mixKind_str P w x t
variable{H:Hp}{h:Heap}{a:Ad}
theorem rd_of{u:HO}(ok:HOk P w H h)(e:Rd H a u):ObjOk P w H h a u:=e.ok ok
theorem dk_rd{b:Li (Key×V)}(ok:HOk P w H h)(e:Rd H a (.dK b)):b.length<=sizeLine/\(a==sysModules)=false/\∃ c,KV b c/\h.DictOf (mixKind P w) a c:=
 show ObjOk P w H h a (.dK b) from rd_of ok e
theorem dk_of{b:Li (Key×V)}(ok:HOk P w H h)(e:H a=some (.dK b)):b.length<=sizeLine/\(a==sysModules)=false/\∃ c,KV b c/\h.DictOf (mixKind P w) a c:=dk_rd ok (.inl e)
variable{h':Heap}
variable{y:V}{u:vL}
section
variable{pQ:Li (Ad×Obj)}{O:St}{s:sH7}{v:V}{r:vL}{o:Ot V}{A:Around}{E:vL->sH7->Prop}
theorem Inv.big(I:Inv X pQ O H s):sysModules < s.heap.objs.size:=by
 have h:mainGlobals < s.heap.objs.size:=(I.mod.glob.keeps I.bk).lt;exact Nat.lt_trans (by decide) h
theorem d_write{d:Nat}{c:HO}(I:Inv X pQ O H s)(mu:Mut (H a))(f:Heap.SameBut a s.heap h')(g:∃ q,h'.get? a=some q)(new:ObjOk X.prog X.w (upd H a c) h' a c) :
  Inv X pQ O (upd H a c) { s with heap:=h',toks:=d }:=
 I.write (x:=a) (e:=a) mu (.inl rfl) (λb q h z=>(f.2 b h).trans z) g new
theorem dk_new{P:Program}{e:Hp}{b:Li (Key×V)}{c:Li (Key×vL)}(z:b.length<=sizeLine)(hd:(a==sysModules)=false)(d:KV b c)(dd:h'.DictOf (mixKind P w) a c) :
  ObjOk P w e h' a (.dK b):=⟨z,hd,c,d,dd⟩
end
variable{H:Hp}
theorem dk_empty{P:Program}(h:Heap)(a:sysModules < h.objs.size):ObjOk P w H (h.push { cls:=.type "dict",data:=.dict #[] }) h.objs.size (.dK []):=
 ⟨aM _,cN.mpr (Ne.symm (aY a)),[],.nil,Heap.DictOf.new h⟩
def tPairs:Li (TE×TE)->St->Hp->(Li (V×V)->Hp->Prop)->Prop
 |[],_,H,Q=>Q [] H
 | (b,a) :: r,O,H,Q=>b O H λx f=>a O f λy e=>tPairs r O e λc d=>Q ((x,y) :: c) d
abbrev VV:Li (V×V)->Li (vL×vL)->Prop:=Paired λp q=>RelV p.1 q.1/\RelV p.2 q.2
def PPs(X:Cx)(d:Pos)(b:Li (Ot Expr))(a:Li Expr)(c:Li (TE×TE)):Prop:=
 ∀ (pQ:Li (Ad×Obj)) (s:sH7) (O:St) (H:Hp) (Q:Li (V×V)->Hp->Prop),Inv X pQ O H s->tPairs c O H Q->
  wpAny (model X.prog X.w) X.A (evalPairs (pairTrees b a X.env d)) (λg h=>∃ e f,Inv X pQ O f h/\VV e g/\Q e f) X.xe s
variable{pos:Pos}
theorem pps_nil:PPs X pos [] [] []:=λa s O H Q I h=>pairTrees_nil_walk ⟨[],H,I,.nil,h⟩
variable{trs:Li (TE×TE)}
theorem pps_cons{k v:Expr}{f:Li (Ot Expr)}{c:Li Expr}{e d:TE}(r:PE X k e)(p:PE X v d)(q:PPs X pos f c trs) :
  PPs X pos (some k :: f) (v :: c) ((e,d) :: trs):=λb s O H Q I h=>
 pairTrees_cons_walk (thn (r b s O H _ I h) λu s1 ⟨x,C,z,j,n⟩=>thn (p b s1 O C _ z n) λE g ⟨y,B,w,i,m⟩=>
  thn (q b g O B _ w m) λD F ⟨o,A,t,a,l⟩=>⟨(x,y) :: o,A,t,.cons ⟨j,i⟩ a,l⟩)
noncomputable def mergeK(a more:Li (Key×V)):Li (Key×V):=more.foldl (λb c=>putK b c.1 c.2) a
theorem KV.merge:∀ {more:Li (Key×V)}{rs:Li (Key×vL)}{a:Li (Key×V)}{b:Li (Key×vL)},KV more rs->KV a b->KV (mergeK a more) (merged b rs):=by
 intro more rs a b r;unfold KV at r
 induction r generalizing a b with
 |nil=>intro q;exact q
 |@cons p q g f h t d=>
  intro c;have e:KV (putK a p.1 p.2) (stored b q.1 q.2):=by
   have:=c.put p.1 h.2;rw[<-h.1];exact this
  exact d e
theorem length_mergeK:∀ (more a:Li (Key×V)),(mergeK a more).length<=a.length+more.length
 |[],a=>by show a.length<=a.length+0;omega
 |p :: r,a=>by
  have c:=length_mergeK r (putK a p.1 p.2);have b:=length_putK a p.1 p.2;show(mergeK (putK a p.1 p.2) r).length<=_;rw[aQ];omega
theorem carries_of{P:Program}{w:World}:∀ {d:Li (Key×V)}{ws:Li (vL×vL)},VV (d.map λe=>(kV e.1,e.2)) ws->∃ rs,Carries (mixKind P w) ws rs/\KV d rs
 |[],_,r=>by rw[List.map_nil]at r;cases r;exact⟨[],True.intro,.nil⟩
 |p :: d,_,r=>by
  rw[aO]at r;cases r with
  |@cons a b i bs h t=>
   obtain⟨rs,c,q⟩:=carries_of (P:=P) (w:=w) t;obtain⟨g,f⟩:=b;exact⟨(p.1,f) :: rs,⟨kV_is h.1,rfl,c⟩,.cons ⟨rfl,h.2⟩ q⟩
def tDisp(K:fG7)(trs:Li (TE×TE)):TE:=λO H Q=>∀ p,H p=none->(∀ o,K.lookup p≠some o)->tPairs trs O (upd H p (.dK [])) λd c=>c p=some (.dK [])/\∃ a:Li (Key×V),d=a.map (λb=>(kV b.1,b.2))/\a.length<=15/\Q (.ref p) (upd c p (.dK (mergeK [] a)))
theorem pe_disp{b:Li (Ot Expr)}{d:Li Expr}(h:PPs X pos b d trs)(g:b.all (·.isSome)=true)(y:b.length=d.length)(D:b≠[])(k:b.length<=15):PE X (.Dict b d pos) (tDisp X.K trs):=by
 intro t s O H Q I q;have x:=I.hok.fresh (aD s.heap.objs.size);have F:=I.laid (a:=s.heap.objs.size) (o:=.dK []) (h':=s.heap.push { cls:=.type "dict",data:=.dict #[] }) (t':=s.toks) (λ_ _ q=>aK _ q) (aD _) (dk_empty s.heap I.big)
 refine wpAny_Dict_walk (knd:=mixKind X.prog X.w) g y D k (thn (h t _ O _ _ F (q _ x λo z=>absurd (aJ (I.kIn _ o z)) (bO _))) λG J ⟨L,M,l,j,e,f,E,lk,r⟩=>?_)
 subst E;obtain⟨rs,c,n⟩:=carries_of (P:=X.prog) (w:=X.w) j;obtain⟨z,B,m,p,dd⟩:=dk_of l.hok e;cases p;refine⟨rs,c,dd,λh' i v=>⟨.ref s.heap.objs.size,_,?_,rfl,r⟩⟩
 have u:(mergeK [] f).length<=sizeLine:=by
  have C:=length_mergeK f [];rw[cY]at C;rw[sizeLine_eq];omega
 have A:∃ q,h'.get? s.heap.objs.size=some q:=let ⟨q,_,_,hq,_⟩:=i;⟨q,hq⟩
 exact d_write l (by rw[e];exact True.intro) v A (dk_new u B (n.merge .nil) i)
def rIxD:R2:=λx y H Q=>∃ p a k v,x=.ref p/\y=kV k/\H p=some (.dK a)/\valV a k=some v/\Q v H
theorem ix_dct:IxR X rIxD:=by
 intro a slice t s O H x y v u Q I f e h j;obtain⟨p,g,k,z,rfl,rfl,l,m,q⟩:=h;cases f;obtain⟨n,w,d,c,dd⟩:=dk_of I.hok l;obtain⟨r,i,b⟩:=RelO.some_of (v:=z) (o:=valueAt d k) (by rw[<-m];exact c.val k)
 exact tail_any dd.typeIs PySem.F.slot_dict_getitem.lookup (wpAny_getItem_of (kV_is e) dd.mapOf i ⟨z,H,I.tok _,b,q⟩) j
def rInD:R2:=λx y H Q=>∃ p a k,y=.ref p/\x=kV k/\H p=some (.dK a)/\Q (.bl (valV a k).isSome) H
theorem op_in_dct:OpR X (compareOp .In) rInD:=by
 intro j s O H x y v u Q I d c h;obtain⟨p,b,k,rfl,rfl,e,q⟩:=h;cases c;obtain⟨g,f,i,a,dd⟩:=dk_of I.hok e;refine wpAny_in_of (kV_is d) f dd.mapOf ?_;rw[<-(a.val k).isSome_eq];exact⟨.bl (valV b k).isSome,H,I.tok _,rfl,q⟩
section
variable {κ:Type} [DecidableEq κ]
theorem valV_any(k:κ):∀ a:Li (κ×V),(a.any λb=>decide (b.1=k))=(valV a k).isSome
 |[]=>rfl
 |p :: r=>by
  rw[cP];by_cases e:p.1=k
  ·simp only[valV_pos e,aL e,Bool.true_or,Option.isSome_some]
  ·rw[valV_neg e,aH e,Bool.false_or];exact valV_any k r
end
theorem items_are{P:Program}{w:World}:∀ {a:Li Key}{us:Li vL},Vals (a.map kV) us->ItemsAre (mixKind P w) a us
 |[],_,r=>by rw[List.map_nil]at r;cases r;exact .nil
 |k :: a,_,r=>by
  rw[aO]at r;cases r with
  |cons h t=>exact .cons (kV_is h) (items_are t)
abbrev KTp(H:Hp):Li (Li Key×V)->Li (Li Key×Ad×vL)->Prop:=Paired λp q=>p.1=q.1/\H q.2.1=some (.tup (p.1.map kV))/\RelV p.2 q.2.2
variable{kvs:Li (Li Key×V)}{xs:Li (Li Key×Ad×vL)}
theorem KTp.val(r:KTp H kvs xs)(k:Li Key):RelO (valV kvs k) ((atKey xs k).map (·.2)):=by
 induction r with
 |nil=>exact True.intro
 |@cons p q i a h t f=>
  obtain⟨d,_,g⟩:=h;by_cases e:p.1=k
  ·have c:q.1=k:=d.symm.trans e
   have b:atKey (q :: a) k=some q.2:=by simp[atKey,cQ,c]
   rw[valV_pos e,b];exact g
  ·have c:¬q.1=k:=λz=>e (d.trans z)
   have b:atKey (q :: a) k=atKey a k:=by simp[atKey,cQ,c]
   rw[valV_neg e,b];exact f
theorem KTp.repl(r:KTp H kvs xs)(k:Li Key)(d:RelV y u) :
  KTp H (kvs.map λb=>if b.1=k then (b.1,y) else b) (xs.map (putAt k u)):=by
 induction r with
 |nil=>exact .nil
 |@cons p q j i h t f=>
  rw[aO,aO];refine .cons ?_ f;obtain⟨a,c,g⟩:=h;unfold putAt;by_cases e:p.1=k
  ·rw[if_pos e,if_pos (a.symm.trans e)];exact⟨a,c,d⟩
  ·rw[if_neg e,if_neg (λz=>e (a.trans z))];exact⟨a,c,g⟩
theorem KTp.put(r:KTp H kvs xs)(k:Li Key){b:Ad}(d:H b=some (.tup (k.map kV)))(a:RelV y u) :
  KTp H (putK kvs k y) (storedH xs k b u):=by
 have e:(kvs.any λc=>decide (c.1=k))=(atKey xs k).isSome:=by
  rw[valV_any,(r.val k).isSome_eq,Option.isSome_map]
 unfold putK storedH;rw[e];by_cases q:(atKey xs k).isSome=true
 ·rw[if_pos q,if_pos q];exact r.repl k a
 ·rw[if_neg q,if_neg q];exact Paired.snoc r ⟨rfl,d,a⟩
theorem KTp.keeps{c:Hp}(r:KTp H kvs xs)(d:∀ b a,H b=some (.tup a)->c b=some (.tup a)):KTp c kvs xs:=
 Paired.mapP r λ_ _ z=>⟨z.1,d _ _ z.2.1,z.2.2⟩
variable{ks:Li Key}
theorem key_at{b:Li vL}(r:Vals (ks.map kV) b)(t:IsTup h a b.toArray):(tupleKind (mixKind P w)).is h ks a:=by
 obtain⟨o,e,d,n,c⟩:=t;exact⟨o,b.toArray,n,e,d,c,by simpa using items_are r⟩
theorem key_of(ok:HOk P w H h)(e:H a=some (.tup (ks.map kV))):(tupleKind (mixKind P w)).is h ks a:=by
 obtain⟨_,b,r,o,f,d,n,c⟩:=(show ObjOk P w H h a (.tup (ks.map kV)) from ok a _ e);exact⟨o,b.toArray,n,f,d,c,by simpa using items_are r⟩
theorem dt_rd(ok:HOk P w H h)(e:Rd H a (.dT kvs)):kvs.length<=sizeLine/\(a==sysModules)=false /\
  ∃ xs,KTp H kvs xs/\h.DictOfH (tupleKind (mixKind P w)) a xs:=by
 obtain⟨z,y,xs,r,o,k,n,j,i,g,f,d⟩:=(show ObjOk P w H h a (.dT kvs) from rd_of ok e);refine⟨z,y,xs,r,o,k,n,j,i,g,f,λx hx=>?_,d⟩
 have all:∀ {l:Li (Li Key×V)}{m:Li (Li Key×Ad×vL)},KTp H l m->∀ x∈m,(tupleKind (mixKind P w)).is h x.1 x.2.1:=by
  intro l m q
  induction q with
  |nil=>intro x hx;exact nomatch hx
  |@cons p q u s b t c=>
   intro x hx;rcases aF.mp hx with e|hx
   ·subst e
    exact key_of ok (by rw[<-b.1];exact b.2.1)
   ·exact c x hx
 exact all r x hx
theorem dt_of(ok:HOk P w H h)(e:H a=some (.dT kvs)):kvs.length<=sizeLine/\(a==sysModules)=false /\
  ∃ xs,KTp H kvs xs/\h.DictOfH (tupleKind (mixKind P w)) a xs:=dt_rd ok (.inl e)
theorem dt_empty{P:Program}(h:Heap)(a:sysModules < h.objs.size):ObjOk P w H (h.push { cls:=.type "dict",data:=.dict #[] }) h.objs.size (.dT []):=
 ⟨aM _,cN.mpr (Ne.symm (aY a)),[],.nil,_,#[],0,aX _ rfl,⟨rfl,rfl,rfl⟩,rfl,rfl,List.nodup_nil⟩
def tDNewT(K:fG7):TE:=λ_ H Q=>∀ p,H p=none->(∀ o,K.lookup p≠some o)->Q (.ref p) (upd H p (.dT []))
theorem pe_dnewT:PE X (.Dict [] [] pos) (tDNewT X.K):=λb s O H Q I h=>
 wpAny_Dict_empty ⟨.ref s.heap.objs.size,_,I.laid (a:=s.heap.objs.size) (o:=.dT []) (t':=s.toks) (λ_ _ q=>aK _ q) (aD _) (dt_empty s.heap I.big),rfl,h _ (I.hok.fresh (aD _)) λo z=>absurd (aJ (I.kIn _ o z)) (bO _)⟩
def rSetT:V->V->V->Hp->(Hp->Prop)->Prop:=λo i v H Q=>∃ p b kvs k,o=.ref p/\i=.ref b/\H p=some (.dT kvs)/\H b=some (.tup (k.map kV))/\kvs.length < sizeLine/\Q (upd H p (.dT (putK kvs k v)))
theorem set_dT(hu:X.A.units+1 < cLine):PSet X rSetT:=by
 intro K s O H o i v L M u Q I p r rv h;obtain⟨a,b,kvs,k,rfl,rfl,e,n,l,q⟩:=h;cases p;cases r;obtain⟨z,y,xs,d,dd⟩:=dt_of I.hok e;have t:xs.length<=sizeLine:=by rw[<-Paired.length d];exact z
 have x:(putK kvs k v).length<=sizeLine:=by have:=length_putK kvs k v;omega
 refine wpAny_setItem_heap (hsz:=t) (tupleKind_room_in1 hu) (key_of I.hok n) dd λh' f w=>?_
 obtain⟨g,F,G,j,E,D,C,_,B⟩:=f;refine⟨upd H a (.dT (putK kvs k v)),d_write I (by rw[e];exact True.intro) w ⟨g,j⟩ ⟨x,y,_,(d.put k n rv).keeps λc J m=>?_,g,F,G,j,E,D,C,B⟩,q⟩
 rw[upd_ne (ne_of m e (λz=>nomatch z))]
 exact m
def rIxdT(K:fG7):R2:=λx y H Q=>∃ p b kvs k v,x=.ref p/\y=.ref b/\SqT K H b (k.map kV)/\H p=some (.dT kvs)/\valV kvs k=some v/\Q v H
theorem ix_dT(hu:X.A.units+1 < cLine):IxR X (rIxdT X.K):=by
 intro a slice E s O H x y v u Q I i g h n;obtain⟨p,b,kvs,k,z,rfl,rfl,B,r,w,q⟩:=h;cases i;cases g;obtain⟨C,J,xs,d,dd⟩:=dt_of I.hok r;obtain⟨l,j,f,_⟩:=I.tuple B;obtain⟨D,m,c⟩:=RelO.some_of (v:=z) (o:=(atKey xs k).map (·.2)) (by rw[<-w];exact d.val k)
 obtain⟨G,t,e⟩:=dH.mp m;refine tail_any dd.typeIs PySem.F.slot_dict_getitem.lookup (wpAny_getItem_heap (tupleKind_room_in1 hu) (key_at j f) dd t ?_) n;rw[e];exact⟨z,H,I.tok _,c,q⟩
theorem in_dT(hu:X.A.units+1 < cLine){c:Li (Ad×Obj)}{O:St}{s:sH7}{p b:Ad}{k:Li Key}{Q:VK}(I:Inv X c O H s)(i:H p=some (.dT kvs))(j:SqT X.K H b (k.map kV)) :
  (Q (.bl (valV kvs k).isSome) H->wpAny (model X.prog X.w) X.A (compareOp .In (.ref b) (.ref p)) (EP X c O Q) X.xe s)/\(Q (.bl (!(valV kvs k).isSome)) H->wpAny (model X.prog X.w) X.A (compareOp .NotIn (.ref b) (.ref p)) (EP X c O Q) X.xe s):=by
 obtain⟨l,g,xs,a,dd⟩:=dt_of I.hok i;obtain⟨h,f,d,_⟩:=I.tuple j;have e:=(a.val k).isSome_eq;rw[Option.isSome_map]at e;rw[e];exact⟨λq=>wpAny_in_heap (tupleKind_room_in1 hu) (key_at f d) g dd ⟨.bl _,H,I.tok _,rfl,q⟩,λq=>wpAny_notIn_heap (tupleKind_room_in1 hu) (key_at f d) g dd ⟨.bl _,H,I.tok _,rfl,q⟩⟩
end L2
namespace Dp
open PySem
variable{α:Type}
theorem Zb{x:α}{C:Prop}(h:(none:Ot α)=some x):C:=nomatch h
noncomputable abbrev S(x:String):Str:=Str.ofString x
inductive D where
 |non|bl (b:Bool)|int (i:Int)|str (x:Str)|tup (xs:List D)|lst (id:Nat)|dct (ks:List Str) (vs:List D)|obj (i:Nat)|kt (ks:List Str)|dic (id:Nat)
abbrev Env:=Li (Ot D)
abbrev Y5:=Bool×Li D
abbrev Za:=Li Y5
abbrev Res:=Ot (D×Za)
abbrev Fn:=Li D->Za->Res
noncomputable def o2{α b a:Type}(f:α->b->a):Ot α->Ot b->Ot a
 |some x,some y=>some (f x y)
 |_,_=>none
noncomputable def og{α:Type}(p:Prop)[Decidable p](o:Ot α):Ot α:=if p then o else none
mutual
noncomputable def Zk:D->D->Bool
 |.non,.non=>true
 |.bl a,.bl b=>a==b
 |.int a,.int b=>decide (a=b)
 |.str a,.str b=>decide (a=b)
 |.tup a,.tup b=>Zr a b
 |_,_=>false
noncomputable def Zr:Li D->Li D->Bool
 |[],[]=>true
 |x :: b,y :: a=>Zk x y&&Zr b a
 |_,_=>false
end
mutual
noncomputable def okD:Nat->D->Bool
 |_,.non=>true
 |_,.int _=>true
 |_,.str _=>true
 |n+1,.tup a=>ZS n a
 |_,_=>false
noncomputable def ZS:Nat->Li D->Bool
 |_,[]=>true
 |n,x :: a=>okD n x&&ZS n a
end
inductive Sc where
 |non|bl (b:Bool)|int (i:Int)|str (x:Str)
noncomputable def scD:D->Ot Sc
 |.non=>some .non
 |.bl b=>some (.bl b)
 |.int i=>some (.int i)
 |.str x=>some (.str x)
 |_=>none
noncomputable def ZgC:Sc->Sc->Ot Bool
 |.non,.non=>some true
 |.non,.bl _=>some false
 |.non,.int _=>some false
 |.non,.str _=>some false
 |.bl _,.non=>some false
 |.bl a,.bl b=>some (a==b)
 |.bl _,.int _=>none
 |.bl _,.str _=>some false
 |.int _,.non=>some false
 |.int _,.bl _=>none
 |.int a,.int b=>some (decide (a=b))
 |.int _,.str _=>some false
 |.str _,.non=>some false
 |.str _,.bl _=>some false
 |.str _,.int _=>some false
 |.str a,.str b=>some (decide (a=b))
noncomputable def eqT(b:Li D):D->Ot Bool
 |.tup a=>if okD 8 (.tup b)&&okD 8 (.tup a) then some (Zr b a) else none
 |_=>none
noncomputable def eqD(x y:D):Ot Bool:=match x with
 |.tup a=>eqT a y
 |x=>(o2 ZgC (scD x) (scD y)).join
inductive Ty where
 |int|bool|str|tuple
 deriving DecidableEq
set_option genInjectivity false in
inductive CE where
 |v (i:Nat)|c (d:D)
 |bin (op:Operator) (a b:CE)|neg (a:CE)
 |cmp (op:CmpOp) (a b:CE)
 |not (a:CE)|and (a b:CE)|or (a b:CE)|ife (c a b:CE)
 |tupE (a:CE)|lstE (a:CE)|aN|aC (a r:CE)
 |ix (a b:CE)|slice (a lo hi:CE)|nop|part (a:CE)
 |call (f:Nat) (args:CE) (ds:List D)
 |len (a:CE)|tOf (a:CE)|listOf (a:CE)|intOf (a:CE)|min (a b:CE)|max (a b:CE)|isi (T:Ty) (a:CE)
 |comp (rng:Bool) (fr:List Nat) (it elt Yq:CE)|comp2 (fr:List Nat) (it elt Yq:CE)|compT (fr:List Nat) (it elt Yq:CE)|lstR (a b:CE)|new (i:Nat)|meth (tab:List (Nat×Nat)) (o a:CE)|isc (l:List Nat) (a:CE)|tix (o a:CE)
 |rs (k:Bool) (a:CE)
 |inv (a:CE)|tupR (a:CE)|look (ks:List Str) (ds:List D) (a:CE)|dget (a k d:CE)|all (a:CE)|any (a:CE)|inR (ng:Bool) (a b:CE)
 |dict (ks:List Str) (a:CE)|dnew|strOf (a:CE)|joinE (a b:CE)|starts (a b:CE)|rng2 (a b:CE)|srt (a:CE)
 |comp3 (fr:List Nat) (it elt Yq:CE)|dd (a b e:CE)|dgN (o k d:CE)|pop (o:CE)|ksrt (o:CE)
set_option genInjectivity false in
inductive CS where
 |skip|seq (a b:CS)|ret (e:CE)|set (i:Nat) (e:CE)|app (i:Nat) (e:CE)|ext (i:Nat) (e:CE)|put (i:Nat) (k e:CE)
 |ite (c:CE) (a b:CS)|for1 (i:Nat) (rng:Bool) (it:CE) (b:CS)|for3 (i:Nat) (it:CE) (b:CS)|forP (i j:Nat) (it:CE) (b:CS)|forE (i j:Nat) (it:CE) (b:CS)|set2 (i j:Nat) (e:CE)|for4 (i j l:Nat) (it:CE) (b:CS)|for2 (i j:Nat) (it:CE) (b:CS)|whl (c:CE) (b:CS)|brk|cont|stop|set3 (i j l:Nat) (e:CE)|act (e:CE)|dput (i:Nat) (a b e:CE)|app2 (o e:CE)
noncomputable def ZR(i:Int):Bool:=decide (-(2 ^ 64) < i)&&decide (i < 2 ^ 64)
noncomputable def Zu:Nat:=1000000
noncomputable def J4(a:Operator)(i j:Int):Ot Int:=
 match a with
 |.Add=>some (i+j)
 |.Sub=>some (i - j)
 |.Mult=>if ZR i||ZR j then some (i * j) else none
 |.FloorDiv=>if 0 < j/\j < 1073741824 then some (i / j) else if j < 0/\-1073741824 < j then some (i.fdiv j) else none
 |.Mod=>if 0 < j then some (i % j) else if j < 0 then some (i.fmod j) else none
 |.BitAnd=>if 0<=i/\0<=j then some ((i.toNat &&& j.toNat:Nat):Int) else if 0<=i/\j < 0 then some (i - ((i.toNat &&& (-j - 1).toNat:Nat):Int)) else none
 |.BitOr=>if 0<=i/\0<=j then some ((i.toNat ||| j.toNat:Nat):Int) else none
 |_=>none
noncomputable def V1:Operator->Bool
 |.Add=>true
 |_=>false
noncomputable def ZaT:Operator->Bool
 |.Mult=>true
 |_=>false
noncomputable def Zct(a b:Nat)(c:Za):Res:=match c[a]?,c[b]? with
 |some (_,e),some (_,d)=>if e.length+d.length<=Zu then some (.lst c.length,c++[(true,e++d)]) else none
 |_,_=>none
noncomputable def Zhe(a:Nat)(j:Int)(b:Za):Res:=match b[a]? with
 |some (true,[x])=>if j<=1000/\-1000<=j then some (.lst b.length,b++[(true,List.replicate j.toNat x)]) else none
 |_=>none
noncomputable def ZiP(a:Li D)(j:Int)(b:Za):Res:=match a with
 |[x]=>if j<=1000/\-1000<=j then some (.tup (List.replicate j.toNat x),b) else none
 |_=>none
noncomputable def Uv(d:Operator)(x y:D)(c:Za):Res:=
 match x,y with
 |.int i,.int j=>match J4 d i j with
  |some k=>some (.int k,c)
  |none=>none
 |.tup e,.tup f=>if V1 d=true/\e.length+f.length<=Zu then some (.tup (e++f),c) else none
 |.tup e,.int j=>if ZaT d=true then ZiP e j c else none
 |.lst a,.lst b=>if V1 d=true then Zct a b c else none
 |.lst a,.int j=>if ZaT d=true then Zhe a j c else none
 |.str x,.str y=>if V1 d=true/\x.length+y.length<=Zu then some (.str (x++y),c) else none
 |_,_=>none
noncomputable def ZhS(x k:Str):Bool:=!(PySem.Builtin.Str.occurrences x k 0 x.length 1).isEmpty
noncomputable def chS(x:Str):Li Str:=x.cps.toList.map λc=>⟨#[c]⟩
noncomputable def QR(_:Za)(_ _:Li D):Ot Bool:=none
noncomputable def ZeS(a ys:Li D):Ot Bool:=if (a.isEmpty||ys.isEmpty)=true then some (a.isEmpty&&ys.isEmpty) else if ZS 7 a&&ZS 7 ys then some (Zr a ys) else none
noncomputable def ZgD(c:Za)(b:Li D):D->Ot Bool
 |.tup a=>(match eqT b (.tup a) with
  |some k=>some k
  |none=>QR c b a)
 |_=>none
noncomputable def ZgB(e:Za)(a:Nat):D->Ot Bool
 |.lst b=>(o2 (λ(c d:Y5)=>ZeS c.2 d.2) e[a]? e[b]?).join
 |_=>none
noncomputable def eqS(b:Za)(x y:D):Ot Bool:=match x with
 |.lst a=>ZgB b a y
 |.tup c=>ZgD b c y
 |x=>eqD x y
noncomputable def Xc:Int->Li D->Ot Bool
 |_,[]=>some false
 |k,.int i :: r=>(Xc k r).map λb=>decide (i=k)||b
 |_,_=>none
noncomputable def Yy:Str->Li D->Ot Bool
 |_,[]=>some false
 |k,.str i :: r=>(Yy k r).map λb=>decide (i=k)||b
 |_,_=>none
noncomputable def Ze2:D->Ot Int
 |.int i=>some i
 |_=>none
noncomputable def iB(i:Int):D->Bool
 |.int a=>decide (a=i)
 |_=>false
noncomputable def isK(i j:Int):D->Bool
 |.tup [x,y,_]=>iB i x&&iB j y
 |_=>false
noncomputable def ZiR:D->Ot D
 |.tup [_,_,v]=>some v
 |_=>none
noncomputable def Z4(a:Li D)(i j:Int):Ot D:=(a.find? (isK i j)).bind ZiR
noncomputable def Wa(a:Li D)(i j:Int)(v:D):Li D:=if a.any (isK i j)=true then a.map (λe=>if isK i j e=true then .tup [.int i,.int j,v] else e) else a++[.tup [.int i,.int j,v]]
noncomputable def dAt(d:Li D)(a:Nat)(b:Za):Ot (Ot D):=match d with
 |[x,y]=>o2 (λ(p:Int×Int) (c:Y5)=>Z4 c.2 p.1 p.2) (o2 Prod.mk (Ze2 x) (Ze2 y)) b[a]?
 |_=>none
noncomputable def ZY:Li Str->Li D->Str->Ot D
 |k :: b,v :: a,x=>if k=x then some v else ZY b a x
 |_,_,_=>none
noncomputable def JD(f:Int->Int->Bool):D->D->Ot Bool
 |.int i,.int j=>some (f i j)
 |_,_=>none
noncomputable def Vl:Li D->Li D->Ot Bool
 |x :: d,y :: c=>if Zk x y=true then Vl d c else match x,y with
  |.int i,.int j=>some (decide (i < j))
  |.str a,.str b=>some (decide (a.cps.toList < b.cps.toList))
  |_,_=>none
 |[],c=>some (decide (0 < c.length))
 |_ :: _,[]=>some false
noncomputable def ltD(x y:D):Ot Bool:=match x,y with
 |.tup b,.tup a=>if okD 8 (.tup b)&&okD 8 (.tup a) then Vl b a else none
 |x,y=>JD (λi j=>decide (i < j)) x y
noncomputable def ltS(_:Za)(x y:D):Ot Bool:=ltD x y
noncomputable def inS(c:Za)(x y:D):Ot Bool:=match x,y with
 |.int k,.lst a=>match c[a]? with
  |some (_,b)=>Xc k b
  |none=>none
 |.str k,.lst a=>match c[a]? with
  |some (_,b)=>Yy k b
  |none=>none
 |.int k,.tup b=>Xc k b
 |.str k,.tup b=>Yy k b
 |.str k,.dct d e=>some (ZY d e k).isSome
 |.tup d,.dic a=>(dAt d a c).map Option.isSome
 |.str k,.str x=>some (ZhS x k)
 |_,_=>none
noncomputable def niS(a:Za)(x y:D):Ot Bool:=match y with
 |.dct _ _=>none
 |y=>(inS a x y).map not
noncomputable def isN:D->Ot Bool
 |.non=>some true
 |.int _=>some false
 |.str _=>some false
 |.bl _=>some false
 |.tup _=>some false
 |.lst _=>some false
 |.dct _ _=>none
 |.obj _=>none
 |.kt _=>none
 |.dic _=>none
noncomputable def isB(b:Bool):D->Ot Bool
 |.bl a=>some (a==b)
 |_=>none
noncomputable def isD(x:D):D->Ot Bool
 |.non=>isN x
 |.bl b=>isB b x
 |_=>none
noncomputable def Zcv(b:CmpOp)(x y:D)(a:Za):Ot Bool:=
 match b with
 |.Lt=>ltS a x y
 |.LtE=>JD (λi j=>decide (i<=j)) x y
 |.Gt=>JD (λi j=>decide (j < i)) x y
 |.GtE=>JD (λi j=>decide (j<=i)) x y
 |.Eq=>eqS a x y
 |.NotEq=>(eqS a x y).map not
 |.In=>inS a x y
 |.NotIn=>niS a x y
 |.Is=>isD x y
 |.IsNot=>(isD x y).map not
noncomputable def ixN(n:Nat)(i:Int):Ot Nat:=if 0<=i then (if i < n then some i.toNat else none) else if -(n:Int)<=i then some (i+n).toNat else none
noncomputable def atD(a:Li D)(i:Int):Ot D:=(ixN a.length i).bind λj=>a[j]?
noncomputable def ixD(x y:D)(d:Za):Ot D:=
 match x,y with
 |.tup c,.int i=>atD c i
 |.lst a,.int i=>match d[a]? with
  |some (_,c)=>atD c i
  |none=>none
 |.dct b e,.str k=>ZY b e k
 |.kt b,.int i=>atD (b.map .str) i
 |.dic a,.tup b=>(dAt b a d).join
 |.str x,.int i=>if x.length<=Zu then atD ((chS x).map .str) i else none
 |_,_=>none
noncomputable def sIx(n d:Nat):Ot Int->Nat
 |none=>d
 |some i=>if i < 0 then (i+n).toNat else Nat.min i.toNat n
noncomputable def Xy(a:Li D)(b c:Ot Int):Li D:=(a.drop (sIx a.length 0 b)).take (sIx a.length a.length c - sIx a.length 0 b)
noncomputable def Z8(x:D)(d e:Ot Int)(c:Za):Res:=
 match x with
 |.tup b=>if sIx b.length 0 d=0/\sIx b.length b.length e=b.length then some (.tup b,c) else some (.tup (Xy b d e),c)
 |.lst a=>match c[a]? with
  |some (_,b)=>some (.lst c.length,c++[(true,Xy b d e)])
  |none=>none
 |_=>none
noncomputable def Zfa(x:D)(c:Za):Ot Int:=
 match x with
 |.tup b=>some b.length
 |.lst a=>match c[a]? with
  |some (_,b)=>some b.length
  |none=>none
 |.kt d=>some d.length
 |.str x=>if x.length<=Zu then some x.length else none
 |_=>none
noncomputable def Ze5(T:Ty):D->Ot Bool
 |.int _=>some (decide (T=.int))
 |.bl _=>some (decide (T=.int)||decide (T=.bool))
 |.str _=>some (decide (T=.str))
 |.tup _=>some (decide (T=.tuple))
 |.non=>some false
 |_=>none
noncomputable def Wg(rng:Bool)(x:D):Ot (Li D):=
 match rng,x with
 |true,.int n=>if n < 2 ^ 62/\-(2 ^ 62)<=n then some ((List.range n.toNat).map λ(k:Nat)=>D.int (k:Int)) else none
 |false,.tup a=>some a
 |_,_=>none
noncomputable def Yj(a b c:Int):Nat:=if 0 < c then (if a < b then ((b - a - 1) / c+1).toNat else 0) else (if b < a then ((a - b - 1) / (-c)+1).toNat else 0)
noncomputable def XY(a b c:Int):Bool:=decide ((-(2 ^ 30) < a/\a < 2 ^ 30)/\(-(2 ^ 30) < b/\b < 2 ^ 30)/\(c=1\/c=-1\/c=2\/c=3\/c=4))
noncomputable def XG(a b c:Int):Li Int:=(List.range (Yj a b c)).map λ(k:Nat)=>a+k * c
noncomputable def ZX(ok:Za->Prop)(f:D->Za->Res)(c:D->Za->Res):Li D->Za->Ot (Li D×Za)
 |[],b=>open Classical in if ok b then some ([],b) else none
 |x :: g,b=>open Classical in if ok b then (match c x b with
  |some (.bl true,a)=>match f x a with
   |some (y,e)=>match ZX ok f c g e with
    |some (h,d)=>some (y :: h,d)
    |none=>none
   |none=>none
  |some (.bl false,a)=>ZX ok f c g a
  |_=>none) else none
noncomputable def Xs(rng:Bool)(x:D)(e:Za):Ot (Li D×(Za->Prop)):=match Wg rng x with
 |some d=>some (d,λ_=>True)
 |none=>match rng,x with
  |false,.lst a=>match e[a]? with
   |some c=>some (c.2,λs=>s[a]?=some c)
   |none=>none
  |false,.dct [] [.int a,.int b]=>some ((XG a b 1).map .int,λ_=>True)
  |_,_=>none
noncomputable def YG:Nat->Li D->Li D
 |_,[]=>[]
 |k,x :: a=>.tup [.int (k:Int),x] :: YG (k+1) a
noncomputable def Uh(x:D)(d:Za):Ot (Li D×(Za->Prop)):=match x with
 |.tup b=>some (YG 0 b,λ_=>True)
 |.lst a=>match d[a]? with
  |some c=>some (YG 0 c.2,λs=>s[a]?=some c)
  |none=>none
 |_=>none
noncomputable def ZaU:D->Bool
 |.tup [_,_]=>true
 |_=>false
noncomputable def Wy(x:D)(d:Za):Ot (Li D×(Za->Prop)):=match x with
 |.tup b=>if b.all ZaU=true then some (b,λ_=>True) else none
 |.lst a=>match d[a]? with
  |some c=>if c.2.all ZaU=true then some (c.2,λs=>s[a]?=some c) else none
  |none=>none
 |_=>none
abbrev Ev:=Env->Za->Res
noncomputable def Zq(c:Ev)(g:D->Za->Res):Ev:=λU b=>match c U b with
 |some (x,a)=>g x a
 |none=>none
noncomputable def ZQ(e d:Ev)(g:D->D->Za->Res):Ev:=λU c=>match e U c with
 |some (x,b)=>match d U b with
  |some (y,a)=>g x y a
  |none=>none
 |none=>none
noncomputable def YC(h f e:Ev)(g:D->D->D->Za->Res):Ev:=λU d=>match h U d with
 |some (x,c)=>match f U c with
  |some (y,b)=>match e U b with
   |some (z,a)=>g x y z a
   |none=>none
  |none=>none
 |none=>none
noncomputable def Yq(e c d:Ev):Ev:=λU b=>match e U b with
 |some (.bl true,a)=>c U a
 |some (.bl false,a)=>d U a
 |_=>none
noncomputable def Xk(i:Nat):Ev:=λU a=>match U[i]? with
 |some (some d)=>some (d,a)
 |_=>none
noncomputable def evC(d:D):Ev:=λ_ a=>some (d,a)
noncomputable def Zfi:D->Za->Res
 |.int i,a=>some (.int (-i),a)
 |_,_=>none
noncomputable def Zbk:D->Za->Res
 |.bl k,a=>some (.bl (!k),a)
 |_,_=>none
noncomputable def Zcw(b:CmpOp)(x y:D)(a:Za):Res:=match Zcv b x y a with
 |some k=>some (.bl k,a)
 |none=>none
noncomputable def Zc1:D->Za->Res
 |.tup b,a=>some (.lst a.length,a++[(true,b)])
 |_,_=>none
noncomputable def WJ:D->D->Za->Res
 |x,.tup a,b=>if a.length < 1000 then some (.tup (x :: a),b) else none
 |_,_,_=>none
noncomputable def ixR(x y:D)(a:Za):Res:=match ixD x y a with
 |some d=>some (d,a)
 |none=>none
noncomputable def YS:D->D->D->Za->Res
 |x,.non,.non,a=>Z8 x none none a
 |x,.int i,.non,a=>Z8 x (some i) none a
 |x,.non,.int j,a=>Z8 x none (some j) a
 |x,.int i,.int j,a=>Z8 x (some i) (some j) a
 |_,_,_,_=>none
noncomputable def V9:D->Za->Res
 |.int i,a=>some (.int i,a)
 |_,_=>none
noncomputable def X7(g:Fn)(c:Li D):D->Za->Res
 |.tup a,b=>g (a++c) b
 |_,_=>none
noncomputable def Zbd(F:Nat->Fn)(tab:Li (Nat×Nat)):D->D->Za->Res
 |.obj i,.tup a,b=>match tab.lookup i with
  |some j=>F j (.obj i :: a) b
  |none=>none
 |_,_,_=>none
noncomputable def Zat(k:Str):Li Str->Ot Nat
 |[]=>none
 |a :: r=>if a=k then some 0 else (Zat k r).map (·+1)
noncomputable def Zf5:D->D->Za->Res
 |.kt b,.tup [.str k],a=>match Zat k b with
  |some i=>some (.int (i:Int),a)
  |none=>none
 |_,_,_=>none
noncomputable def Za4(x:D)(a:Za):Res:=match Zfa x a with
 |some n=>some (.int n,a)
 |none=>none
noncomputable def VA:D->Za->Res
 |.tup b,a=>some (.tup b,a)
 |.lst l,a=>match a[l]? with
  |some (_,b)=>some (.tup b,a)
  |none=>none
 |_,_=>none
noncomputable def Za6:D->Za->Res
 |.tup b,a=>some (.lst a.length,a++[(true,b)])
 |.lst l,a=>match a[l]? with
  |some (_,b)=>some (.lst a.length,a++[(true,b)])
  |none=>none
 |_,_=>none
noncomputable def Ze1:D->Za->Res
 |.int i,a=>some (.int i,a)
 |.bl true,a=>some (.int 1,a)
 |.bl false,a=>some (.int 0,a)
 |_,_=>none
noncomputable def Zfd:D->D->Za->Res
 |.int i,.int j,a=>some (.int (if j < i then j else i),a)
 |_,_,_=>none
noncomputable def Zfb:D->D->Za->Res
 |.int i,.int j,a=>some (.int (if j > i then j else i),a)
 |_,_,_=>none
noncomputable def ZaV(T:Ty)(x:D)(a:Za):Res:=match Ze5 T x with
 |some k=>some (.bl k,a)
 |none=>none
noncomputable def Ze3:D->Za->Res
 |.int i,a=>some (.int (-i - 1),a)
 |_,_=>none
noncomputable def Za9:D->D->Za->Res
 |.int a,.int b,c=>if XY a b 1=true/\b - a<=1000 then some (.lst c.length,c++[(true,(XG a b 1).map .int)]) else none
 |_,_,_=>none
noncomputable def Za7(b:Li Str)(c:Li D):D->Za->Res
 |.str k,a=>match ZY b c k with
  |some d=>some (d,a)
  |none=>none
 |_,_=>none
noncomputable def getD:D->D->D->Za->Res
 |.dct c a,.str k,d,b=>some ((ZY c a k).getD d,b)
 |_,_,_,_=>none
noncomputable def ZhJ(b:Bool):D->D->Za->Res
 |.int x,.int n,a=>if -(2 ^ 62)<=n/\n < 2 ^ 62 then some (.bl (b != decide (0<=x/\x < n)),a) else none
 |_,_,_=>none
noncomputable def ZdX(a:Li Str):D->Za->Res
 |.tup b,c=>if a.length=b.length/\(a.Nodup/\a≠[])/\a.length<=15 then some (.dct a b,c) else none
 |_,_=>none
noncomputable def one(d:D):Li (Ot D):=[some d]
noncomputable def two:D->Li (Ot D)
 |.tup [a,b]=>[some a,some b]
 |_=>[]
noncomputable def Q5:D->Li (Ot D)
 |.tup [a,b,c]=>[some a,some b,some c]
 |_=>[]
noncomputable def Ze4:D->Bool
 |.tup [_,_,_]=>true
 |_=>false
noncomputable def Zb6(x:D)(_:Za):Ot (Li D×(Za->Prop)):=match x with
 |.tup a=>if a.all Ze4=true then some (a,λ_=>True) else none
 |_=>none
noncomputable def ddE(h g f:Env->Za->Res):Env->Za->Res:=λU b=>match h U (b++[(true,[])]) with
 |some (.int i,d)=>match g U d with
  |some (.int j,c)=>match f U c with
   |some (v,a)=>match a[b.length]? with
    |some (true,e)=>if e.length < Zu then some (.dic b.length,a.set b.length (true,Wa e i j v)) else none
    |_=>none
   |none=>none
  |_=>none
 |_=>none
noncomputable def gtD:D->D->D->Za->Res
 |.dic a,.tup c,d,b=>(dAt c a b).map λo=>(o.getD d,b)
 |_,_,_,_=>none
noncomputable def Zdc:D->Za->Res
 |.lst a,c=>match c[a]? with
  |some (true,b)=>(b[b.length - 1]?).map λd=>(d,c.set a (true,b.dropLast))
  |_=>none
 |_,_=>none
noncomputable def kOf:D->Ot (Int×Int)
 |.tup [.int i,.int j,_]=>some (i,j)
 |_=>none
noncomputable def kLt(p q:Int×Int):Bool:=if p.1=q.1 then decide (p.2 < q.2) else decide (p.1 < q.1)
noncomputable def goT{b:Type}(f:Nat->Nat->Bool):W.KasT b->b
 |.ret a=>a
 |.ask i j k=>goT f (k (f i j))
noncomputable def ZP(a:Li D):Li (Int×Int):=a.map λe=>(kOf e).getD (0,0)
noncomputable def prD(p:Int×Int):D:=.tup [.int p.1,.int p.2]
noncomputable def W3(a:Li (Int×Int))(i j:Nat):Bool:=kLt (a.getD i (0,0)) (a.getD j (0,0))
noncomputable def pick{b:Type}(f:Nat->Nat->Bool)(z:b)(a:Li b):Li b:=if a.length < 2 then a else (goT f (W.kas_sort a.length)).toList.map λi=>a.getD i z
noncomputable def QB:D->Za->Res
 |.dic a,c=>match c[a]? with
  |some (_,b)=>if b.length < 64 then some (.lst c.length,c++[(true,pick (W3 (ZP b)) .non ((ZP b).map prD))]) else none
  |none=>none
 |_,_=>none
noncomputable def ZU(b:D->Li (Ot D))(U:Env)(a:Li Nat)(d:D):Env:=b d++a.map λi=>(U[i]?).join
noncomputable def Ye(b:D->Li (Ot D))(w:D->Za->Ot (Li D×(Za->Prop)))(f:Li Nat)(i j k:Ev):Ev:=λU h=>match i U h with
 |some (x,c)=>match w x c with
  |some (e,ok)=>if e.length<=1000 then
    match ZX ok (λd s=>j (ZU b U f d) s) (λd s=>k (ZU b U f d) s) e c with
    |some (g,a)=>some (.lst a.length,a++[(true,g)])
    |none=>none
   else none
  |none=>none
 |none=>none
noncomputable def ZdY:Ev:=λ_ a=>some (.dic a.length,a++[(true,[])])
noncomputable def ev(F:Nat->Fn):CE->Ev
 |.v i=>Xk i
 |.c d=>evC d
 |.bin m a b=>ZQ (ev F a) (ev F b) (Uv m)
 |.neg a=>Zq (ev F a) Zfi
 |.cmp m a b=>ZQ (ev F a) (ev F b) (Zcw m)
 |.not a=>Zq (ev F a) Zbk
 |.and a b=>Yq (ev F a) (ev F b) (evC (.bl false))
 |.or a b=>Yq (ev F a) (evC (.bl true)) (ev F b)
 |.ife c a b=>Yq (ev F c) (ev F a) (ev F b)
 |.tupE a=>ev F a
 |.lstE a=>Zq (ev F a) Zc1
 |.aN=>evC (.tup [])
 |.aC a r=>ZQ (ev F a) (ev F r) WJ
 |.ix a b=>ZQ (ev F a) (ev F b) ixR
 |.slice a s t=>YC (ev F a) (ev F s) (ev F t) YS
 |.nop=>evC .non
 |.part a=>Zq (ev F a) V9
 |.call f a p=>Zq (ev F a) (X7 (F f) p)
 |.len a=>Zq (ev F a) Za4
 |.tOf a=>Zq (ev F a) VA
 |.listOf a=>Zq (ev F a) Za6
 |.intOf a=>Zq (ev F a) Ze1
 |.min a b=>ZQ (ev F a) (ev F b) Zfd
 |.max a b=>ZQ (ev F a) (ev F b) Zfb
 |.isi T a=>Zq (ev F a) (ZaV T)
 |.rs _ _=>λ_ _=>none
 |.inv a=>Zq (ev F a) Ze3
 |.tupR _=>λ_ _=>none
 |.look n p a=>Zq (ev F a) (Za7 n p)
 |.dget a k d=>YC (ev F a) (ev F k) (ev F d) getD
 |.inR q a b=>ZQ (ev F a) (ev F b) (ZhJ q)
 |.all _=>λ_ _=>none
 |.any _=>λ_ _=>none
 |.comp rng l j g h=>Ye one (Xs rng) l (ev F j) (ev F g) (ev F h)
 |.comp2 l j g h=>Ye two Uh l (ev F j) (ev F g) (ev F h)
 |.compT l j g h=>Ye two Wy l (ev F j) (ev F g) (ev F h)
 |.lstR a b=>ZQ (ev F a) (ev F b) Za9
 |.new i=>evC (.obj i)
 |.meth tab o a=>ZQ (ev F o) (ev F a) (Zbd F tab)
 |.isc _ _=>λ_ _=>none
 |.tix o a=>ZQ (ev F o) (ev F a) Zf5
 |.dict n a=>Zq (ev F a) (ZdX n)
 |.dnew=>ZdY
 |.strOf _=>λ_ _=>none
 |.joinE _ _=>λ_ _=>none
 |.starts _ _=>λ_ _=>none
 |.rng2 _ _=>λ_ _=>none
 |.srt _=>λ_ _=>none
 |.comp3 l j g h=>Ye Q5 Zb6 l (ev F j) (ev F g) (ev F h)
 |.dd a b e=>ddE (ev F a) (ev F b) (ev F e)
 |.dgN o k d=>YC (ev F o) (ev F k) (ev F d) gtD
 |.pop o=>Zq (ev F o) Zdc
 |.ksrt o=>Zq (ev F o) QB
inductive Fl where
 |nx (U:Env)|rt (d:D)|bk (U:Env)|ct (U:Env)
noncomputable def Zf(U:Env)(i:Nat)(d:D):Env:=U.set i (some d)
noncomputable def Zj(b:D->Env->Za->Ot (Fl×Za)):Li D->Env->Za->Ot (Fl×Za)
 |[],U,c=>some (.nx U,c)
 |d :: e,U,c=>match b d U c with
  |some (.nx U',a)=>Zj b e U' a
  |some (.ct U',a)=>Zj b e U' a
  |some (.bk U',a)=>some (.nx U',a)
  |some (.rt v,a)=>some (.rt v,a)
  |none=>none
noncomputable def ZK(c:D->Env->Za->Ot (Fl×Za))(a:Nat):Nat->Nat->Env->Za->Ot (Fl×Za)
 |0,i,U,e=>match e[a]? with
  |some (_,f)=>if f.length<=i then some (.nx U,e) else none
  |none=>none
 |n+1,i,U,e=>match e[a]? with
  |some (_,f)=>match f[i]? with
   |none=>some (.nx U,e)
   |some d=>match c d U e with
    |some (.nx U',b)=>ZK c a n (i+1) U' b
    |some (.ct U',b)=>ZK c a n (i+1) U' b
    |some (.bk U',b)=>some (.nx U',b)
    |some (.rt v,b)=>some (.rt v,b)
    |none=>none
  |none=>none
abbrev Ex:=Env->Za->Ot (Fl×Za)
noncomputable def Yl(f g:Ex):Ex:=λU b=>match f U b with
 |some (.nx U',a)=>g U' a
 |r=>r
noncomputable def UX(f:Ev):Ex:=λU b=>match f U b with
 |some (d,a)=>some (.rt d,a)
 |none=>none
noncomputable def Wt(i:Nat)(f:Ev):Ex:=λU b=>match f U b with
 |some (d,a)=>some (.nx (Zf U i d),a)
 |none=>none
noncomputable def ZbO(i j:Nat)(f:Ev):Ex:=λU b=>match f U b with
 |some (.tup [x,y],a)=>some (.nx (Zf (Zf U i x) j y),a)
 |_=>none
noncomputable def ZbP(i j l:Nat)(f:Ev):Ex:=λU b=>match f U b with
 |some (.tup [x,y,z],a)=>some (.nx (Zf (Zf (Zf U i x) j y) l z),a)
 |_=>none
noncomputable def JV(f:Ev):Ex:=λU b=>match f U b with
 |some (_,a)=>some (.nx U,a)
 |none=>none
noncomputable def JZ(a:Nat)(d:D)(c:Za):Ot Za:=match c[a]? with
 |some (true,b)=>if b.length < Zu then some (c.set a (true,b++[d])) else none
 |_=>none
noncomputable def X0(a:Nat)(j:Int)(d:D)(c:Za):Ot Za:=match c[a]? with
 |some (true,b)=>match ixN b.length j with
  |some p=>some (c.set a (true,b.set p d))
  |none=>none
 |_=>none
noncomputable def J2(i:Nat)(f:Ev):Ex:=λU e=>match U[i]? with
 |some (some (.lst a))=>match f U e with
  |some (d,c)=>match JZ a d c with
   |some b=>some (.nx U,b)
   |none=>none
  |none=>none
 |_=>none
noncomputable def J0(o f:Ev):Ex:=λU g=>match o U g with
 |some (.lst a,e)=>match f U e with
  |some (d,c)=>match JZ a d c with
   |some b=>some (.nx U,b)
   |none=>none
  |none=>none
 |_=>none
noncomputable def ZeU(a b:Nat)(c:Za):Ot Za:=match c[a]?,c[b]? with
 |some (true,e),some (true,d)=>if e.length+d.length<=Zu then some (c.set a (true,e++d)) else none
 |_,_=>none
noncomputable def Zan(i:Nat)(f:Ev):Ex:=λU e=>match U[i]? with
 |some (some (.lst a))=>match f U e with
  |some (.lst b,d)=>match ZeU a b d with
   |some c=>some (.nx U,c)
   |none=>none
  |_=>none
 |_=>none
noncomputable def UT(i:Nat)(k f:Ev):Ex:=λU g=>match f U g with
 |some (d,e)=>match U[i]? with
  |some (some (.lst a))=>match k U e with
   |some (.int j,c)=>match X0 a j d c with
    |some b=>some (.nx U,b)
    |none=>none
   |_=>none
  |_=>none
 |none=>none
noncomputable def Zaj(i:Nat)(k j f:Ev):Ex:=λU h=>match f U h with
 |some (d,e)=>match U[i]? with
  |some (some (.dic a))=>match k U e with
   |some (.int x,c)=>match j U c with
    |some (.int y,b)=>match b[a]? with
     |some (true,g)=>if g.length < Zu then some (.nx U,b.set a (true,Wa g x y d)) else none
     |_=>none
    |_=>none
   |_=>none
  |_=>none
 |none=>none
noncomputable def ZV(c:Ev)(f g:Ex):Ex:=λU b=>match c U b with
 |some (.bl true,a)=>f U a
 |some (.bl false,a)=>g U a
 |_=>none
noncomputable def Wc(i:Nat)(rng:Bool)(g:Ev)(b:Ex):Ex:=λU f=>match g U f with
 |some (x,c)=>match Wg rng x with
  |some e=>Zj (λd U s=>b (Zf U i d) s) e U c
  |none=>match rng,x with
   |false,.lst a=>match c[a]? with
    |some (_,e)=>ZK (λd U s=>b (Zf U i d) s) a e.length 0 U c
    |none=>none
   |_,_=>none
 |none=>none
noncomputable def ZZ(ok:Za->Prop)(b:D->D->Env->Za->Ot (Fl×Za)):Li (D×D)->Env->Za->Ot (Fl×Za)
 |[],U,c=>open Classical in if ok c then some (.nx U,c) else none
 |p :: d,U,c=>open Classical in if ok c then (match b p.1 p.2 U c with
  |some (.nx U',a)=>ZZ ok b d U' a
  |some (.ct U',a)=>ZZ ok b d U' a
  |some (.bk U',a)=>some (.nx U',a)
  |some (.rt v,a)=>some (.rt v,a)
  |none=>none) else none
noncomputable def VS(i j:Nat)(f:Ev)(b:Ex):Ex:=λU e=>match f U e with
 |some (.tup [.tup d,.tup c],a)=>ZZ (λ_=>True) (λx y U s=>b (Zf (Zf U i x) j y) s) (d.zip c) U a
 |_=>none
noncomputable def Xj:Nat->Li D->Li (D×D)
 |_,[]=>[]
 |k,x :: a=>(.int (k:Int),x) :: Xj (k+1) a
noncomputable def Zhq(x:D)(d:Za):Ot (Li D×(Za->Prop)):=match x with
 |.tup b=>some (b,λ_=>True)
 |.lst a=>match d[a]? with
  |some c=>some (c.2,λs=>s[a]?=some c)
  |none=>none
 |_=>none
noncomputable def VR(i j:Nat)(e:Ev)(b:Ex):Ex:=λU d=>match e U d with
 |some (x,a)=>match Zhq x a with
  |some (c,ok)=>ZZ ok (λx y U s=>b (Zf (Zf U i x) j y) s) (Xj 0 c) U a
  |none=>none
 |none=>none
noncomputable def Wp(i j:Nat)(b:Ex)(d:D)(U:Env)(s:Za):Ot (Fl×Za):=match d with
 |.tup [x,y]=>b (Zf (Zf U i x) j y) s
 |_=>none
noncomputable def ZbY(i j l:Nat)(b:Ex)(d:D)(U:Env)(s:Za):Ot (Fl×Za):=match d with
 |.tup [x,y,z]=>b (Zf (Zf (Zf U i x) j y) l z) s
 |_=>none
noncomputable def Zar(i j l:Nat)(e:Ev)(b:Ex):Ex:=λU d=>match e U d with
 |some (.tup c,a)=>Zj (ZbY i j l b) c U a
 |_=>none
noncomputable def Zaq(i j:Nat)(f:Ev)(b:Ex):Ex:=λU e=>match f U e with
 |some (.lst a,c)=>match c[a]? with
  |some (_,d)=>ZK (Wp i j b) a d.length 0 U c
  |none=>none
 |some (.tup d,c)=>Zj (Wp i j b) d U c
 |_=>none
noncomputable def Z0(f g:Ex):Ex:=λU b=>match f U b with
 |some (.nx U',a)=>g U' a
 |some (.ct U',a)=>g U' a
 |some (.bk U',a)=>some (.nx U',a)
 |some (.rt v,a)=>some (.rt v,a)
 |none=>none
noncomputable def Z9(c:Ev)(b:Ex):Nat->Ex
 |0=>λ_ _=>none
 |n+1=>ZV c (Z0 b (Z9 c b n)) λU a=>some (.nx U,a)
noncomputable def ex(F:Nat->Fn):CS->Ex
 |.skip=>λU f=>some (.nx U,f)
 |.seq a b=>Yl (ex F a) (ex F b)
 |.ret e=>UX (ev F e)
 |.set i e=>Wt i (ev F e)
 |.app i e=>J2 i (ev F e)
 |.ext i e=>Zan i (ev F e)
 |.put i k e=>UT i (ev F k) (ev F e)
 |.ite c a b=>ZV (ev F c) (ex F a) (ex F b)
 |.for1 i rng d b=>Wc i rng (ev F d) (ex F b)
 |.forP i j d b=>VS i j (ev F d) (ex F b)
 |.forE i j d b=>VR i j (ev F d) (ex F b)
 |.for3 _ _ _=>λ_ _=>none
 |.set2 i j e=>ZbO i j (ev F e)
 |.for4 i j l d b=>Zar i j l (ev F d) (ex F b)
 |.for2 i j d b=>Zaq i j (ev F d) (ex F b)
 |.whl c b=>Z9 (ev F c) (ex F b) 1000
 |.brk=>λU f=>some (.bk U,f)
 |.cont=>λU f=>some (.ct U,f)
 |.stop=>λ_ _=>none
 |.set3 i j l e=>ZbP i j l (ev F e)
 |.act e=>JV (ev F e)
 |.dput i a b e=>Zaj i (ev F a) (ev F b) (ev F e)
 |.app2 o e=>J0 (ev F o) (ev F e)
structure FD where
 ps:Nat
 ns:Nat
 body:CS
noncomputable def fnD(F:Nat->Fn)(f:FD):Fn:=λb c=>
 if b.length=f.ps then
  match ex F f.body (b.map some++List.replicate (f.ns - b.length) none) c with
  |some (.rt d,a)=>some (d,a)
  |some (.nx _,a)=>some (.non,a)
  |_=>none
 else none
noncomputable def run(T:Nat->Ot FD):Nat->Nat->Fn
 |0,_=>λ_ _=>none
 |n+1,i=>match T i with
  |some f=>fnD (run T n) f
  |none=>λ_ _=>none
inductive GV where
 |fn (i:Nat) (ps:Nat) (ds:List D)|c (d:D)|blt|dct (ks:List Str) (ds:List D)|cls (i:Nat) (ms:List (Str×Nat×Nat)) (subs:List Nat)
abbrev Gs:=Li (Str×GV)
noncomputable def CE.ofConst:Const->Ot CE
 |.none=>some (.c .non)
 |.bool b=>some (.c (.bl b))
 |.int i=>some (.c (.int i))
 |.str x=>some (.c (.str x))
 |_=>none
noncomputable def Xo(sc:Scope)(x:Str):Bool:=!(x==("__debug__":Str))&&!(x==("__classdict__":Str))&&match sc.names.lookup x with
 |some .local=>true
 |some .cell=>true
 |some .free=>true
 |_=>false
noncomputable def ZB(sc:Scope)(x:Str):Bool:=!(x==("__debug__":Str))&&match sc.names.lookup x with
 |some .globalImplicit=>true
 |_=>false
noncomputable def Zhn(x:Str):Ot Ty:=
 if x = "int" then some .int else if x = "bool" then some .bool else if x = "str" then some .str else if x = "tuple" then some .tuple else none
noncomputable def ZG(sc:Scope):Li Str:=(sc.names.filter λp=>decide (p.2=.free)).map (·.1)
noncomputable def ZeG(f:Str)(x:CE):Ot CE:=
 if f = "len" then some (.len x) else if f = "tuple" then some (.tOf x) else if f = "list" then some (.listOf x) else if f = "int" then some (.intOf x) else if f = "sorted" then some (.ksrt x) else none
noncomputable def ZeH(f:Str)(x y:CE):Ot CE:=if f = "min" then some (.min x y) else if f = "max" then some (.max x y) else none
noncomputable def QA(G:Gs)(x:Str):Bool:=match G.lookup x with
 |some .blt=>true
 |_=>false
noncomputable def Zf6(G:Gs)(sc:Scope)(t:Str):Ot Ty:=if ZB sc t&&QA G t then Zhn t else none
noncomputable def Q8(G:Gs)(sc:Scope):Expr->Ot Ty
 |.Name t _=>Zf6 G sc t
 |_=>none
noncomputable def Uz(_:Gs)(_:Scope)(_:Expr):Ot (Li Nat):=none
noncomputable def Zd7(m:Str)(k:Nat)(G:Gs)(x:Str):Ot (Nat×Nat):=match G.lookup x with
 |some (.cls i b _)=>(match b.lookup m with
  |some (j,a)=>if a=k+1 then some (i,j) else none
  |none=>none)
 |_=>none
noncomputable def YY(m:Str)(k:Nat)(G:Gs):Li (Nat×Nat):=(G.map Prod.fst).filterMap (Zd7 m k G)
noncomputable def ZH:Li (Ot Expr)->Ot (Li Str)
 |[]=>some []
 |some (.Constant (.str k) _ _) :: r=>(ZH r).map (k :: ·)
 |_=>none
noncomputable def ZdU:Expr->Ot (Str×Li Expr)
 |.Call (.Name f _) a [] _=>some (f,a)
 |_=>none
noncomputable def fnA(G:Gs)(sc:Scope)(nm:Str)(e:Expr):Ot (Li Expr):=(ZdU e).bind λp=>og (p.1=nm/\ZB sc p.1=true/\QA G p.1=true) (some p.2)
noncomputable def Zfk:Li Expr->Ot Expr
 |[a]=>some a
 |_=>none
noncomputable def ZM(G:Gs)(sc:Scope)(e:Expr):Ot Expr:=(fnA G sc "range" e).bind Zfk
noncomputable def U6(_:Gs)(_:Scope)(_:Str)(_:Expr):Ot Expr:=none
noncomputable def Zhm:Li Expr->Ot (Expr×Expr)
 |[a,b]=>some (a,b)
 |_=>none
noncomputable def Vj(G:Gs)(sc:Scope)(f:Str)(e:Expr):Ot (Expr×Expr):=if f = "list" then (fnA G sc "range" e).bind Zhm else none
noncomputable def o3{g e d a:Type}(f:g->e->d->a):Ot g->Ot e->Ot d->Ot a
 |some x,b,c=>o2 (f x) b c
 |none,_,_=>none
variable{γ:Type}
theorem Wn{P:γ->Prop}{f:α->γ}{a:Ot α}{c:γ}(h:a.map f=some c)(k:∀ x,a=some x->P (f x)):P c:=by
 cases a with
 |none=>exact Zb h
 |some x=>cases h;exact k x rfl
variable{β:Type}
theorem ZO{P:γ->Prop}{f:α->β->γ}{a:Ot α}{b:Ot β}{c:γ}(h:o2 f a b=some c)(k:∀ x y,a=some x->b=some y->P (f x y)):P c:=by
 cases a with
 |none=>exact Zb h
 |some x=>cases b with
  |none=>exact Zb h
  |some y=>cases h;exact k x y rfl rfl
theorem YZ{g:Type}{P:g->Prop}{f:α->β->γ->g}{a:Ot α}{b:Ot β}{d:Ot γ}{c:g}(h:o3 f a b d=some c)(k:∀ x y z,a=some x->b=some y->d=some z->P (f x y z)):P c:=by
 cases a with
 |none=>exact Zb h
 |some x=>exact ZO (P:=P) h λy z e i=>k x y z rfl e i
theorem Y0{P:Prop}{p:Prop}[Decidable p]{o:Ot α}{c:α}(h:og p o=some c)(k:p->o=some c->P):P:=by
 unfold og at h;by_cases a:p
 ·rw[if_pos a]at h;exact k a h
 ·rw[if_neg a]at h;cases h
theorem j_e{P:Prop}{o:Ot (Ot α)}{c:α}(h:o.join=some c)(k:o=some (some c)->P):P:=by
 cases o with
 |none=>exact Zb h
 |some x=>cases h;exact k rfl
noncomputable def J7(G:Gs)(sc:Scope)(f:Str)(a:Expr)(r:Expr->Ot CE):Ot CE:=match U6 G sc f a with
 |some e=>(r e).map .tupR
 |none=>match Vj G sc f a with
  |some (u,v)=>o2 .lstR (r u) (r v)
  |none=>((r a).map (ZeG f)).join
noncomputable def J8(G:Gs)(sc:Scope)(f:Str)(a b:Expr)(r:Expr->Ot CE):Ot CE:=if f = "isinstance" then (match Uz G sc b with
  |some l=>(r a).map (.isc l)
  |none=>o2 (λx T=>.isi T x) (r a) (Q8 G sc b)) else (o2 (ZeH f) (r a) (r b)).join
noncomputable def Zab(G:Gs)(sc:Scope)(f:Str)(d:Li Expr)(h:Ot CE)(r:Expr->Ot CE):Ot CE:=
 if ZB sc f then (match G.lookup f with
   |some (.fn i e g)=>og (d.length<=e/\e<=d.length+g.length) (h.map λc=>.call i c (g.drop (d.length+g.length - e)))
   |some .blt=>match d with
    |[a]=>J7 G sc f a r
    |[a,b]=>J8 G sc f a b r
    |_=>none
   |some (.cls i _ _)=>match d with
    |[]=>some (.new i)
    |_=>none
   |_=>none) else none
noncomputable def ZhI(o:Ot CE)(d:Li Expr)(r:Expr->Ot CE):Ot CE:=match d with
 |[a]=>o2 (λx y=>.dgN x y (.c .non)) o (r a)
 |[a,b]=>o3 .dgN o (r a) (r b)
 |_=>none
noncomputable def ZdS(G:Gs)(c:Expr)(m:Str)(g:Pos)(d:Li Expr)(f:Pos)(e:Ot CE)(r:Expr->Ot CE):Ot CE:=match c with
 |.Dict _ _ _=>(match d with
  |[a,b]=>og (m = "get"/\(g.endLine==f.line)=true) (o3 .dget (r c) (r a) (r b))
  |_=>none)
 |.Name _ _=>og ((g.endLine==f.line)=true/\d.length < 20) (if m = "pop" then og (d.length=0) ((r c).map .pop) else if m = "get" then ZhI (r c) d r else if m = "index" then og (d.length=1) (o2 .tix (r c) e) else o2 (.meth (YY m d.length G)) (r c) e)
 |_=>none
noncomputable def Zgu(G:Gs)(sc:Scope)(f:Expr)(b:Li Expr)(d:Pos)(a:Ot CE)(r:Expr->Ot CE):Ot CE:=match f with
 |.Name f _=>Zab G sc f b a r
 |.Attribute c m e=>ZdS G c m e b d a r
 |_=>none
noncomputable def ZhL:Expr->Bool
 |.Slice ..=>true
 |_=>false
noncomputable def cVs(f:Expr->Ot CE):Li Expr->Ot CE
 |[]=>some .aN
 |e :: a=>match f e,cVs f a with
  |some x,some r=>some (.aC x r)
  |_,_=>none
noncomputable def WS:Expr->Ot (Expr×Expr)
 |.Tuple [a,b] _ _=>some (a,b)
 |_=>none
noncomputable def QQ:Li (Ot Expr)->Ot (Expr×Expr)
 |[some e]=>WS e
 |_=>none
noncomputable def Zc7:Li Expr->Ot Expr
 |[e]=>some e
 |_=>none
noncomputable def ZhE(f:Expr->Ot CE)(a:Li (Ot Expr))(b:Li Expr):Ot CE:=match a with
 |[]=>og (b.length=0) (some .dnew)
 |_=>match QQ a with
  |some p=>o3 .dd (f p.1) (f p.2) ((Zc7 b).bind f)
  |none=>og (a.length=b.length/\a≠[]/\a.length<=15) (o2 .dict (ZH a) (cVs f b))
noncomputable def XF(_:Gs)(_:Scope)(_:Expr):Ot (Li Expr):=none
noncomputable def Xt(G:Gs)(sc:Scope)(e:Expr):Ot (Li Expr):=(fnA G sc "zip" e).bind λa=>og (a.length=2) (some a)
noncomputable def YV(G:Gs)(sc:Scope)(e:Expr):Ot Expr:=(fnA G sc "enumerate" e).bind Zfk
noncomputable def XU(G:Gs)(sc:Scope)(e:Expr):Ot Expr:=YV G sc e
noncomputable def nmE:Expr->Ot Str
 |.Name x _=>some x
 |_=>none
noncomputable def nmL:Li Expr->Ot (Li Str)
 |[a,b]=>o2 (λx y=>[x,y]) (nmE a) (nmE b)
 |[a,b,c]=>o3 (λx y z=>[x,y,z]) (nmE a) (nmE b) (nmE c)
 |_=>none
noncomputable def tgN:Expr->Ot (Li Str)
 |.Name x _=>some [x]
 |.Tuple a _ _=>nmL a
 |_=>none
noncomputable def mkC(n:Nat)(r:Ot (Ot Bool))(a:Li Nat)(c d e:CE):CE:=if n=3 then .comp3 a c d e else match r with
 |some (some b)=>.comp b a c d e
 |some none=>.comp2 a c d e
 |none=>.compT a c d e
noncomputable def YQ(N:Li Str):Li Str->Ot (Li Nat)
 |[]=>some []
 |x :: r=>match N.idxOf? x,YQ N r with
  |some i,some is=>some (i :: is)
  |_,_=>none
noncomputable def Zbh(G:Gs)(sc:Scope)(N:Li Str)(x:Str):Ot CE:=
 if Xo sc x then (N.idxOf? x).map .v else if ZB sc x then (match G.lookup x with
  |some (.c d)=>some (.c d)
  |_=>none) else none
noncomputable def QG(G:Gs)(sc:Scope):Expr->Ot (Li Str×Li D)
 |.Name x _=>if ZB sc x then (match G.lookup x with
  |some (.dct a b)=>some (a,b)
  |_=>none) else none
 |_=>none
noncomputable def XZ:Expr->Ot (Ot Expr×Ot Expr)
 |.Slice a b none _=>some (a,b)
 |_=>none
noncomputable def Zeg(_:Expr):Ot Expr:=none
noncomputable def ZhK:CE->Bool
 |.neg (.c (.int 1))=>true
 |_=>false
noncomputable def Wf(sc:Scope)(x:Str):Bool:=match sc.names.lookup x with
 |some .cell=>true
 |some .free=>true
 |_=>false
noncomputable def YK(sc a:Scope)(b:Li Str):Bool:=
 decide (a.kind=.function)&&(a.names.all λp=>decide (p.2≠.cell))&&(b.all λx=>decide (a.names.lookup x=some .local))&&(a.names.all λp=>!decide (p.2=.local)||decide (a.names.lookup p.1=some .local)) &&
 decide (b++ZG a).Nodup&&(ZG a).all (λy=>Wf sc y&&decide (a.names.lookup y=some .free))
noncomputable def ZeZ(_:CmpOp):Ot Bool:=none
noncomputable def unC(b:UnaryOp)(a:Ot CE):Ot CE:=match b with
 |.Not=>a.map .not
 |.USub=>a.map .neg
 |.Invert=>a.map .inv
 |_=>none
noncomputable def Zgw(G:Gs)(sc:Scope)(f:Expr->Ot CE)(a:Ot CE):Li CmpOp->Li Expr->Ot CE
 |[c],[b]=>(match ZM G sc b with
  |some e=>o3 .inR (ZeZ c) a (f e)
  |none=>o2 (.cmp c) a (f b))
 |_,_=>none
noncomputable def ZdT(f:Expr->Ot CE)(d:BoolOp)(c:Pos):Li Expr->Ot CE
 |[]=>none
 |[a]=>f a
 |a :: b :: r=>match d with
  |.And=>o2 .and (f a) (f (.BoolOp .And (b :: r) c))
  |.Or=>o2 .or (f a) (f (.BoolOp .Or (b :: r) c))
noncomputable def Zf3(G:Gs)(sc:Scope)(f:Expr->Ot CE)(c:Ot Expr->Ot CE)(a b:Expr):Ot CE:=match XZ b with
 |some (d,g)=>o3 .slice (f a) (c d) (c g)
 |none=>match Zeg b with
  |some s=>(o2 (λx y=>og (ZhK y=true) (some (.rs false x))) (f a) (f s)).join
  |none=>match QG G sc a with
   |some (e,h)=>(f b).map (.look e h)
   |none=>o2 .ix (f a) (f b)
noncomputable def itC(G:Gs)(sc:Scope)(b:Expr)(f:Expr->Ot CE):Li Str->Ot (Ot (Ot Bool)×CE)
 |[_]=>(match ZM G sc b with
  |some a=>(f a).map λc=>(some (some true),c)
  |none=>(f b).map λc=>(some (some false),c))
 |[_,_]=>(match YV G sc b with
  |some a=>(f a).map λc=>(some none,c)
  |none=>(f b).map λc=>(none,c))
 |_=>(match YV G sc b with
  |some _=>none
  |none=>(f b).map λc=>(none,c))
noncomputable def ifC(f:Expr->Ot CE):Li Expr->Ot CE
 |[]=>some (CE.c (.bl true))
 |[c]=>f c
 |_=>none
noncomputable def ZdV(G:Gs)(sc a:Scope)(N:Li Str)(f:Expr->Ot CE)(g:Li Str->Expr->Ot CE)(d:Expr):Li Comprehension->Ot CE
 |[⟨e,h,c,0⟩]=>(match tgN e with
  |none=>none
  |some b=>og (YK sc a b=true) (o3 (λi p (q:CE×CE)=>mkC b.length p.1 i p.2 q.1 q.2) (YQ N (ZG a)) (itC G sc h f b) (o2 Prod.mk (g (b++ZG a) d) (ifC (g (b++ZG a)) c))))
 |_=>none
mutual
noncomputable def cE(G:Gs):Nat->Scope->Li Str->Expr->Ot CE
 |0,_,_,_=>none
 |n+1,sc,N,e=>match e with
  |.Constant c _ _=>CE.ofConst c
  |.Name x _=>Zbh G sc N x
  |.BinOp a h b _=>o2 (.bin h) (cE G n sc N a) (cE G n sc N b)
  |.UnaryOp h a _=>unC h (cE G n sc N a)
  |.Compare a l bs _=>Zgw G sc (cE G n sc N) (cE G n sc N a) l bs
  |.BoolOp h q k=>ZdT (cE G n sc N) h k q
  |.IfExp c a b _=>o3 .ife (cE G n sc N c) (cE G n sc N a) (cE G n sc N b)
  |.Tuple m _ _=>(cEs G n sc N m).map .tupE
  |.List m _=>(cEs G n sc N m).map .lstE
  |.Dict i d _=>ZhE (cE G n sc N) i d
  |.Subscript a b _=>Zf3 G sc (cE G n sc N) (cO G n sc N) a b
  |.Call f p [] r=>Zgu G sc f p r (cEs G n sc N p) (cE G n sc N)
  |.ListComp o j g _=>ZdV G sc g N (cE G n sc N) (cE G n g) o j
  |_=>none
noncomputable def cEs(G:Gs):Nat->Scope->Li Str->Li Expr->Ot CE
 |0,_,_,_=>none
 |_+1,_,_,[]=>some .aN
 |n+1,sc,N,e :: a=>o2 .aC (cE G n sc N e) (cEs G n sc N a)
noncomputable def cO(G:Gs):Nat->Scope->Li Str->Ot Expr->Ot CE
 |0,_,_,_=>none
 |_+1,_,_,none=>some .nop
 |n+1,sc,N,some e=>(cE G n sc N e).map .part
end
noncomputable def YN:Expr->Bool
 |.ListComp ..=>true
 |.SetComp ..=>true
 |.DictComp ..=>true
 |_=>false
noncomputable def V3:Expr->Bool
 |.Tuple ..=>true
 |_=>false
noncomputable def Zgt(N:Li Str)(a e:Expr)(c:Ot CE):Ot CS:=match a with
 |.Name x _=>o2 .set (N.idxOf? x) c
 |.Tuple [.Name x _,.Name y _] _ _=>og ((YN e||V3 e)=false) (o3 (λi j c=>og (i≠j) (some (.set2 i j c))) (N.idxOf? x) (N.idxOf? y) c).join
 |.Tuple [.Name x _,.Name y _,.Name z _] _ _=>og ((YN e||V3 e)=false) (o3 (λi j (p:Nat×CE)=>.set3 i j p.1 p.2) (N.idxOf? x) (N.idxOf? y) (o2 Prod.mk (N.idxOf? z) c))
 |_=>none
noncomputable def ZgV(sc:Scope)(N:Li Str)(x:Str)(k e:Expr)(f:Expr->Ot CE):Ot CS:=og (YN e=false/\ZhL k=false/\Xo sc x=true) (match WS k with
 |some (a,b)=>o3 (λi (p:CE×CE) c=>.dput i p.1 p.2 c) (N.idxOf? x) (o2 Prod.mk (f a) (f b)) (f e)
 |none=>o3 .put (N.idxOf? x) (f k) (f e))
noncomputable def ZeW(G:Gs)(sc:Scope)(N:Li Str)(f:Expr->Ot CE)(fs:Li Expr->Ot CE)(h d:Expr)(b:Ot CS):Ot CS:=match h with
 |.Name x _=>(match XF G sc d with
  |some g=>o3 .for3 (N.idxOf? x) (fs g) b
  |none=>match ZM G sc d with
   |some a=>o3 (λi c b=>.for1 i true c b) (N.idxOf? x) (f a) b
   |none=>o3 (λi c b=>.for1 i false c b) (N.idxOf? x) (f d) b)
 |.Tuple [.Name x _,.Name y _] _ _=>(o2 (λi j=>og (i≠j) (some (i,j))) (N.idxOf? x) (N.idxOf? y)).join.bind λp=>(match Xt G sc d with
  |some g=>o2 (.forP p.1 p.2) (fs g) b
  |none=>match XU G sc d with
   |some e=>o2 (.forE p.1 p.2) (f e) b
   |none=>o2 (.for2 p.1 p.2) (f d) b)
 |.Tuple [.Name x _,.Name y _,.Name z _] _ _=>o3 (λ(p:Nat×Nat) (q:Nat×CE) b=>.for4 p.1 p.2 q.1 q.2 b) (o2 Prod.mk (N.idxOf? x) (N.idxOf? y)) (o2 Prod.mk (N.idxOf? z) (f d)) b
 |_=>none
noncomputable def Zgs(sc:Scope)(N:Li Str)(x m:Str)(b a:Pos)(c:Ot CE):Ot CS:=og (Xo sc x=true/\(b.endLine==a.line)=true) (if m = "append" then o2 .app (N.idxOf? x) c else if m = "extend" then o2 .ext (N.idxOf? x) c else none)
noncomputable def Zgq(sc:Scope)(N:Li Str)(f:Expr->Ot CE):Expr->Ot CS
 |.Call (.Name g d) h c a=>(f (.Call (.Name g d) h c a)).map .act
 |.Call (.Attribute (.Name x _) m b) [e] [] a=>Zgs sc N x m b a (f e)
 |.Call (.Attribute (.Subscript o k p) m b) [e] [] a=>og (m = "append"/\(b.endLine==a.line)=true) (o2 .app2 (f (.Subscript o k p)) (f e))
 |_=>none
mutual
noncomputable def cS(G:Gs):Nat->Scope->Li Str->Stmt->Ot CS
 |0,_,_,_=>none
 |n+1,sc,N,s=>match s with
  |.Assign [.Subscript (.Name x _) k _] e _=>ZgV sc N x k e (cE G n sc N)
  |.Assign [d] e _=>Zgt N d e (cE G n sc N e)
  |.Expr e _=>Zgq sc N (cE G n sc N) e
  |.Return (some e) _=>(cE G n sc N e).map .ret
  |.If c a b _=>o3 .ite (cE G n sc N c) (cSs G n sc N a) (cSs G n sc N b)
  |.For d f b [] _=>ZeW G sc N (cE G n sc N) (cEs G n sc N) d f (cSs G n sc N b)
  |.While c b [] _=>o2 .whl (cE G n sc N c) (cSs G n sc N b)
  |.Pass _=>some .skip
  |.Break _=>some .brk
  |.Continue _=>some .cont
  |.Raise _ _ _=>some .stop
  |_=>none
noncomputable def cSs(G:Gs):Nat->Scope->Li Str->Li Stmt->Ot CS
 |0,_,_,_=>none
 |_+1,_,_,[]=>some .skip
 |n+1,sc,N,s :: r=>o2 .seq (cS G n sc N s) (cSs G n sc N r)
end
end Dp
namespace Dp
open PySem PySem.Spec PyProof.Rows L2
class ClsTab where
 ca:Nat->Addr
variable [ClsTab]
variable{X:Cx}{e:Expr}
theorem Zl{t a:TE}(h:PE X e t)(i:∀ O H Q,a O H Q->t O H Q):PE X e a:=λb s O H Q I q=>h b s O H Q I (i O H Q q)
theorem Wr{t a:TT}(h:PT X e t)(i:∀ O H Q,a O H Q->t O H Q):PT X e a:=λb s O H Q I q=>h b s O H Q I (i O H Q q)
theorem Zbw{e:Li Expr}{t b:TA}(h:PA X e t)(i:∀ O H Q,b O H Q->t O H Q):PA X e b:=λa c s O H Q I q=>h a c s O H Q I (i O H Q q)
theorem ZbA{e:Ot Expr}{t a:TO}(h:PO X e t)(i:∀ O H Q,a O H Q->t O H Q):PO X e a:=λb s O H Q I q=>h b s O H Q I (i O H Q q)
theorem Zw{e:Stmt}{t a:TS}(h:PS X e t)(i:∀ D O H,a D O H->t D O H):PS X e a:=λb s O H D I q=>h b s O H D I (i D O H q)
theorem QT{e:Li Stmt}{t a:TS}(h:PSs X e t)(i:∀ D O H,a D O H->t D O H):PSs X e a:=λb s O H D I q=>h b s O H D I (i D O H q)
def KT(K:fG7)(a:Ad)(b:Li V):Prop:=
 ∃ (o:Obj) (its:Array vL) (n:Nat),K.lookup a=some o/\o.cls=.type "tuple"/\o.data=.seq its n/\its.size<=sizeLine/\Vals b its.toList
def TupAt(K:fG7)(H:Hp)(a:Ad)(b:Li V):Prop:=H a=some (.tup b)\/KT K a b
variable{K:fG7}{H:Hp}{xs:Li V}
theorem TupAt.sq{a:Ad}(h:TupAt K H a xs):SqT K H a xs:=by
 rcases h with h|h
 ·exact .inl (.inl h)
 ·exact .inr h
def Z6(H:Hp)(a:Ad):Prop:=∃ b,H a=some (.dT b)
def LA(b:Li Ad)(H:Hp)(i:Nat)(a:Ad):Prop:=b[i]?=some a/\¬Z6 H a
variable{o:HO}
theorem Wm{a:Ad}(h:H a=some o)(n:∀ b,o≠.dT b):¬Z6 H a:=λ⟨b,z⟩=>n b (Option.some.inj (h.symm.trans z))
mutual
inductive Den(K:fG7)(ad:List Addr)(H:Hp):V->D->Prop where
 |non:Den K ad H .non .non
 |bl (b:Bool):Den K ad H (.bl b) (.bl b)
 |int (i:Int):Den K ad H (.int i) (.int i)
 |str (x:Str):Den K ad H (.str x) (.str x)
 |tup {a:Addr}{xs:List V}{ds:List D} (h:TupAt K H a xs) (r:Dens K ad H xs ds):Den K ad H (.ref a) (.tup ds)
 |lst {a:Addr}{i:Nat} (h:LA ad H i a):Den K ad H (.ref a) (.lst i)
 |dic {a:Addr}{i:Nat} (h:ad[i]?=some a) (n:Z6 H a):Den K ad H (.ref a) (.dic i)
 |dct {a:Addr}{kvs:List (Key×V)}{ks:List Str}{vs:List V}{ds:List D} (h:H a=some (.dK kvs)) (hk:kvs=(ks.zip vs).map λp=>(Sum.inr p.1,p.2)) (nd:ks.Nodup/\ks≠[]) (hl:ks.length=vs.length) (r:Dens K ad H vs ds):Den K ad H (.ref a) (.dct ks ds)
 |obj {a dx:Addr}{i:Nat} (h:H a=some (.ins (ClsTab.ca i) dx [])) (n:a∉ad):Den K ad H (.ref a) (.obj i)
 |kt {a:Addr}{ks:List Str}{o:Obj}{its:Array Value}{n:Nat} (l:K.lookup a=some o) (c:o.cls=.type "tuple") (g:o.dict=none) (e:o.data=.seq its n) (z:its.size<=sizeLine) (r:Vals (ks.map V.str) its.toList):Den K ad H (.ref a) (.kt ks)
inductive Dens(K:fG7)(ad:List Addr)(H:Hp):List V->List D->Prop where
 |nil:Dens K ad H [] []
 |cons {v:V}{d:D}{vs:List V}{ds:List D} (h:Den K ad H v d) (r:Dens K ad H vs ds):Dens K ad H (v :: vs) (d :: ds)
end
structure Ext(ad:List Addr)(H:Hp)(ad':List Addr)(H':Hp):Prop where
 pre:∀ (i:Nat) (a:Addr),ad[i]?=some a->ad'[i]?=some a
 tup:∀ b xs,H b=some (.tup xs)->H' b=some (.tup xs)
 dk:∀ b kvs,H b=some (.dK kvs)->H' b=some (.dK kvs)
 keep:∀ b o,H b=some o->b∉ad->H' b=some o
 new:∀ b,b∈ad'->b∈ad\/H b=none
 kd:∀ (i:Nat) (a:Addr),ad[i]?=some a->(Z6 H a↔Z6 H' a)
theorem Ext.refl(a:Li Ad)(H:Hp):Ext a H a H:=⟨λ_ _ h=>h,λ_ _ h=>h,λ_ _ h=>h,λ_ _ h _=>h,λ_ h=>.inl h,λ_ _ _=>Iff.rfl⟩
theorem Ext.trans{d j g:Li Ad}{f l k:Hp}(x:Ext d f j l)(y:Ext j l g k):Ext d f g k:=by
 refine⟨λi a h=>y.pre i a (x.pre i a h),λb c h=>y.tup b c (x.tup b c h),λb c h=>y.dk b c (x.dk b c h),λb o h n=>?_,λb h=>?_,λi a h=>(x.kd i a h).trans (y.kd i a (x.pre i a h))⟩
 ·refine y.keep b o (x.keep b o h n) λz=>?_
  rcases x.new b z with z|z
  ·exact n z
  ·rw[h]at z;cases z
 ·rcases y.new b h with z|z
  ·exact x.new b z
  ·cases e:f b with
   |none=>exact .inr rfl
   |some o=>
    by_cases q:b∈d
    ·exact .inl q
    ·rw[x.keep b o e q]at z;cases z
variable{ad ad':Li Ad}{H':Hp}
theorem TupAt.mono{a:Ad}(x:Ext ad H ad' H')(h:TupAt K H a xs):TupAt K H' a xs:=h.imp (x.tup _ _) id
theorem TupAt.upd{K:fG7}{H:Hp}{a p:Ad}{b:Li V}{o d:HO}(c:H p=some o)(e:∀ b,o≠.tup b)(h:TupAt K H a b):TupAt K (upd H p d) a b:=by
 rcases h with h|h
 ·refine .inl ?_
  have n:a≠p:=λz=>by subst z;rw[h]at c;cases c;exact e _ rfl
  rw[upd_ne n];exact h
 ·exact .inr h
variable{ks:Li Str}{vs ys:Li V}{d:D}{ds es:Li D}{i:Nat}{kvs kvs':Li (Li Key×V)}{st:Za}{p:Ad}{α:Type}{O:L2.St}{U:Env}
variable{K:fG7}{ad ad':Li Ad}{H H':Hp}
theorem Zga(h:ks≠[])(a:ks.length=vs.length):(ks.zip vs).map (λp=>((Sum.inr p.1:Key),p.2))≠[]:=by
 cases ks with
 |nil=>exact absurd rfl h
 |cons k ks=>cases vs with
  |nil=>cases a
  |cons v vs=>exact cL _ _
structure Keeps(K:fG7)(ad ad':List Addr)(H H':Hp):Prop where
 t:∀ {a xs},TupAt K H a xs->TupAt K H' a xs
 l:∀ {i:Nat}{a:Addr},ad[i]?=some a->ad'[i]?=some a/\(Z6 H a↔Z6 H' a)
 k:∀ {a kvs},kvs≠[]->H a=some (.dK kvs)->H' a=some (.dK kvs)
 o:∀ {a C dx},H a=some (.ins C dx [])->a∉ad->H' a=some (.ins C dx [])/\a∉ad'
theorem Den.map(x:Keeps K ad ad' H H'){v:V}(h:Den K ad H v d):Den K ad' H' v d:=
 Den.rec (motive_1:=λv d _=>Den K ad' H' v d) (motive_2:=λvs ds _=>Dens K ad' H' vs ds) .non .bl .int .str (λh _ r=>.tup (x.t h) r) (λh=>.lst ⟨(x.l h.1).1,λz=>h.2 ((x.l h.1).2.mpr z)⟩) (λh n=>.dic (x.l h).1 ((x.l h).2.mp n)) (λh f c e _ r=>.dct (x.k (λz=>Zga c.2 e (f.symm.trans z)) h) f c e r) (λh n=>.obj (x.o h n).1 (x.o h n).2) .kt .nil (λ_ _ a b=>.cons a b) h
theorem Dens.map(x:Keeps K ad ad' H H')(h:Dens K ad H vs ds):Dens K ad' H' vs ds:=
 Dens.rec (motive_1:=λ_ _ _=>True) (motive_2:=λvs ds _=>Dens K ad' H' vs ds) trivial (λ_=>trivial) (λ_=>trivial) (λ_=>trivial) (λ_ _ _=>trivial) (λ_=>trivial) (λ_ _=>trivial) (λ_ _ _ _ _ _=>trivial) (λ_ _=>trivial) (λ_ _ _ _ _ _=>trivial) .nil (λa _ _ b=>.cons (a.map x) b) h
theorem Ext.keeps(x:Ext ad H ad' H'):Keeps K ad ad' H H':=⟨λh=>h.mono x,λh=>⟨x.pre _ _ h,x.kd _ _ h⟩,λ_ h=>x.dk _ _ h,λh n=>⟨x.keep _ _ h n,λz=>(x.new _ z).elim n λq=>by rw[h]at q;cases q⟩⟩
theorem Den.mono(x:Ext ad H ad' H'){v:V}(h:Den K ad H v d):Den K ad' H' v d:=h.map x.keeps
theorem Dens.mono(x:Ext ad H ad' H')(h:Dens K ad H vs ds):Dens K ad' H' vs ds:=h.map x.keeps
theorem Ze6(x:∀ (i:Nat) (a:Ad),ad[i]?=some a->ad'[i]?=some a)(y:∀ b,b∈ad'->b∈ad\/∃ c,H b=some (.lst c)):Keeps K ad ad' H H:=⟨id,λh=>⟨x _ _ h,Iff.rfl⟩,λ_ h=>h,λh n=>⟨h,λz=>(y _ z).elim n λ⟨c,q⟩=>by rw[h]at q;cases q⟩⟩
theorem Dens.length:∀ {vs:Li V}{ds:Li D},Dens K ad H vs ds->vs.length=ds.length
 |_,_,.nil=>rfl
 |_,_,.cons _ r=>congrArg (·+1) (Dens.length r)
theorem Dens.get:∀ {vs:Li V}{ds:Li D}{i:Nat}{d:D},Dens K ad H vs ds->ds[i]?=some d->∃ v,vs[i]?=some v/\Den K ad H v d
 |_,_,_,_,.nil,e=>by simp at e
 |_,_,0,_,.cons h _,e=>by simp at e;subst e;exact⟨_,rfl,h⟩
 |_,_,i+1,d,.cons _ r,e=>by
  obtain⟨v,b,a⟩:=Dens.get (i:=i) (d:=d) r (by simpa using e)
  exact⟨v,by simpa using b,a⟩
theorem Dens.append:∀ {vs ws:Li V}{ds es:Li D},Dens K ad H vs ds->Dens K ad H ws es->Dens K ad H (vs++ws) (ds++es)
 |_,_,_,_,.nil,s=>s
 |_,_,_,_,.cons h r,s=>.cons h (Dens.append r s)
theorem Dens.take:∀ {vs:Li V}{ds:Li D} (n:Nat),Dens K ad H vs ds->Dens K ad H (vs.take n) (ds.take n)
 |_,_,0,_=>.nil
 |_,_,_+1,.nil=>.nil
 |_,_,n+1,.cons h r=>.cons h (Dens.take n r)
theorem Dens.drop:∀ {vs:Li V}{ds:Li D} (n:Nat),Dens K ad H vs ds->Dens K ad H (vs.drop n) (ds.drop n)
 |_,_,0,r=>r
 |_,_,_+1,.nil=>.nil
 |_,_,n+1,.cons _ r=>Dens.drop n r
theorem Dens.set{v:V}(h:Den K ad H v d):∀ {vs:Li V}{ds:Li D} (n:Nat),Dens K ad H vs ds->Dens K ad H (vs.set n v) (ds.set n d)
 |_,_,_,.nil=>.nil
 |_,_,0,.cons _ r=>.cons h r
 |_,_,n+1,.cons q r=>.cons q (Dens.set h n r)
theorem Dens.rep{v:V}(h:Den K ad H v d):∀ n:Nat,Dens K ad H (List.replicate n v) (List.replicate n d)
 |0=>.nil
 |n+1=>.cons h (Dens.rep h n)
theorem Den.ofInt{v:V}{i:Int}(h:Den K ad H v (.int i)):v=.int i:=by cases h;rfl
theorem Den.ofStr{v:V}{x:Str}(h:Den K ad H v (.str x)):v=.str x:=by cases h;rfl
theorem Den.ofBl{v:V}{b:Bool}(h:Den K ad H v (.bl b)):v=.bl b:=by cases h;rfl
theorem Den.ofDct{v:V}(h:Den K ad H v (.dct ks ds)):∃ a vs,v=.ref a/\H a=some (.dK ((ks.zip vs).map λp=>(Sum.inr p.1,p.2)))/\ks.length=vs.length/\Dens K ad H vs ds:=by
 cases h with
 |dct h c d b r=>subst c;exact⟨_,_,rfl,h,b,r⟩
theorem Den.ofTup{v:V}(h:Den K ad H v (.tup ds)):∃ a b,v=.ref a/\TupAt K H a b/\Dens K ad H b ds:=by
 cases h with
 |tup h r=>exact⟨_,_,rfl,h,r⟩
theorem Den.ofLst{v:V}(h:Den K ad H v (.lst i)):∃ a,v=.ref a/\LA ad H i a:=by
 cases h with
 |lst h=>exact⟨_,rfl,h⟩
theorem Den.ofDic{v:V}(h:Den K ad H v (.dic i)):∃ a,v=.ref a/\ad[i]?=some a/\Z6 H a:=by
 cases h with
 |dic h n=>exact⟨_,rfl,h,n⟩
theorem Den.newL{a:Ad}(h:ad[i]?=some a):Den K ad (upd H a (.lst xs)) (.ref a) (.lst i):=.lst ⟨h,Wm upd_same λ_ z=>nomatch z⟩
theorem LA.mono{a:Ad}(x:Ext ad H ad' H')(h:LA ad H i a):LA ad' H' i a:=⟨x.pre _ _ h.1,λz=>h.2 ((x.kd _ _ h.1).mpr z)⟩
theorem Den.ofKt{v:V}(h:Den K ad H v (.kt ks)):∃ a o b n,v=.ref a/\K.lookup a=some o/\(o.cls=.type "tuple"/\o.dict=none)/\o.data=.seq b n/\b.size<=sizeLine/\Vals (ks.map V.str) b.toList:=by
 cases h with
 |kt l c g e z r=>exact⟨_,_,_,_,rfl,l,⟨c,g⟩,e,z,r⟩
theorem WV:∀ ks:Li Str,Dens K ad H (ks.map V.str) (ks.map D.str)
 |[]=>.nil
 |k :: ks=>.cons (.str k) (WV ks)
theorem Den.ofObj{v:V}(h:Den K ad H v (.obj i)):∃ a b,v=.ref a/\H a=some (.ins (ClsTab.ca i) b []):=by
 cases h with
 |obj h n=>exact⟨_,_,rfl,h⟩
def KL(K:fG7)(a:Ad)(b:Li V):Prop:=
 ∃ (o:Obj) (its:Array vL) (n:Nat),(K.lookup a=some o/\o.cls=.type "list")/\(o.dict=none/\o.data=.seq its n)/\its.size<=sizeLine/\Vals b its.toList
inductive Ents(K:fG7)(ad:List Addr)(H:Hp):List (List Key×V)->List D->Prop where
 |nil:Ents K ad H [] []
 |cons {i j:Int}{v:V}{d:D}{kvs:List (List Key×V)}{ds:List D} (h:Den K ad H v d) (r:Ents K ad H kvs ds):Ents K ad H (([.inl i,.inl j],v) :: kvs) (.tup [.int i,.int j,d] :: ds)
theorem Ents.map(x:Keeps K ad ad' H H')(h:Ents K ad H kvs ds):Ents K ad' H' kvs ds:=by
 induction h with
 |nil=>exact .nil
 |cons h _ a=>exact .cons (h.map x) a
theorem Ents.mono(x:Ext ad H ad' H')(h:Ents K ad H kvs ds):Ents K ad' H' kvs ds:=h.map x.keeps
inductive CellOk(K:fG7)(ad:List Addr)(H:Hp)(a:Addr)(c:Y5):Prop where
 |l {xs:List V} (n:¬Z6 H a) (r:Dens K ad H xs c.2) (h:(c.1=true/\H a=some (.lst xs))\/(c.1=false/\((∃ o,H a=some (.frz o (.lst xs)))\/KL K a xs)))
 |d {kvs:List (List Key×V)} (r:Ents K ad H kvs c.2) (e:c.1=true) (h:H a=some (.dT kvs))
structure StOk(K:fG7)(ad:List Addr)(H:Hp)(st:Za):Prop where
 len:ad.length=st.length
 nd:∀ (i j:Nat) (a:Addr) (c d:List D),ad[i]?=some a->ad[j]?=some a->st[i]?=some (true,c)->st[j]?=some (true,d)->i=j
 cell:∀ (i:Nat) (c:Y5),st[i]?=some c->∃ a,ad[i]?=some a/\CellOk K ad H a c
theorem CellOk.sq{a:Ad}{c:Y5}(h:CellOk K ad H a c)(n:¬Z6 H a):∃ f,Dens K ad H f c.2/\SqL K H a f:=by
 cases h with
 |l _ r h=>
  obtain⟨_,e⟩|⟨_,⟨o,e⟩|⟨o,b,n,⟨p,m⟩,⟨k,j⟩,i,g⟩⟩:=h
  ·exact⟨_,r,.inl (.inl e)⟩
  ·exact⟨_,r,.inl (.inr ⟨o,e⟩)⟩
  ·exact⟨_,r,.inr ⟨o,b,n,p,m,k,j,i,g⟩⟩
 |d r e h=>exact absurd ⟨_,h⟩ n
theorem StOk.list{a:Ad}{b:Bool}(S:StOk K ad H st)(h:LA ad H i a)(e:st[i]?=some (b,ds)):∃ d,Dens K ad H d ds/\SqL K H a d:=by
 obtain⟨g,f,c⟩:=S.cell i _ e;rw[h.1]at f;cases f
 exact c.sq h.2
theorem StOk.listM{a:Ad}(S:StOk K ad H st)(h:LA ad H i a)(e:st[i]?=some (true,ds)):∃ b,Dens K ad H b ds/\H a=some (.lst b):=by
 obtain⟨g,f,c⟩:=S.cell i _ e;rw[h.1]at f;cases f
 cases c with
 |l _ r q=>
  obtain⟨_,q⟩|⟨q,_⟩:=q
  ·exact⟨_,r,q⟩
  ·cases q
 |d r _ q=>exact absurd ⟨_,q⟩ h.2
theorem StOk.dict{a:Ad}{b:Bool}(S:StOk K ad H st)(h:ad[i]?=some a)(n:Z6 H a)(e:st[i]?=some (b,ds)):∃ kvs,Ents K ad H kvs ds/\H a=some (.dT kvs)/\b=true:=by
 obtain⟨g,f,c⟩:=S.cell i _ e;rw[h]at f;cases f
 cases c with
 |l z=>exact absurd n z
 |d r e q=>exact⟨_,r,q,e⟩
theorem Wx{a:Ad}(b:¬Z6 H p)(c:∀ kvs,o≠.dT kvs):Z6 H a↔Z6 (upd H p o) a:=by
 by_cases z:a=p
 ·subst z
  exact⟨λq=>absurd q b,λq=>absurd q (Wm upd_same c)⟩
 ·unfold Z6
  rw[upd_ne z]
theorem QL(a:H p=none):¬Z6 H p:=λ⟨_,z⟩=>by rw[a]at z;cases z
theorem Ext.laid(a:H p=none)(d:∀ kvs,o≠.dT kvs:=by intro _ z;cases z):Ext ad H ad (upd H p o):=
 ⟨λ_ _ h=>h,λb c h=>by rw[upd_ne (ne_of_none h a)];exact h,λb c h=>by rw[upd_ne (ne_of_none h a)];exact h,λb o h _=>by rw[upd_ne (ne_of_none h a)];exact h,λ_ h=>.inl h,λ_ _ _=>Wx (QL a) d⟩
theorem CellOk.laid{a:Ad}{c:Y5}(g:ad[i]?=some a)(f:H p=none)(x:Ext ad H ad' (upd H p o))(h:CellOk K ad H a c):CellOk K ad' (upd H p o) a c:=by
 cases h with
 |l n r h=>
  refine .l (λz=>n ((x.kd i a g).mpr z)) (r.mono x) ?_
  rcases h with⟨b,e⟩|⟨b,⟨o,e⟩|e⟩
  ·exact .inl ⟨b,by rw[upd_ne (ne_of_none e f)];exact e⟩
  ·exact .inr ⟨b,.inl ⟨o,by rw[upd_ne (ne_of_none e f)];exact e⟩⟩
  ·exact .inr ⟨b,.inr e⟩
 |d r e h=>exact .d (r.mono x) e (by rw[upd_ne (ne_of_none h f)];exact h)
theorem StOk.laid(S:StOk K ad H st)(b:H p=none)(d:∀ kvs,o≠.dT kvs:=by intro _ z;cases z):StOk K ad (upd H p o) st:=
 ⟨S.len,S.nd,λi c e=>let ⟨a,h,q⟩:=S.cell i c e;⟨a,h,q.laid h b (Ext.laid b d)⟩⟩
theorem Xl{l:Li α}{x y:α}(h:(l++[x])[i]?=some y):l[i]?=some y\/(i=l.length/\y=x):=by
 by_cases a:i < l.length
 ·rw[bY a]at h
  exact .inl h
 ·rw[cC (by omega)]at h
  have:i - l.length=0:=by
   cases e:i - l.length with
   |zero=>rfl
   |succ k=>rw[e]at h;simp at h
  rw[this]at h;simp at h;exact .inr ⟨by omega,h.symm⟩
theorem YT{l:Li α}{x y:α}(h:l[i]?=some y):(l++[x])[i]?=some y:=by
 rw[bY (bK.mp h).1];exact h
theorem Zs{l:Li α}{x:α}:(l++[x])[l.length]?=some x:=by simp
theorem Ext.pushG(c:H p=none)(e:∀ (i:Nat) (a:Ad),ad[i]?=some a->(Z6 H a↔Z6 (upd H p o) a)):Ext ad H (ad++[p]) (upd H p o):=
 ⟨λ_ _ h=>YT h,λb d h=>by rw[upd_ne (ne_of_none h c)];exact h,λb d h=>by rw[upd_ne (ne_of_none h c)];exact h,λb o h _=>by rw[upd_ne (ne_of_none h c)];exact h,λb h=>(bP.mp h).elim .inl λz=>.inr (by rw[aR.mp z];exact c),e⟩
theorem Ext.push(a:H p=none):Ext ad H (ad++[p]) (upd H p (.lst xs)):=Ext.pushG a λ_ _ _=>Wx (QL a) λ_ z=>nomatch z
theorem StOk.more(S:StOk K ad H st)(o:∀ (i:Nat) (c:Li D),ad[i]?=some p->st[i]?=some (true,c)->False)(u:∀ (i:Nat) (c:Y5) (a:Ad),ad[i]?=some a->CellOk K ad H a c->CellOk K (ad++[p]) H' a c)(t:CellOk K (ad++[p]) H' p (true,ds)):StOk K (ad++[p]) H' (st++[(true,ds)]):=by
 have b:∀ (i:Nat) (c:Li D) (a:Ad),(ad++[p])[i]?=some a->st[i]?=some (true,c)->ad[i]?=some a:=λi c a h e=>by
  obtain⟨z,k,_⟩:=S.cell i _ e;have n:=YT (x:=p) k;rw[h]at n;cases n;exact k
 refine⟨by rw[aI,aI,S.len];rfl,λi j a c d m l g f=>?_,λi c e=>?_⟩
 ·rcases Xl g with g|⟨v,_⟩
  ·rcases Xl f with f|⟨r,_⟩
   ·exact S.nd i j a c d (b i c a m g) (b j d a l f) g f
   ·have k:=b i c a m g
    rw[r,<-S.len,Zs]at l;cases l;exact(o i c k g).elim
  ·rcases Xl f with f|⟨r,_⟩
   ·have s:=b j d a l f
    rw[v,<-S.len,Zs]at m;cases m;exact(o j d s f).elim
   ·omega
 ·rcases Xl e with e|⟨y,w⟩
  ·obtain⟨a,h,q⟩:=S.cell i c e
   exact⟨a,YT h,u i c a h q⟩
  ·subst w
   exact⟨p,by rw[y,<-S.len];exact Zs,t⟩
theorem StOk.noNew(S:StOk K ad H st)(a:H p=none)(i:Nat)(c:Li D)(h:ad[i]?=some p)(e:st[i]?=some (true,c)):False:=by
 obtain⟨f,b,q⟩:=S.cell i _ e;rw[h]at b;cases b
 cases q with
 |l _ _ q=>
  obtain⟨_,q⟩|⟨q,_⟩:=q
  ·rw[a]at q;cases q
  ·cases q
 |d _ _ q=>rw[a]at q;cases q
theorem StOk.push(S:StOk K ad H st)(a:H p=none)(r:Dens K ad H xs ds):StOk K (ad++[p]) (upd H p (.lst xs)) (st++[(true,ds)]):=
 S.more (S.noNew a) (λ_ _ _ h q=>q.laid h a (Ext.push a)) (.l (Wm upd_same λ_ z=>nomatch z) (r.mono (Ext.push a)) (.inl ⟨rfl,upd_same⟩))
theorem StOk.wrG(S:StOk K ad H st)(g:Keeps K ad ad H (upd H p o))(j:p∉ad):StOk K ad (upd H p o) st:=
 ⟨S.len,S.nd,λi c e=>by
  obtain⟨a,h,q⟩:=S.cell i c e;have f:a≠p:=λz=>j (by rw[<-z];exact aW h)
  refine⟨a,h,?_⟩;cases q with
  |l n r q=>
   refine .l (λz=>n ((g.l h).2.mpr z)) (r.map g) ?_
   rcases q with⟨b,q⟩|⟨b,⟨o,q⟩|q⟩
   ·exact .inl ⟨b,by rw[upd_ne f];exact q⟩
   ·exact .inr ⟨b,.inl ⟨o,by rw[upd_ne f];exact q⟩⟩
   ·exact .inr ⟨b,.inr q⟩
  |d r t q=>exact .d (r.map g) t (by rw[upd_ne f];exact q)⟩
theorem StOk.has{a:Ad}(S:StOk K ad H st)(b:ad[i]?=some a):(∃ o,H a=some o)\/∃ o,K.lookup a=some o:=by
 obtain⟨h,c,q⟩:=S.cell i _ (lG7 (show i < st.length by rw[<-S.len];exact(bK.mp b).1))
 rw[b]at c;cases c
 cases q with
 |l _ _ q=>
  obtain⟨_,q⟩|⟨_,⟨o,q⟩|⟨o,e,m,⟨f,g⟩,_⟩⟩:=q
  ·exact .inl ⟨_,q⟩
  ·exact .inl ⟨_,q⟩
  ·exact .inr ⟨_,f⟩
 |d _ _ q=>exact .inl ⟨_,q⟩
theorem StOk.extD(S:StOk K ad H st)(b:H p=none)(c:∀ o,K.lookup p≠some o):Ext ad H (ad++[p]) (upd H p (.dT kvs)):=
 Ext.pushG b λi a h=>by
  have n:a≠p:=λz=>(S.has h).elim (λ⟨o,q⟩=>by rw[z,b]at q;cases q) λ⟨o,q⟩=>c o (z ▸ q)
  unfold Z6;rw[upd_ne n]
theorem StOk.pushD(S:StOk K ad H st)(a:H p=none)(b:∀ o,K.lookup p≠some o):StOk K (ad++[p]) (upd H p (.dT [])) (st++[(true,[])]):=
 S.more (S.noNew a) (λ_ _ _ h q=>q.laid h a (S.extD a b)) (.d .nil rfl upd_same)
theorem StOk.adopt(S:StOk K ad H st)(c:H p=some (.lst xs))(f:p∉ad)(r:Dens K ad H xs ds):StOk K (ad++[p]) H (st++[(true,ds)]):=by
 have a:Keeps K ad (ad++[p]) H H:=Ze6 (λ_ _ h=>YT h) (λb g=>(bP.mp g).imp id λz=>⟨xs,by rw[aR.mp z];exact c⟩)
 exact S.more (λi _ h _=>f (aW h)) (λ_ _ _ _ q=>by
  cases q with
  |l n r h=>exact .l n (r.map a) h
  |d r e h=>exact .d (r.map a) e h) (.l (Wm c λ_ z=>nomatch z) (r.map a) (.inl ⟨rfl,c⟩))
theorem Ext.writeG{a:Ad}{d:HO}(h:H a=some o)(i:a∈ad)(k:∀ c,o≠.tup c)(j:∀ c,o≠.dK c)(g:Z6 H a↔Z6 (upd H a d) a):Ext ad H ad (upd H a d):=
 ⟨λ_ _ h=>h,λb f e=>by rw[upd_ne (ne_of e h (λz=>k _ z.symm))];exact e,λb f e=>by rw[upd_ne (ne_of e h (λz=>j _ z.symm))];exact e,λb o e n=>by rw[upd_ne (show b≠a from λz=>n (by rw[z];exact i))];exact e,λ_ h=>.inl h,λ_ b _=>by
  by_cases z:b=a
  ·rw[z];exact g
  ·unfold Z6;rw[upd_ne z]⟩
theorem Ext.write{a:Ad}(h:H a=some (.lst xs))(b:a∈ad):Ext ad H ad (upd H a (.lst ys)):=
 Ext.writeG h b (λ_ z=>nomatch z) (λ_ z=>nomatch z) ⟨λz=>absurd z (Wm h λ_ z=>nomatch z),λz=>absurd z (Wm upd_same λ_ z=>nomatch z)⟩
theorem StOk.writeG{a:Ad}{g:HO}(S:StOk K ad H st)(h:ad[i]?=some a)(e:st[i]?=some (true,ds))(A:H a=some o)(C:∀ q u,o≠.frz q u)(x:Ext ad H ad (upd H a g))(r:CellOk K ad (upd H a g) a (true,es)) :
  StOk K ad (upd H a g) (st.set i (true,es)):=by
 have B:i < st.length:=(bK.mp e).1;refine⟨by rw[bJ];exact S.len,λj k b c d F E s p=>?_,λj c q=>?_⟩
 ·have up:∀ (j:Nat) (c:Li D),(st.set i (true,es))[j]?=some (true,c)->∃ v,st[j]?=some (true,v):=λj c q=>by
   by_cases z:i=j
   ·subst z;exact⟨_,e⟩
   ·rw[cA z]at q;exact⟨_,q⟩
  obtain⟨v,s⟩:=up j c s;obtain⟨G,p⟩:=up k d p;exact S.nd j k b v G F E s p
 ·by_cases z:i=j
  ·subst z
   rw[bV B]at q;cases q;exact⟨a,h,r⟩
  ·rw[cA z]at q
   obtain⟨b,m,hz⟩:=S.cell j c q;refine⟨b,m,?_⟩;have y:c.1=true->b≠a:=λt w=>by
    obtain⟨J,I⟩:=c;cases (show J=true from t)
    exact z (S.nd i j a ds I h (w ▸ m) e q)
   cases hz with
   |l n f hz=>
    refine .l (λz=>n ((x.kd j b m).mpr z)) (f.mono x) ?_
    rcases hz with⟨t,hz⟩|⟨t,⟨o,hz⟩|hz⟩
    ·exact .inl ⟨t,by rw[upd_ne (y t)];exact hz⟩
    ·exact .inr ⟨t,.inl ⟨o,by rw[upd_ne (ne_of hz A (λz=>C _ _ z.symm))];exact hz⟩⟩
    ·exact .inr ⟨t,.inr hz⟩
   |d f t hz=>exact .d (f.mono x) t (by rw[upd_ne (y t)];exact hz)
theorem StOk.write{a:Ad}(S:StOk K ad H st)(h:LA ad H i a)(e:st[i]?=some (true,ds))(b:H a=some (.lst xs))(r:Dens K ad H ys es) :
  StOk K ad (upd H a (.lst ys)) (st.set i (true,es)):=
 S.writeG h.1 e b (λ_ _ z=>nomatch z) (Ext.write b (aW h.1)) (.l (Wm upd_same λ_ z=>nomatch z) (r.mono (Ext.write b (aW h.1))) (.inl ⟨rfl,upd_same⟩))
theorem Ext.writeD{a:Ad}(h:H a=some (.dT kvs))(b:a∈ad):Ext ad H ad (upd H a (.dT kvs')):=
 Ext.writeG h b (λ_ z=>nomatch z) (λ_ z=>nomatch z) ⟨λ_=>⟨_,upd_same⟩,λ_=>⟨_,h⟩⟩
theorem StOk.writeD{a:Ad}(S:StOk K ad H st)(h:ad[i]?=some a)(e:st[i]?=some (true,ds))(b:H a=some (.dT kvs))(r:Ents K ad H kvs' es) :
  StOk K ad (upd H a (.dT kvs')) (st.set i (true,es)):=
 S.writeG h e b (λ_ _ z=>nomatch z) (Ext.writeD b (aW h)) (.d (r.mono (Ext.writeD b (aW h))) rfl upd_same)
structure EnvOk(K:fG7)(ad:List Addr)(H:Hp)(O:L2.St)(U:Env):Prop where
 len:O.length=U.length
 at_:∀ (i:Nat) (d:D),U[i]?=some (some d)->∃ v,O[i]?=some (some v)/\Den K ad H v d
theorem EnvOk.mono(x:Ext ad H ad' H')(h:EnvOk K ad H O U):EnvOk K ad' H' O U:=⟨h.len,λi d e=>let ⟨v,e1,e2⟩:=h.at_ i d e;⟨v,e1,e2.mono x⟩⟩
theorem EnvOk.set{v:V}(h:EnvOk K ad H O U)(i:Nat)(r:Den K ad H v d):EnvOk K ad H (O.set i (some v)) (Zf U i d):=by
 refine⟨by unfold Zf;rw[bJ,bJ];exact h.len,λj e q=>?_⟩
 unfold Zf at q;by_cases z:i=j
 ·subst z
  by_cases a:i < U.length
  ·rw[bV a]at q
   cases q;exact⟨v,by rw[bV (by rw[h.len];exact a)],r⟩
  ·rw[eG (by rw[bJ];omega)]at q
   cases q
 ·rw[cA z]at q
  obtain⟨w,c,b⟩:=h.at_ j e q;exact⟨w,by rw[cA z];exact c,b⟩
def Post(K:fG7)(ad:Li Ad)(H:Hp)(d:D)(a:Za)(Q:VK):Prop:=∀ v ad' H',Ext ad H ad' H'->StOk K ad' H' a->Den K ad' H' v d->Q v H'
def tE(K:fG7)(f:Env->Za->Res):TE:=λO H Q=>∃ ad U st d a,EnvOk K ad H O U/\StOk K ad H st/\f U st=some (d,a)/\Post K ad H d a Q
def tT(K:fG7)(f:Env->Za->Res):TT:=λO H Q=>∃ ad U st k a,EnvOk K ad H O U/\StOk K ad H st/\f U st=some (.bl k,a)/\∀ ad' H',Ext ad H ad' H'->StOk K ad' H' a->Q k H'
def tA(K:fG7)(f:Env->Za->Res):TA:=λO H Q=>∃ ad U st ds a,EnvOk K ad H O U/\StOk K ad H st/\f U st=some (.tup ds,a)/\∀ vs ad' H',Ext ad H ad' H'->StOk K ad' H' a->Dens K ad' H' vs ds->Q vs H'
def rD(K:fG7)(f:D->D->Za->Res):R2:=λx y H Q=>∃ ad st c b d a,StOk K ad H st/\Den K ad H x c/\Den K ad H y b/\f c b st=some (d,a)/\Post K ad H d a Q
noncomputable def spD(K:fG7)(g:Fn):Sp:=λvs H Q _=>∃ ad ds st d a,StOk K ad H st/\Dens K ad H vs ds/\g ds st=some (d,a)/\Post K ad H d a Q
def tS(K:fG7)(f:Env->Za->Ot (Fl×Za)):TS:=λD O H=>∃ ad U st r a,EnvOk K ad H O U/\StOk K ad H st/\f U st=some (r,a) /\
 match r with
 |.nx U'=>∀ b ad' H',Ext ad H ad' H'->StOk K ad' H' a->EnvOk K ad' H' b U'->D.nx b H'
 |.bk U'=>∀ b ad' H',Ext ad H ad' H'->StOk K ad' H' a->EnvOk K ad' H' b U'->D.bk b H'
 |.ct U'=>∀ b ad' H',Ext ad H ad' H'->StOk K ad' H' a->EnvOk K ad' H' b U'->D.ct b H'
 |.rt d=>Post K ad H d a D.rt
theorem Post.at{Q:VK}(p:Post K ad H d st Q)(S:StOk K ad H st){v:V}(h:Den K ad H v d):Q v H:=p v ad H (Ext.refl _ _) S h
theorem Post.later{Q:VK}(p:Post K ad H d st Q)(x:Ext ad H ad' H'):Post K ad' H' d st Q:=λv a b y S h=>p v a b (x.trans y) S h
variable [ClsTab]
variable{x:D}{st':Za}
variable{X:Cx}
section
variable{a b c:Expr}{fa fb fc:Ev}{pos:Pos}
theorem ZcW(O:L2.St)(H:Hp)(Q:VK)(h:tE K (Xk i) O H Q):tVar i O H Q:=by
 obtain⟨ad,U,st,d,st',E,S,e,p⟩:=h;unfold Xk at e;split at e
 ·rename_i q
  obtain⟨v,b,a⟩:=E.at_ i _ q;cases e;exact⟨v,b,p.at S a⟩
 ·exact Zb e
theorem VW{v:V}(hd:∀ ad H,Den K ad H v d)(O:L2.St)(H:Hp)(Q:VK)(h:tE K (evC d) O H Q):tC v O H Q:=by
 obtain⟨ad,U,st,a,st',E,S,e,p⟩:=h;cases e;exact p.at S (hd _ _)
theorem Vc{g:D->D->Za->Res}(O:L2.St)(H:Hp)(Q:VK)(h:tE K (ZQ fa fb g) O H Q):tOp (rD K g) (tE K fa) (tE K fb) O H Q:=by
 obtain⟨ad,U,st,d,st',E,S,e,p⟩:=h;unfold ZQ at e;split at e
 ·rename_i x b l
  split at e
  ·rename_i y a k
   refine⟨ad,U,st,x,b,E,S,l,λs f u j q n=>⟨f,U,b,y,a,E.mono j,q,k,λr c t i o m=>?_⟩⟩
   exact⟨c,a,x,y,d,st',o,n.mono i,m,e,p.later (j.trans i)⟩
  ·exact Zb e
 ·exact Zb e
def rU1(K:fG7)(g:D->Za->Res):V->Hp->VK->Prop:=λx H Q=>∃ ad st a d st',StOk K ad H st/\Den K ad H x a/\g a st=some (d,st')/\Post K ad H d st' Q
theorem ZaP{g:D->Za->Res}(O:L2.St)(H:Hp)(Q:VK)(h:tE K (Zq fa g) O H Q):tUn (rU1 K g) (tE K fa) O H Q:=by
 obtain⟨ad,U,st,d,st',E,S,e,p⟩:=h;unfold Zq at e;split at e
 ·rename_i x a f
  exact⟨ad,U,st,x,a,E,S,f,λk b l c j i=>⟨b,a,x,d,st',j,i,e,p.later c⟩⟩
 ·exact Zb e
theorem ZaO(O:L2.St)(H:Hp)(Q:Bool->Hp->Prop)(h:tT K fa O H Q):tE K fa O H λx d=>∃ c,x=.bl c/\Q c d:=by
 obtain⟨ad,U,st,k,st',E,S,e,p⟩:=h;exact⟨ad,U,st,.bl k,st',E,S,e,λv ad' H' x b a=>⟨k,a.ofBl,p ad' H' x b⟩⟩
theorem Z2{b c:Ev}{r:D×Za}(h:Yq fc b c U st=some r):∃ k a,fc U st=some (.bl k,a)/\(if k=true then b U a else c U a)=some r:=by
 unfold Yq at h;split at h
 ·rename_i a q
  exact⟨true,a,q,by rw[if_pos rfl];exact h⟩
 ·rename_i a q
  exact⟨false,a,q,by rw[if_neg bF7];exact h⟩
 ·exact Zb h
theorem ZeY(O:L2.St)(H:Hp)(Q:VK)(h:tE K (Yq fc fa fb) O H Q):tIf (tT K fc) (tE K fa) (tE K fb) O H Q:=by
 obtain⟨ad,U,st,d,st',E,S,e,p⟩:=h;obtain⟨k,a,q,e⟩:=Z2 e;refine⟨ad,U,st,k,a,E,S,q,λb g c f=>?_⟩
 cases k with
 |true=>
  rw[if_pos rfl]at e ⊢;exact⟨b,U,a,d,st',E.mono c,f,e,p.later c⟩
 |false=>
  rw[if_neg bF7]at e ⊢;exact⟨b,U,a,d,st',E.mono c,f,e,p.later c⟩
theorem Zaw(O:L2.St)(H:Hp)(Q:VK)(h:tE K (Yq fa fb (evC (.bl false))) O H Q):tAndV (tE K fa) (tE K fb) O H Q:=by
 obtain⟨ad,U,st,d,st',E,S,e,p⟩:=h;obtain⟨k,a,q,e⟩:=Z2 e;refine⟨ad,U,st,.bl k,a,E,S,q,λi c j b f g=>⟨k,g.ofBl,?_⟩⟩
 cases k with
 |true=>
  rw[if_pos rfl]at e ⊢;exact⟨c,U,a,d,st',E.mono b,f,e,p.later b⟩
 |false=>
  rw[if_neg bF7]at e ⊢;cases e;exact(p.later b).at f (.bl false)
theorem ZcQ(O:L2.St)(H:Hp)(Q:VK)(h:tE K (Yq fa (evC (.bl true)) fb) O H Q):tOrV (tE K fa) (tE K fb) O H Q:=by
 obtain⟨ad,U,st,d,st',E,S,e,p⟩:=h;obtain⟨k,a,q,e⟩:=Z2 e;refine⟨ad,U,st,.bl k,a,E,S,q,λi c j b f g=>⟨k,g.ofBl,?_⟩⟩
 cases k with
 |true=>
  rw[if_pos rfl]at e ⊢;cases e;exact(p.later b).at f (.bl true)
 |false=>
  rw[if_neg bF7]at e ⊢;exact⟨c,U,a,d,st',E.mono b,f,e,p.later b⟩
theorem Zav(O:L2.St)(H:Hp)(Q:Bool->Hp->Prop)(h:tT K (Yq fa fb (evC (.bl false))) O H Q):tAnd (tT K fa) (tT K fb) O H Q:=by
 obtain⟨ad,U,st,d,st',E,S,e,p⟩:=h;obtain⟨k,a,q,e⟩:=Z2 e;refine⟨ad,U,st,k,a,E,S,q,λb m c g=>?_⟩
 cases k with
 |true=>
  rw[if_pos rfl]at e ⊢;exact⟨b,U,a,d,st',E.mono c,g,e,λf l i j=>p f l (c.trans i) j⟩
 |false=>
  rw[if_neg bF7]at e ⊢;cases e;exact p b m c g
theorem ZcP(O:L2.St)(H:Hp)(Q:Bool->Hp->Prop)(h:tT K (Yq fa (evC (.bl true)) fb) O H Q):tOr (tT K fa) (tT K fb) O H Q:=by
 obtain⟨ad,U,st,d,st',E,S,e,p⟩:=h;obtain⟨k,a,q,e⟩:=Z2 e;refine⟨ad,U,st,k,a,E,S,q,λb m c g=>?_⟩
 cases k with
 |true=>
  rw[if_pos rfl]at e ⊢;cases e;exact p b m c g
 |false=>
  rw[if_neg bF7]at e ⊢;exact⟨b,U,a,d,st',E.mono c,g,e,λf l i j=>p f l (c.trans i) j⟩
theorem ZaK(O:L2.St)(H:Hp)(Q:Bool->Hp->Prop)(h:tT K (Zq fa Zbk) O H Q):tNot (tT K fa) O H Q:=by
 obtain⟨ad,U,st,d,st',E,S,e,p⟩:=h;unfold Zq at e;split at e
 ·rename_i x a f
  cases x with
  |bl k=>
   cases (show some (D.bl (!k),a)=_ from e)
   exact⟨ad,U,st,k,_,E,S,f,λb i c g=>p b i c g⟩
  |_=>simp[Zbk]at e
 ·exact Zb e
theorem ZaL(O:L2.St)(H:Hp)(Q:VK)(h:tE K (Zq fa Zbk) O H Q):tNotV (tE K fa) O H Q:=by
 obtain⟨ad,U,st,d,st',E,S,e,p⟩:=h;unfold Zq at e;split at e
 ·rename_i x a c
  cases x with
  |bl k=>
   cases (show some (D.bl (!k),a)=_ from e)
   exact⟨ad,U,st,.bl k,_,E,S,c,λj g l b i f=>⟨k,f.ofBl,(p.later b).at i (.bl _)⟩⟩
  |_=>simp[Zbk]at e
 ·exact Zb e
theorem Wd(O:L2.St)(H:Hp)(Q:Li V->Hp->Prop)(h:tA K (evC (.tup [])) O H Q):tNil O H Q:=by
 obtain⟨ad,U,st,d,st',E,S,e,p⟩:=h;cases e;exact p [] ad H (Ext.refl _ _) S .nil
theorem WO(O:L2.St)(H:Hp)(Q:Li V->Hp->Prop)(h:tA K (ZQ fa fb WJ) O H Q):tCons (tE K fa) (tA K fb) O H Q:=by
 obtain⟨ad,U,st,d,st',E,S,e,p⟩:=h;unfold ZQ at e;split at e
 ·rename_i x a l
  split at e
  ·rename_i y c k
   cases y with
   |tup b=>
    have e:(if b.length < 1000 then some (D.tup (x :: b),c) else none)=some (D.tup d,st'):=e
    split at e
    ·cases e
     refine⟨ad,U,st,_,a,E,S,l,λt g u j q n=>⟨g,U,a,b,_,E.mono j,q,k,λs f r i o m=>?_⟩⟩
     exact p _ f r (j.trans i) o (.cons (n.mono i) m)
    ·cases e
   |_=>simp[WJ]at e
  ·cases e
 ·cases e
theorem ZcV(i:∀ U st ds st',fa U st=some (.tup ds,st')->ds.length<=1000)(g:∀ U st d st',fa U st=some (d,st')->∃ ds,d=.tup ds)(O:L2.St)(H:Hp)(Q:VK)(h:tE K fa O H Q):tTup (tA K fa) O H Q:=by
 obtain⟨ad,U,st,d,st',E,S,e,p⟩:=h;obtain⟨ds,rfl⟩:=g _ _ _ _ e;refine⟨ad,U,st,ds,st',E,S,e,λvs b k f j c=>⟨?_,λq a=>?_⟩⟩
 ·rw[c.length]
  exact aP (i _ _ _ _ e) (by decide)
 ·exact p _ b _ (f.trans (Ext.laid a)) (j.laid a) (.tup (.inl upd_same) (c.mono (Ext.laid a)))
theorem ZcN(k:∀ U st ds st',fa U st=some (.tup ds,st')->ds.length<=1000)(O:L2.St)(H:Hp)(Q:VK)(h:tE K (Zq fa Zc1) O H Q):tLst (tA K fa) O H Q:=by
 obtain⟨ad,U,st,d,st',E,S,e,p⟩:=h;unfold Zq at e;split at e
 ·rename_i x a c
  cases x with
  |tup ds=>
   cases (show some (D.lst a.length,a++[(true,ds)])=_ from e)
   refine⟨ad,U,st,ds,_,E,S,c,λvs b l j i g=>⟨?_,λq f=>?_⟩⟩
   ·rw[g.length]
    exact aP (k _ _ _ _ c) (by decide)
   ·refine p _ (b++[q]) _ (j.trans (Ext.push f)) (i.push f g) (.newL ?_)
    rw[<-i.len];exact Zs
  |_=>simp[Zc1]at e
 ·exact Zb e
theorem VX{g:Fn}{a:Li V}{E:XK}(hd:∀ ad H,Dens K ad H a ds)(O:L2.St)(H:Hp)(Q:VK)(h:tE K (Zq fa (X7 g ds)) O H Q):tCall (spD K g) a E (tA K fa) O H Q:=by
 obtain⟨ad,U,st,d,st',E,S,e,p⟩:=h;unfold Zq at e;split at e
 ·rename_i x i j
  cases x with
  |tup c=>exact⟨ad,U,st,c,_,E,S,j,λvs b m f l k=>⟨b,c++ds,_,d,st',l,k.append (hd _ _),e,p.later f⟩⟩
  |_=>simp[X7]at e
 ·exact Zb e
def rC(K:fG7)(g:Li D->Za->Res):Li V->Hp->VK->Prop:=λvs H Q=>∃ ad st ds d st',StOk K ad H st/\Dens K ad H vs ds/\g ds st=some (d,st')/\Post K ad H d st' Q
noncomputable def on1(g:D->Za->Res):Li D->Za->Res
 |[x],st=>g x st
 |_,_=>none
noncomputable def on2(g:D->D->Za->Res):Li D->Za->Res
 |[x,y],st=>g x y st
 |_,_=>none
theorem YM{g:D->Za->Res}(O:L2.St)(H:Hp)(Q:VK)(h:tE K (Zq fa g) O H Q):tCB (rC K (on1 g)) (tCons (tE K fa) tNil) O H Q:=by
 obtain⟨ad,U,st,d,st',E,S,e,p⟩:=h;unfold Zq at e;split at e
 ·rename_i x a f
  exact⟨ad,U,st,x,a,E,S,f,λk b l c j i=>⟨b,a,[x],d,st',j,.cons i .nil,e,p.later c⟩⟩
 ·exact Zb e
theorem VU{g:D->D->Za->Res}(O:L2.St)(H:Hp)(Q:VK)(h:tE K (ZQ fa fb g) O H Q):tCB (rC K (on2 g)) (tCons (tE K fa) (tCons (tE K fb) tNil)) O H Q:=by
 obtain⟨ad,U,st,d,st',E,S,e,p⟩:=h;unfold ZQ at e;split at e
 ·rename_i x b l
  split at e
  ·rename_i y a k
   refine⟨ad,U,st,x,b,E,S,l,λs f u j q n=>⟨f,U,b,y,a,E.mono j,q,k,λr c t i o m=>?_⟩⟩
   exact⟨c,a,[x,y],d,st',o,.cons (n.mono i) (.cons m .nil),e,p.later (j.trans i)⟩
  ·exact Zb e
 ·exact Zb e
def tO(K:fG7)(f:Ev):TO:=λO H Q=>∃ ad U st d st',EnvOk K ad H O U/\StOk K ad H st/\f U st=some (d,st') /\
 ((d=.non/\∀ ad' H',Ext ad H ad' H'->StOk K ad' H' st'->Q none H')\/∃ i,d=.int i/\∀ ad' H',Ext ad H ad' H'->StOk K ad' H' st'->Q (some i) H')
def rSl(K:fG7):V->Ot Int->Ot Int->Hp->VK->Prop:=λx b c H Q=>∃ ad st a d st',StOk K ad H st/\Den K ad H x a/\Z8 a b c st=some (d,st')/\Post K ad H d st' Q
noncomputable def part:D->Ot (Ot Int)
 |.non=>some none
 |.int i=>some (some i)
 |_=>none
theorem Vu{l h:D}{r:D×Za}(e:YS x l h st=some r):∃ a b,part l=some a/\part h=some b/\Z8 x a b st=some r:=by
 unfold YS at e;split at e
 ·exact⟨_,_,rfl,rfl,e⟩
 ·exact⟨_,_,rfl,rfl,e⟩
 ·exact⟨_,_,rfl,rfl,e⟩
 ·exact⟨_,_,rfl,rfl,e⟩
 ·exact Zb e
theorem Zel{f:Ev}{Q:Ot Int->Hp->Prop}{o:Ot Int}(E:EnvOk K ad H O U)(S:StOk K ad H st)(e:f U st=some (d,st'))(a:part d=some o)(q:∀ ad' H',Ext ad H ad' H'->StOk K ad' H' st'->Q o H'):tO K f O H Q:=by
 refine⟨ad,U,st,d,st',E,S,e,?_⟩;cases d with
 |non=>cases a;exact .inl ⟨rfl,q⟩
 |int i=>cases a;exact .inr ⟨i,rfl,q⟩
 |_=>exact Zb a
theorem Jy(O:L2.St)(H:Hp)(Q:VK)(h:tE K (YC fa fb fc YS) O H Q):tSl (rSl K) (tE K fa) (tO K fb) (tO K fc) O H Q:=by
 obtain⟨ad,U,st,d,st',E,S,e,p⟩:=h;unfold YC at e;split at e
 ·rename_i x f m
  split at e
  ·rename_i y j l
   split at e
   ·rename_i z c k
    obtain⟨A,B,n,o,e⟩:=Vu e;refine⟨ad,U,st,x,f,E,S,m,λw s F b v q=>Zel (E.mono b) v l n λr D a u=>Zel (E.mono (b.trans a)) u k o λg C i t=>?_⟩
    exact⟨g,c,x,d,st',t,q.mono (a.trans i),e,p.later (b.trans (a.trans i))⟩
   ·exact Zb e
  ·exact Zb e
 ·exact Zb e
theorem ZcO(O:L2.St)(H:Hp)(Q:Ot Int->Hp->Prop)(h:tO K (evC .non) O H Q):tNoPart O H Q:=by
 obtain⟨ad,U,st,d,st',E,S,e,p⟩:=h;cases e;rcases p with⟨_,p⟩|⟨i,z,_⟩
 ·exact p ad H (Ext.refl _ _) S
 ·cases z
end
variable [ClsTab]
def PostS(K:fG7)(ad:Li Ad)(H:Hp)(r:Fl)(st':Za)(D:Ends):Prop:=match r with
 |.nx U'=>∀ a ad' H',Ext ad H ad' H'->StOk K ad' H' st'->EnvOk K ad' H' a U'->D.nx a H'
 |.bk U'=>∀ a ad' H',Ext ad H ad' H'->StOk K ad' H' st'->EnvOk K ad' H' a U'->D.bk a H'
 |.ct U'=>∀ a ad' H',Ext ad H ad' H'->StOk K ad' H' st'->EnvOk K ad' H' a U'->D.ct a H'
 |.rt d=>Post K ad H d st' D.rt
theorem PostS.later{r:Fl}{D:Ends}(x:Ext ad H ad' H')(p:PostS K ad H r st D):PostS K ad' H' r st D:=by
 cases r with
 |nx U=>exact λa b c y S E=>p a b c (x.trans y) S E
 |bk U=>exact λa b c y S E=>p a b c (x.trans y) S E
 |ct U=>exact λa b c y S E=>p a b c (x.trans y) S E
 |rt d=>exact Post.later p x
theorem ZI{f:Ex}{D:Ends}{r:Fl}(E:EnvOk K ad H O U)(S:StOk K ad H st)(e:f U st=some (r,st'))(p:PostS K ad H r st' D):tS K f D O H:=by
 refine⟨ad,U,st,r,st',E,S,e,?_⟩;cases r<;>exact p
theorem ZL{f:Ex}{D:Ends}(h:tS K f D O H):∃ ad U st r st',EnvOk K ad H O U/\StOk K ad H st/\f U st=some (r,st')/\PostS K ad H r st' D:=by
 obtain⟨ad,U,st,r,st',E,S,e,p⟩:=h;refine⟨ad,U,st,r,st',E,S,e,?_⟩;cases r<;>exact p
variable{j l m:Nat}{E:Ends}{B:D->Env->Za->Ot (Fl×Za)}
section
variable{f g:Ex}{fe fi fk:Ev}
theorem VZ(D:Ends)(O:L2.St)(H:Hp)(h:tS K (λU st=>some (.nx U,st)) D O H):tNext D O H:=by
 obtain⟨ad,U,st,r,st',E,S,e,p⟩:=ZL h;cases e;exact p O ad H (Ext.refl _ _) S E
theorem ZcH(D:Ends)(O:L2.St)(H:Hp)(h:tS K (λU st=>some (.bk U,st)) D O H):tBreak D O H:=by
 obtain⟨ad,U,st,r,st',E,S,e,p⟩:=ZL h;cases e;exact p O ad H (Ext.refl _ _) S E
theorem Zay(D:Ends)(O:L2.St)(H:Hp)(h:tS K (λU st=>some (.ct U,st)) D O H):tCont D O H:=by
 obtain⟨ad,U,st,r,st',E,S,e,p⟩:=ZL h;cases e;exact p O ad H (Ext.refl _ _) S E
theorem ZcU(D:Ends)(O:L2.St)(H:Hp)(h:tS K (Yl f g) D O H):tSeq (tS K f) (tS K g) D O H:=by
 obtain⟨ad,U,st,r,st',E,S,e,p⟩:=ZL h;unfold Yl at e;split at e
 ·rename_i a i q
  exact ZI E S q λb j m c k l=>ZI l k e (p.later c)
 ·rename_i q
  refine ZI E S e ?_;cases r with
  |nx a=>exact absurd e (q a st')
  |bk a=>exact p
  |ct a=>exact p
  |rt d=>exact p
theorem ZcT(D:Ends)(O:L2.St)(H:Hp)(h:tS K (UX fe) D O H):tRet (tE K fe) D O H:=by
 obtain⟨ad,U,st,r,st',E,S,e,p⟩:=ZL h;unfold UX at e;split at e
 ·rename_i d a q
  cases e;exact⟨ad,U,st,d,_,E,S,q,p⟩
 ·exact Zb e
theorem Vd(D:Ends)(O:L2.St)(H:Hp)(h:tS K (Wt i fe) D O H):tAsg (tE K fe) (gName i) D O H:=by
 obtain⟨ad,U,st,r,st',E,S,e,p⟩:=ZL h;unfold Wt at e;split at e
 ·rename_i d c q
  cases e;exact⟨ad,U,st,d,_,E,S,q,λv a j b g f=>p _ a j b g ((E.mono b).set i f)⟩
 ·exact Zb e
theorem ZaM(D:Ends)(O:L2.St)(H:Hp)(h:tS K (ZbO i j fe) D O H):tAsg (tE K fe) (gTup K 2 (gCons (gName i) (gCons (gName j) gNil))) D O H:=by
 obtain⟨ad,U,st,r,st',E,S,e,p⟩:=ZL h;unfold ZbO at e;split at e
 ·rename_i x y f q
  cases e;refine⟨ad,U,st,_,_,E,S,q,λv c m d l b=>?_⟩
  obtain⟨a,vs,rfl,g,rv⟩:=b.ofTup;cases rv with
  |cons b rv=>
   cases rv with
   |cons k rv=>
    cases rv;exact⟨a,_,rfl,(g).sq,rfl,_,_,rfl,_,_,rfl,rfl,p _ c m d l (((E.mono d).set i b).set j k)⟩
 ·exact Zb e
theorem ZaN(D:Ends)(O:L2.St)(H:Hp)(h:tS K (ZbP i j l fe) D O H):tAsg (tE K fe) (gTup K 3 (gCons (gName i) (gCons (gName j) (gCons (gName l) gNil)))) D O H:=by
 obtain⟨ad,U,st,r,st',E,S,e,p⟩:=ZL h;unfold ZbP at e;split at e
 ·rename_i x y z f q
  cases e;refine⟨ad,U,st,_,_,E,S,q,λv c o d n b=>?_⟩
  obtain⟨a,vs,rfl,g,rv⟩:=b.ofTup;cases rv with
  |cons b rv=>
   cases rv with
   |cons m rv=>
    cases rv with
    |cons k rv=>
     cases rv;exact⟨a,_,rfl,(g).sq,rfl,_,_,rfl,_,_,rfl,_,_,rfl,rfl,p _ c o d n ((((E.mono d).set i b).set j m).set l k)⟩
 ·exact Zb e
theorem ZcF(D:Ends)(O:L2.St)(H:Hp)(h:tS K (JV fe) D O H):tDrop (tE K fe) D O H:=by
 obtain⟨ad,U,st,r,st',E,S,e,p⟩:=ZL h;unfold JV at e;split at e
 ·rename_i d c q
  cases e;exact⟨ad,U,st,d,_,E,S,q,λv a g b f i=>p _ a g b f (E.mono b)⟩
 ·exact Zb e
theorem ZcM(D:Ends)(O:L2.St)(H:Hp)(h:tS K (ZV fe f g) D O H):tIfS (tT K fe) (tS K f) (tS K g) D O H:=by
 obtain⟨ad,U,st,r,st',E,S,e,p⟩:=ZL h;unfold ZV at e;split at e
 ·rename_i a q
  refine⟨ad,U,st,true,a,E,S,q,λc i b d=>?_⟩
  dsimp only;rw[if_pos rfl];exact ZI (E.mono b) d e (p.later b)
 ·rename_i a q
  refine⟨ad,U,st,false,a,E,S,q,λc i b d=>?_⟩
  dsimp only;rw[if_neg bF7];exact ZI (E.mono b) d e (p.later b)
 ·exact Zb e
theorem Vx{a:Ad}(S:StOk K ad H st)(h:LA ad H i a):∃ b ds,st[i]?=some (b,ds):=by
 have c:i < st.length:=by rw[<-S.len];exact(bK.mp h.1).1
 exact⟨st[i].1,st[i].2,by rw[lG7 c]⟩
theorem Qi{c:Za}{a:Ad}{v:V}(S:StOk K ad H st)(h:LA ad H i a)(hd:Den K ad H v d)(e:JZ i d st=some c) :
  ∃ b,H a=some (.lst b)/\b.length < sizeLine/\Ext ad H ad (upd H a (.lst (b++[v])))/\StOk K ad (upd H a (.lst (b++[v]))) c:=by
 unfold JZ at e;split at e
 ·rename_i ds q
  split at e
  ·rename_i g
   cases e;obtain⟨b,r,f⟩:=S.listM h q;refine⟨b,f,?_,Ext.write f (aW h.1),S.write h q f (r.append (.cons hd .nil))⟩;rw[r.length];exact aT g (by decide)
  ·exact Zb e
 ·exact Zb e
theorem ZcG(D:Ends)(O:L2.St)(H:Hp)(h:tS K (J2 i fe) D O H):tDrop (tBM K "list" rAppend (tVar i) (tCons (tE K fe) tNil)) D O H:=by
 obtain⟨ad,U,st,r,st',E,S,e,p⟩:=ZL h;unfold J2 at e;split at e
 ·rename_i a s
  split at e
  ·rename_i d f q
   split at e
   ·rename_i n o
    cases e;obtain⟨v,z,y⟩:=E.at_ i _ s;obtain⟨l,rfl,g⟩:=y.ofLst;obtain⟨b,ds,x⟩:=Vx S g;obtain⟨m,_,sq⟩:=S.list g x;refine⟨_,z,.inl ⟨rfl,m,sq⟩,ad,U,st,d,f,E,S,q,λw j F c C A=>?_⟩
    obtain⟨ys,u,t,k,B⟩:=Qi C (g.mono c) A o;exact⟨l,ys,w,rfl,rfl,u,t,p _ j _ (c.trans k) B (E.mono (c.trans k))⟩
   ·exact Zb e
  ·exact Zb e
 ·exact Zb e
theorem Zax{o:Ev}(D:Ends)(O:L2.St)(H:Hp)(h:tS K (J0 o fe) D O H):tDrop (tBM K "list" rAppend (tE K o) (tCons (tE K fe) tNil)) D O H:=by
 obtain⟨ad,U,st,r,st',E,S,e,p⟩:=ZL h;unfold J0 at e;split at e
 ·rename_i a c x
  split at e
  ·rename_i d i u
   split at e
   ·rename_i s t
    cases e;refine⟨ad,U,st,.lst a,c,E,S,x,λv m J g S0 C=>?_⟩
    obtain⟨l,rfl,j⟩:=C.ofLst;obtain⟨b,ds,A⟩:=Vx S0 j;obtain⟨q,_,sq⟩:=S0.list j A;refine⟨.inl ⟨rfl,q,sq⟩,m,U,c,d,i,E.mono g,S0,u,λw k I f G B=>?_⟩
    obtain⟨ys,z,y,n,F⟩:=Qi G (j.mono f) B t;exact⟨l,ys,w,rfl,rfl,z,y,p _ k _ ((g.trans f).trans n) F (E.mono ((g.trans f).trans n))⟩
   ·exact Zb e
  ·exact Zb e
 ·exact Zb e
theorem ZcI(D:Ends)(O:L2.St)(H:Hp)(h:tS K (Zan i fe) D O H):tDrop (tBM K "list" rExtend (tVar i) (tCons (tE K fe) tNil)) D O H:=by
 obtain⟨ad,U,st,r,st',E,S,e,p⟩:=ZL h;unfold Zan at e;split at e
 ·rename_i a C
  split at e
  ·rename_i b g B
   split at e
   ·rename_i A d
    cases e;obtain⟨v,M,L⟩:=E.at_ i _ C;obtain⟨l,rfl,n⟩:=L.ofLst;obtain⟨Q,ds,I⟩:=Vx S n;obtain⟨z,_,sq⟩:=S.list n I;refine⟨_,M,.inl ⟨rfl,z,sq⟩,ad,U,st,.lst b,g,E,S,B,λw o R f q N=>?_⟩
    obtain⟨m,rfl,G⟩:=N.ofLst;unfold ZeU at d;split at d
    ·rename_i P es y J
     split at d
     ·rename_i F
      cases d;have c:=n.mono f;obtain⟨ys,x,k⟩:=q.listM c y;obtain⟨s,u,j⟩:=q.listM G J;have t:=Ext.write (ys:=ys++s) k (aW c.1);refine⟨l,m,ys,s,rfl,rfl,k,j,?_,p _ o _ (f.trans t) (q.write c y k (x.append u)) (E.mono (f.trans t))⟩;rw[x.length,u.length];exact aP F (by decide)
     ·exact Zb d
    ·exact Zb d
   ·exact Zb e
  ·exact Zb e
 ·exact Zb e
theorem ZcS(D:Ends)(O:L2.St)(H:Hp)(h:tS K (UT i fk fe) D O H):tAsg (tE K fe) (gSub (tVar i) (tE K fk) rSetL) D O H:=by
 obtain⟨ad,U,st,r,st',E,S,e,p⟩:=ZL h;unfold UT at e;split at e
 ·rename_i d g F
  split at e
  ·rename_i a G
   split at e
   ·rename_i j o C
    split at e
    ·rename_i A f
     cases e;obtain⟨v,L,J⟩:=E.at_ i _ G;obtain⟨l,rfl,I⟩:=J.ofLst;refine⟨ad,U,st,d,g,E,S,F,λw s R n P N=>⟨_,L,s,U,g,.int j,o,E.mono n,P,C,λQ c z m y M=>?_⟩⟩
     cases M.ofInt;unfold X0 at f;split at f
     ·rename_i ds x
      split at f
      ·rename_i k B
       cases f;have b:=I.mono (n.trans m);obtain⟨t,r,q⟩:=y.listM b x;have u:Ext c z c (upd z l (.lst (t.set k w))):=Ext.write q (aW b.1);refine⟨l,t,j,k,rfl,rfl,q,?_,p _ c _ (n.trans (m.trans u)) (y.write b x q (r.set (N.mono m) k)) (E.mono (n.trans (m.trans u)))⟩;rw[r.length];exact B
      ·exact Zb f
     ·exact Zb f
    ·exact Zb e
   ·exact Zb e
  ·exact Zb e
 ·exact Zb e
theorem UH(a b i j:Int):decide (([.inl a,.inl b]:Li Key)=[.inl i,.inl j])=(decide (a=i)&&decide (b=j)):=by
 rw[bX];simp
theorem Zak{i j:Int}(r:Ents K ad H kvs ds):(kvs.any λa=>decide (a.1=[.inl i,.inl j]))=ds.any (isK i j):=by
 induction r with
 |nil=>rfl
 |cons h _ b=>rw[cP,cP,b,UH];rfl
theorem VP{i j:Int}{v:V}(hd:Den K ad H v d)(r:Ents K ad H kvs ds):Ents K ad H (putK kvs [.inl i,.inl j] v) (Wa ds i j d):=by
 unfold putK Wa;rw[Zak r];by_cases e:ds.any (isK i j)=true
 ·rw[if_pos e,if_pos e]
  clear e
  induction r with
  |nil=>exact .nil
  |@cons a b w c _ _ h _ f=>
   rw[aO,aO];have z:=UH a b i j;by_cases q:(decide (a=i)&&decide (b=j))=true
   ·rw[if_pos (of_decide_eq_true (z.trans q)),if_pos (show isK i j (.tup [.int a,.int b,c])=true from q)]
    rw[bA7,bA,bA]at q;rw[q.1,q.2];exact .cons hd f
   ·rw[if_neg (λt=>q (z.symm.trans (aL t))),if_neg (show ¬isK i j (.tup [.int a,.int b,c])=true from q)]
    exact .cons h f
 ·rw[if_neg e,if_neg e]
  clear e
  induction r with
  |nil=>exact .cons hd .nil
  |cons h _ f=>exact .cons h f
theorem YU{i j:Int}(r:Ents K ad H kvs ds):(∃ v d,valV kvs [.inl i,.inl j]=some v/\Z4 ds i j=some d/\Den K ad H v d)\/(valV kvs [.inl i,.inl j]=none/\Z4 ds i j=none):=by
 induction r with
 |nil=>exact .inr ⟨rfl,rfl⟩
 |@cons a b w c kvs ds h _ e=>
  have z:=UH a b i j;by_cases q:(decide (a=i)&&decide (b=j))=true
  ·exact .inl ⟨w,c,valV_pos (of_decide_eq_true (z.trans q)),by unfold Z4;rw[List.find?_cons_of_pos (show isK i j (.tup [.int a,.int b,c])=true from q)];rfl,h⟩
  ·have g:valV ((([.inl a,.inl b]:Li Key),w) :: kvs) [.inl i,.inl j]=valV kvs [.inl i,.inl j]:=valV_neg λt=>q (z.symm.trans (aL t))
   have f:Z4 (.tup [.int a,.int b,c] :: ds) i j=Z4 ds i j:=by unfold Z4;rw[List.find?_cons_of_neg (show ¬isK i j (.tup [.int a,.int b,c])=true from q)]
   rw[g,f];exact e
theorem Jw{i j:Int}(r:Ents K ad H kvs ds):(valV kvs [.inl i,.inl j]).isSome=(Z4 ds i j).isSome:=by
 rcases YU r with⟨w,d,b,a,c⟩|⟨b,a⟩
 ·rw[b,a];rfl
 ·rw[b,a];rfl
theorem XH(r:Ents K ad H kvs ds):kvs.length=ds.length:=by
 induction r with
 |nil=>rfl
 |cons _ _ a=>rw[aQ,aQ,a]
theorem ZaA(O:L2.St)(H:Hp)(Q:VK)(h:tE K ZdY O H Q):tDNewT K O H Q:=by
 obtain⟨ad,U,st,d,st',E,S,e,p⟩:=h;cases e;intro q a b;exact p _ (ad++[q]) _ (S.extD a b) (S.pushD a b) (.dic (by rw[<-S.len];exact Zs) ⟨_,upd_same⟩)
theorem ZaB{I G:Ev}(D:Ends)(O:L2.St)(H:Hp)(h:tS K (Zaj i I G fe) D O H):tAsg (tE K fe) (gSub (tVar i) (tTup (tCons (tE K I) (tCons (tE K G) tNil))) rSetT) D O H:=by
 obtain⟨ad,U,st,r,st',E,S,e,p⟩:=ZL h;unfold Zaj at e;split at e
 ·rename_i d g N
  split at e
  ·rename_i a P
   split at e
   ·rename_i x f M
    split at e
    ·rename_i y c L
     split at e
     ·rename_i ds C
      split at e
      ·rename_i Q
       cases e;obtain⟨v,T,R⟩:=E.at_ i _ P;obtain⟨l,rfl,j,n⟩:=R.ofDic;refine⟨ad,U,st,d,g,E,S,N,λw u H1 o S1 Y=>⟨_,T,u,U,g,.int x,f,E.mono o,S1,M,λw2 s H2 m S2 W=>⟨s,U,f,.int y,c,E.mono (o.trans m),S2,L,λw3 b k B Z V=>⟨show 2<=sizeLine by decide,λt F=>?_⟩⟩⟩⟩
       cases W.ofInt;cases V.ofInt;have A:Ext b k b (upd k t (.tup [.int x,.int y])):=Ext.laid F;have X:=o.trans (m.trans (B.trans A));have J:StOk K b (upd k t (.tup [.int x,.int y])) c:=Z.laid F;obtain⟨kvs,r,q,_⟩:=J.dict (X.pre _ _ j) ((X.kd _ _ j).mp n) C;have z:Ext b _ b (upd (upd k t (.tup [.int x,.int y])) l (.dT (putK kvs [.inl x,.inl y] w))):=Ext.writeD q (aW (X.pre _ _ j))
       exact⟨l,t,kvs,[.inl x,.inl y],rfl,rfl,q,upd_same,by rw[XH r];exact aT Q (by decide),p _ b _ (X.trans z) (J.writeD (X.pre _ _ j) C q (VP (Y.mono (m.trans (B.trans A))) r)) (E.mono (X.trans z))⟩
      ·exact Zb e
     ·exact Zb e
    ·exact Zb e
   ·exact Zb e
  ·exact Zb e
 ·exact Zb e
def Left(K:fG7)(b:D->Env->Za->Ot (Fl×Za))(E:Ends)(a:Li D)(O:L2.St)(H:Hp):Prop:=∃ ad U st r st',EnvOk K ad H O U/\StOk K ad H st/\Zj b a U st=some (r,st')/\PostS K ad H r st' E
theorem Left.turn{b:Ex}{n:Li D}{H:Hp}{v:V}(t:∀ ad H,Den K ad H v x)(h:Left K (λd U s=>b (Zf U i d) s) E (x :: n) O H) :
  tS K b { E with nx:=Left K (λd U s=>b (Zf U i d) s) E n,ct:=Left K (λd U s=>b (Zf U i d) s) E n,bk:=E.nx } (O.set i (some v)) H:=by
 obtain⟨ad,U,st,r,st',En,S,e,p⟩:=h;unfold Zj at e;have g:=En.set i (t ad H);split at e
 ·rename_i f a q
  exact ZI g S q λj c o k l m=>⟨c,f,a,r,st',m,l,e,p.later k⟩
 ·rename_i f a q
  exact ZI g S q λj c o k l m=>⟨c,f,a,r,st',m,l,e,p.later k⟩
 ·rename_i f a q
  cases e;exact ZI g S q λj c o k l m=>p j c o k l m
 ·rename_i d a q
  cases e;exact ZI g S q p
 ·exact Zb e
theorem Left.turnD{b:Ex}{n:Li D}{U:Env}{r:Fl}{v:V}(En:EnvOk K ad H O U)(S:StOk K ad H st)(t:Den K ad H v x)(e:Zj (λd U s=>b (Zf U i d) s) (x :: n) U st=some (r,st'))(p:PostS K ad H r st' E)(L:L2.St->Hp->Prop)(o:∀ c a h g f,Ext ad H a h->StOk K a h f->EnvOk K a h c g->Zj (λd U s=>b (Zf U i d) s) n g f=some (r,st')->L c h) :
  tS K b { E with nx:=L,ct:=L,bk:=E.nx } (O.set i (some v)) H:=by
 unfold Zj at e;have j:=En.set i t;split at e
 ·rename_i g f q
  exact ZI j S q λc a h k l m=>o c a h g f k l m e
 ·rename_i g f q
  exact ZI j S q λc a h k l m=>o c a h g f k l m e
 ·rename_i g f q
  cases e;exact ZI j S q λc a h k l m=>p c a h k l m
 ·rename_i d f q
  cases e;exact ZI j S q p
 ·exact Zb e
theorem Left.done{b:D->Env->Za->Ot (Fl×Za)}(h:Left K b E [] O H):E.nx O H:=by
 obtain⟨ad,U,st,r,st',En,S,e,p⟩:=h;cases e;exact p O ad H (Ext.refl _ _) S En
theorem UV(n k:Nat)(h:k < n):((List.range n).map λ(j:Nat)=>D.int (j:Int)).drop k=D.int (k:Int) :: ((List.range n).map λ(j:Nat)=>D.int (j:Int)).drop (k+1):=by
 rw[bQ (by simpa using h)]
 simp
theorem ZaH(E:Ends)(O:L2.St)(H:Hp)(h:tS K (Wc i true fi f) E O H):tFor (iRng1 (tCons (tE K fi) tNil)) (gName i) (tS K f) E O H:=by
 obtain⟨ad,U,st,r,st',En,S,e,p⟩:=ZL h;unfold Wc at e;split at e
 ·rename_i x a m
  cases x with
  |int n=>
   have e:(match (if n < 2 ^ 62/\-(2 ^ 62)<=n then some ((List.range n.toNat).map λ(k:Nat)=>D.int (k:Int)) else none) with
    |some l=>Zj (λd U s=>f (Zf U i d) s) l U a
    |none=>none)=some (r,st'):=e
   by_cases b:n < 2 ^ 62/\-(2 ^ 62)<=n
   ·rw[if_pos b]at e
    refine⟨ad,U,st,.int n,a,En,S,m,λv c u j t q=>⟨n,by rw[q.ofInt],b.2,b.1,?_⟩⟩
    refine for_range (λk g H'=>Left K (λd U s=>f (Zf U i d) s) E (((List.range n.toNat).map λ(k:Nat)=>D.int (k:Int)).drop k) g H') ⟨c,U,a,r,st',En.mono j,t,e,p.later j⟩ (λk g H' o L=>?_) λg H' L=>?_
    ·rw[UV _ _ o]at L
     have z:(0:Int)+(k:Int)=(k:Int):=Int.zero_add _;rw[z];exact L.turn λ_ _=>.int _
    ·rw[List.drop_eq_nil_of_le (by simp)]at L
     exact L.done
   ·rw[if_neg b]at e
    cases e
  |_=>simp[Wg]at e
 ·exact Zb e
theorem Qy{i:Int}(h:Ze2 d=some i):d=.int i:=by cases d<;>first | (cases h;done) | (cases h;rfl)
def ZdQ(K:fG7)(b:D->Env->Za->Ot (Fl×Za))(E:Ends)(a:Ad)(vs:Li V)(c:Li D)(k:Nat)(O:L2.St)(H:Hp):Prop:=
 ∃ ad U st r st',EnvOk K ad H O U/\StOk K ad H st/\(TupAt K H a vs/\Dens K ad H vs c)/\Zj b (c.drop k) U st=some (r,st')/\PostS K ad H r st' E
theorem ZaI(E:Ends)(O:L2.St)(H:Hp){U:Env}{g:Za}{r:Fl}{xs:Li D}(En:EnvOk K ad H O U)(S:StOk K ad H st)(R:fi U st=some (.tup xs,g))(e:Zj (λd U s=>f (Zf U i d) s) xs U g=some (r,st'))(p:PostS K ad H r st' E):tFor (iTup K (tE K fi)) (gName i) (tS K f) E O H:=by
 refine⟨ad,U,st,.tup xs,g,En,S,R,λv F H1 I Z X=>?_⟩
 obtain⟨a,vs,rfl,M,rv⟩:=X.ofTup;refine⟨a,rfl,⟨vs,(M).sq⟩,?_⟩;refine for_tup (xs:=vs) (λk u H'=>ZdQ K (λd U s=>f (Zf U i d) s) E a vs xs k u H') ⟨F,U,g,r,st',En.mono I,Z,⟨M,rv⟩,by rw[cF];exact e,p.later I⟩ (λk u H' _ L=>?_) (λk y u H' J L=>?_) λu H' L=>?_
 ·obtain⟨_,_,_,_,_,_,_,⟨h,_⟩,_⟩:=L
  exact(h).sq
 ·obtain⟨q,l,m,B,b,j,G,⟨N,c⟩,o,t⟩:=L
  have n:k < xs.length:=by rw[<-c.length];exact(bK.mp J).1
  have T:xs[k]?=some xs[k]:=lG7 n;obtain⟨w,P,W⟩:=c.get T;rw[J]at P;cases P
  rw[bQ n]at o;exact Left.turnD j G W o t _ λQ C H3 x A z Y E3 V=>⟨C,x,A,B,b,E3,Y,⟨N.mono z,c.mono z⟩,V,t.later z⟩
 ·obtain⟨q,l,m,B,b,j,G,⟨N,c⟩,o,t⟩:=L
  rw[c.length,List.drop_length]at o;exact Left.done ⟨q,l,m,B,b,j,G,o,t⟩
theorem VY{G:TG}(E:Ends)(O:L2.St)(H:Hp){ad:Li Ad}{U:Env}{st i:Za}{r:Fl}{bb:Bool}{X:Li D}(En:EnvOk K ad H O U)(S:StOk K ad H st)(q1:fi U st=some (.lst l,i))(q2:i[l]?=some (bb,X))(e:ZK B l X.length 0 U i=some (r,st'))(p:PostS K ad H r st' E)(R:∀ (x:D) (v:V) (O:L2.St) (H:Hp) (ad:Li Ad) (U:Env) (st i:Za) (r1:Fl) (E':Ends),EnvOk K ad H O U->StOk K ad H st->Den K ad H v x->B x U st=some (r1,i)->PostS K ad H r1 i E'->G v O H λW H2=>tS K f E' W H2) :
  tFor (iList K (tE K fi)) G (tS K f) E O H:=by
 refine⟨ad,U,st,.lst l,i,En,S,q1,λv ad1 H1 x1 S1 d1=>?_⟩
 obtain⟨a,rfl,ha⟩:=d1.ofLst;obtain⟨vs,rv,sq⟩:=S1.list ha q2;refine⟨a,rfl,⟨vs,sq⟩,?_⟩;refine⟨λk m O' H'=>∃ b c g,(EnvOk K b H' O' c/\StOk K b H' g/\LA b H' l a)/\ZK B l m k c g=some (r,st')/\PostS K b H' r st' E,⟨X.length,ad1,U,i,⟨En.mono x1,S1,ha⟩,e,p.later x1⟩,?_⟩
 rintro k m O' H' ⟨b,c,g,⟨s,C,t⟩,n,M⟩
 obtain⟨b2,ys,N⟩:=Vx C t;obtain⟨Y,L,A⟩:=C.list t N;have stop:ys.length<=k->ZK B l m k c g=some (.nx c,g):=λF=>by
  cases m with
  |zero=>unfold ZK;simp only[N];rw[if_pos F]
  |succ m=>unfold ZK;simp only[N,eG F]
 by_cases F:ys.length<=k
 ·refine .inl ⟨⟨Y,A,by rw[L.length];exact F⟩,?_⟩
  rw[stop F]at n;cases n;exact M O' b H' (Ext.refl _ _) C s
 ·have hk':k < ys.length:=by omega
  have hy:ys[k]?=some ys[k]:=lG7 hk';obtain⟨w,ew,T⟩:=L.get hy;cases m with
  |zero=>
   unfold ZK at n;simp only[N]at n;rw[if_neg F]at n;cases n
  |succ m=>
   unfold ZK at n;simp only[N,hy]at n;refine .inr ⟨⟨Y,w,A,ew⟩,λJ I=>∃ u j h,(EnvOk K u I J j/\StOk K u I h/\LA u I l a)/\ZK B l m (k+1) j h=some (r,st')/\PostS K u I r st' E,λJ I h3=>⟨m,dS m,h3⟩,λx I Z=>?_⟩
   obtain⟨rfl,Z⟩:=Z;have ex:=Z Y A;rw[ew]at ex;cases ex
   split at n
   ·rename_i j h q
    exact R _ _ _ _ b c g _ _ _ s C T q λy o H4 z P Q=>⟨o,j,h,⟨Q,P,t.mono z⟩,n,M.later z⟩
   ·rename_i j h q
    exact R _ _ _ _ b c g _ _ _ s C T q λy o H4 z P Q=>⟨o,j,h,⟨Q,P,t.mono z⟩,n,M.later z⟩
   ·rename_i j h q
    cases n;exact R _ _ _ _ b c g _ _ _ s C T q λy o H4 z P Q=>M y o H4 z P Q
   ·rename_i d h q
    cases n;exact R _ _ _ _ b c g _ _ _ s C T q M
   ·exact Zb n
theorem ZaF(E:Ends)(O:L2.St)(H:Hp)(h:tS K (Wc i false fi f) E O H):tFor (iTup K (tE K fi)) (gName i) (tS K f) E O H\/tFor (iList K (tE K fi)) (gName i) (tS K f) E O H:=by
 obtain⟨ad,U,st,r,st',En,S,e,p⟩:=ZL h;unfold Wc at e;split at e
 ·rename_i x a c
  cases x with
  |tup b=>exact .inl (ZaI E O H En S c e p)
  |lst l=>
   have e:(match a[l]? with
    |some (_,b)=>ZK (λd U s=>f (Zf U i d) s) l b.length 0 U a
    |none=>none)=some (r,st'):=e
   split at e
   ·rename_i o b g
    refine .inr (VY E O H En S c g e p λx v O H ad U st a n q En S m k j=>?_)
    exact ZI (En.set i m) S k j
   ·exact Zb e
  |_=>simp[Wg]at e
 ·exact Zb e
theorem WP{G:TG}(E:Ends)(O:L2.St)(H:Hp){ad:Li Ad}{U:Env}{st b:Za}{r:Fl}{xs:Li D}(En:EnvOk K ad H O U)(S:StOk K ad H st)(q1:fi U st=some (.tup xs,b))(e:Zj B xs U b=some (r,st'))(p:PostS K ad H r st' E)(N:∀ (x:D) (v:V) (O:L2.St) (H:Hp) (ad:Li Ad) (U:Env) (st b:Za) (Z:Fl) (E':Ends),EnvOk K ad H O U->StOk K ad H st->Den K ad H v x->B x U st=some (Z,b)->PostS K ad H Z b E'->G v O H λR H2=>tS K f E' R H2) :
  tFor (iTup K (tE K fi)) G (tS K f) E O H:=by
 refine⟨ad,U,st,.tup xs,b,En,S,q1,λv W H1 Y S1 d1=>?_⟩
 obtain⟨a,vs,rfl,ha,rv⟩:=d1.ofTup;refine⟨a,rfl,⟨vs,(ha).sq⟩,?_⟩;refine for_tup (xs:=vs) (λk Q H'=>ZdQ K B E a vs xs k Q H') ⟨W,U,b,r,st',En.mono Y,S1,⟨ha,rv⟩,by rw[cF];exact e,p.later Y⟩ (λk Q H' _ L=>?_) (λk y Q H' hk L=>?_) λQ H' L=>?_
 ·obtain⟨_,_,_,_,_,_,_,⟨h,_⟩,_⟩:=L
  exact(h).sq
 ·obtain⟨l,g,i,M,c,m,C,⟨T,j⟩,o,A⟩:=L
  have F:k < xs.length:=by rw[<-j.length];exact(bK.mp hk).1
  have hx:xs[k]?=some xs[k]:=lG7 F;obtain⟨w,ew,P⟩:=j.get hx;rw[hk]at ew;cases ew
  rw[bQ F]at o;unfold Zj at o;split at o
  ·rename_i t n q
   exact N _ _ _ _ l g i _ _ _ m C P q λz s X u I J=>⟨s,t,n,M,c,J,I,⟨T.mono u,j.mono u⟩,o,A.later u⟩
  ·rename_i t n q
   exact N _ _ _ _ l g i _ _ _ m C P q λz s X u I J=>⟨s,t,n,M,c,J,I,⟨T.mono u,j.mono u⟩,o,A.later u⟩
  ·rename_i t n q
   cases o;exact N _ _ _ _ l g i _ _ _ m C P q λz s X u I J=>A z s X u I J
  ·rename_i d n q
   cases o;exact N _ _ _ _ l g i _ _ _ m C P q A
  ·exact Zb o
 ·obtain⟨l,g,i,M,c,m,C,⟨T,j⟩,o,A⟩:=L
  rw[j.length,List.drop_length]at o;exact Left.done ⟨l,g,i,M,c,m,C,o,A⟩
theorem ZaD(E:Ends)(O:L2.St)(H:Hp)(h:tS K (Zar i j l fi f) E O H):tFor (iTup K (tE K fi)) (gTup K 3 (gCons (gName i) (gCons (gName j) (gCons (gName l) gNil)))) (tS K f) E O H:=by
 obtain⟨ad,U,st,r,st',En,S,e,p⟩:=ZL h;unfold Zar at e;split at e
 ·rename_i s c d
  refine WP E O H En S d e p λx v O H ad U st c t w En S m b g=>?_
  unfold ZbY at b;split at b
  ·rename_i y z u
   obtain⟨a,vs,rfl,k,rv⟩:=m.ofTup;cases rv with
   |cons q rv=>
    cases rv with
    |cons o rv=>
     cases rv with
     |cons n rv=>
      cases rv;exact⟨a,_,rfl,(k).sq,rfl,_,_,rfl,_,_,rfl,_,_,rfl,rfl,ZI (((En.set i q).set j o).set l n) S b g⟩
  ·exact Zb b
 ·exact Zb e
theorem ZaC(E:Ends)(O:L2.St)(H:Hp)(h:tS K (Zaq i j fi f) E O H):tFor (iTup K (tE K fi)) (gTup K 2 (gCons (gName i) (gCons (gName j) gNil))) (tS K f) E O H\/tFor (iList K (tE K fi)) (gTup K 2 (gCons (gName i) (gCons (gName j) gNil))) (tS K f) E O H:=by
 obtain⟨ad,U,st,r,st',En,S,e,p⟩:=ZL h;unfold Zaq at e;split at e
 ·rename_i l c d
  split at e
  ·rename_i w q t
   right
   refine VY E O H En S d t e p λx v O H ad U st c s u En S m b g=>?_
   unfold Wp at b;split at b
   ·rename_i y z
    obtain⟨a,vs,rfl,k,rv⟩:=m.ofTup;cases rv with
    |cons o rv=>
     cases rv with
     |cons n rv=>
      cases rv;exact⟨a,_,rfl,(k).sq,rfl,_,_,rfl,_,_,rfl,rfl,ZI ((En.set i o).set j n) S b g⟩
   ·exact Zb b
  ·exact Zb e
 ·rename_i q c d
  left
  refine WP E O H En S d e p λx v O H ad U st c s u En S m b g=>?_
  unfold Wp at b;split at b
  ·rename_i y z
   obtain⟨a,vs,rfl,k,rv⟩:=m.ofTup;cases rv with
   |cons o rv=>
    cases rv with
    |cons n rv=>
     cases rv;exact⟨a,_,rfl,(k).sq,rfl,_,_,rfl,_,_,rfl,rfl,ZI ((En.set i o).set j n) S b g⟩
  ·exact Zb b
 ·exact Zb e
theorem Jz(E:Ends)(O:L2.St)(H:Hp)(h:tS K (Z9 fe f m) E O H):tWhile (tT K fe) (tS K f) E O H:=by
 obtain⟨ad,U,st,r,st',En,S,e,p⟩:=ZL h;refine⟨λm O H=>∃ ad U st,(EnvOk K ad H O U/\StOk K ad H st)/\Z9 fe f m U st=some (r,st')/\PostS K ad H r st' E,⟨m,ad,U,st,⟨En,S⟩,e,p⟩,?_⟩
 rintro m O H ⟨ad,U,st,⟨En,S⟩,e,p⟩
 cases m with
 |zero=>exact Zb e
 |succ m=>
  have e:ZV fe (Z0 f (Z9 fe f m)) (λU st=>some (.nx U,st)) U st=some (r,st'):=e
  unfold ZV at e;split at e
  ·rename_i i q
   refine⟨ad,U,st,true,i,En,S,q,λn u a k=>?_⟩
   dsimp only;rw[if_pos rfl];refine⟨λO H=>∃ ad U st,(EnvOk K ad H O U/\StOk K ad H st)/\Z9 fe f m U st=some (r,st')/\PostS K ad H r st' E,λw H' h=>⟨m,dS m,h⟩,?_⟩
   have e:Z0 f (Z9 fe f m) U i=some (r,st'):=e;unfold Z0 at e;split at e
   ·rename_i d b j
    exact ZI (En.mono a) k j λg c t l o s=>⟨c,d,b,⟨s,o⟩,e,p.later (a.trans l)⟩
   ·rename_i d b j
    exact ZI (En.mono a) k j λg c t l o s=>⟨c,d,b,⟨s,o⟩,e,p.later (a.trans l)⟩
   ·rename_i d b j
    cases e;exact ZI (En.mono a) k j λg c t l o s=>p g c t (a.trans l) o s
   ·rename_i v b j
    cases e;exact ZI (En.mono a) k j (Post.later p a)
   ·exact Zb e
  ·rename_i i q
   cases e;refine⟨ad,U,st,false,_,En,S,q,λn u a k=>?_⟩
   dsimp only;rw[if_neg bF7];exact p O n u a k (En.mono a)
  ·exact Zb e
noncomputable def Itz(K:fG7)(a b:Ad):It:=
 ⟨λi H=>∃ c ys x y,SqT K H a c/\SqT K H b ys/\c[i]?=some x/\ys[i]?=some y,
  λi H v H'=>∃ p x y,v=.ref p/\H p=none/\H'=upd H p (.tup [x,y])/\(∀ c,SqT K H a c->c[i]?=some x)/\∀ ys,SqT K H b ys->ys[i]?=some y,
  λi H=>∃ c ys,SqT K H a c/\SqT K H b ys/\min c.length ys.length<=i⟩
def ZgH(K:fG7)(e:TA):TI:=λO H R=>e O H λvs c=>∃ a b,vs=[.ref a,.ref b]/\(∃ d,SqT K c a d)/\(∃ ys,SqT K c b ys)/\R (Itz K a b) c
theorem Za8{ok:Za->Prop}{B:D->D->Env->Za->Ot (Fl×Za)}{l:Li (D×D)}{z:Fl×Za}(e:ZZ ok B l U st=some z):ok st:=by
 cases l with
 |nil=>
  unfold ZZ at e;by_cases h:ok st
  ·exact h
  ·rw[if_neg h]at e;cases e
 |cons _ _=>
  unfold ZZ at e;by_cases h:ok st
  ·exact h
  ·rw[if_neg h]at e;cases e
inductive LK(K:fG7)(ok:Za->Prop)(B:D->D->Env->Za->Option (Fl×Za))(qs:List (D×D))(Good:List Addr->Hp->Prop)(r:Fl)(st':Za)(E:Ends)(k m:Nat)(O:L2.St)(H:Hp):Prop
 |mk {ad:List Addr}{U:Env}{st:Za} (hk:k+m=qs.length) (En:EnvOk K ad H O U) (S:StOk K ad H st) (g:Good ad H) (e:ZZ ok B (qs.drop k) U st=some (r,st')) (p:PostS K ad H r st' E):LK K ok B qs Good r st' E k m O H
def Zgp(K:fG7)(f:Ex)(i j:Nat)(J:It)(E:Ends)(O:L2.St)(g:Hp):Prop:=∃ W:Nat->Nat->L2.St->Hp->Prop,(∃ m,W 0 m O g)/\∀ a m O H,W a m O H->(J.stop a H/\E.nx O H)\/(J.go a H/\∃ N:L2.St->Hp->Prop,(∀ d H',N d H'->∃ c,c < m/\W (a+1) c d H')/\∀ x H',J.yld a H x H'->gTup K 2 (gCons (gName i) (gCons (gName j) gNil)) x O H' λb e=>tS K f { E with nx:=N,ct:=N,bk:=E.nx } b e)
theorem Wj{ok:Za->Prop}{c:Li (D×D)}{a:Li Ad->Hp->Prop}{r:Fl}{J:It}(gm:∀ ad H ad' H',Ext ad H ad' H'->a ad H->a ad' H')(stop:∀ ad H st,a ad H->StOk K ad H st->ok st->J.stop c.length H)(go:∀ k ad H st q,a ad H->StOk K ad H st->ok st->c[k]?=some q->∃ w v,J.go k H/\Den K ad H w q.1/\Den K ad H v q.2/\∀ x H',J.yld k H x H'->∃ pt,x=.ref pt/\H pt=none/\H'=upd H pt (.tup [w,v]))(k m:Nat)(O:L2.St)(H:Hp)(h:LK K ok (λx y U s=>f (Zf (Zf U i x) j y) s) c a r st' E k m O H) :
  (J.stop k H/\E.nx O H)\/(J.go k H/\∃ N:L2.St->Hp->Prop,(∀ W H',N W H'->∃ R,R < m/\LK K ok (λx y U s=>f (Zf (Zf U i x) j y) s) c a r st' E (k+1) R W H')/\∀ x H',J.yld k H x H'->gTup K 2 (gCons (gName i) (gCons (gName j) gNil)) x O H' λt P=>tS K f { E with nx:=N,ct:=N,bk:=E.nx } t P):=by
 cases h with
 |@mk ad U st L En S g e p=>
  have n:=Za8 e;by_cases V:c.length<=k
  ·have l:k=c.length:=by omega
   subst l;rw[List.drop_length]at e;unfold ZZ at e;rw[if_pos n]at e;cases e;exact .inl ⟨stop _ _ _ g S n,p O _ H (Ext.refl _ _) S En⟩
  ·have l:k < c.length:=Nat.lt_of_not_le V
   obtain⟨w,v,C,G,F,T⟩:=go k _ _ _ c[k] g S n (lG7 l);rw[bQ l]at e;unfold ZZ at e;rw[if_pos n]at e;generalize c[k]=q at e G F;refine .inr ⟨C,LK K ok (λx y U s=>f (Zf (Zf U i x) j y) s) c a r st' E (k+1) (m - 1),λY X h3=>⟨m - 1,by omega,h3⟩,λx X hx=>?_⟩
   obtain⟨pt,rfl,B,rfl⟩:=T x X hx;have u:Ext ad H ad (upd H pt (.tup [w,v])):=Ext.laid B;have o:∀ {rr:Fl}{s3:Za}{E':Ends},f (Zf (Zf U i q.1) j q.2) st=some (rr,s3)->PostS K ad (upd H pt (.tup [w,v])) rr s3 E'->gTup K 2 (gCons (gName i) (gCons (gName j) gNil)) (.ref pt) O (upd H pt (.tup [w,v])) λt P=>tS K f E' t P:=λq Z=>
    ⟨pt,_,rfl,SqT.of upd_same,rfl,_,_,rfl,_,_,rfl,rfl,ZI (((En.mono u).set i (G.mono u)).set j (F.mono u)) (S.laid B) q Z⟩
   have nxt:∀ {ρ3:Env}{st3:Za},ZZ ok (λx y U s=>f (Zf (Zf U i x) j y) s) (c.drop (k+1)) ρ3 st3=some (r,st')->∀ (d:L2.St) (b:Li Ad) (A:Hp),Ext ad (upd H pt (.tup [w,v])) b A->StOk K b A st3->EnvOk K b A d ρ3->LK K ok (λx y U s=>f (Zf (Zf U i x) j y) s) c a r st' E (k+1) (m - 1) d A:=λe3 d b A I M Q=>
    .mk (by omega) Q M (gm _ _ _ _ (u.trans I) g) e3 (p.later (u.trans I))
   clear T go stop L V l C;split at e
   ·rename_i z
    exact o z (nxt e)
   ·rename_i z
    exact o z (nxt e)
   ·rename_i z
    cases e;exact o z λd b A I M Q=>p d b A (u.trans I) M Q
   ·rename_i z
    cases e;exact o z (p.later u)
   ·exact Zb e
theorem ZaG(E:Ends)(O:L2.St)(H:Hp)(h:tS K (VS i j fi f) E O H):tFor (ZgH K (tA K fi)) (gTup K 2 (gCons (gName i) (gCons (gName j) gNil))) (tS K f) E O H:=by
 obtain⟨ad,U,st,r,st',En,S,e,p⟩:=ZL h;unfold VS at e;split at e
 ·rename_i F ys t W
  refine⟨ad,U,st,_,t,En,S,W,λvs m Q G Z c=>?_⟩
  obtain⟨s,n,rfl,D,C⟩:∃ s n,vs=[s,n]/\Den K m Q s (.tup F)/\Den K m Q n (.tup ys):=by
   cases c with
   |cons B c=>
    cases c with
    |cons A c=>cases c;exact⟨_,_,rfl,B,A⟩
  obtain⟨a,l,rfl,M,v⟩:=D.ofTup;obtain⟨b,d,rfl,L,u⟩:=C.ofTup;refine⟨a,b,rfl,⟨l,M.sq⟩,⟨d,L.sq⟩,_,⟨_,.mk (Good:=λad H=>(TupAt K H a l/\Dens K ad H l F)/\TupAt K H b d/\Dens K ad H d ys) (bE _) (En.mono G) Z ⟨⟨M,v⟩,L,u⟩ e (p.later G)⟩,Wj (λ_ _ _ _ x g=>⟨⟨g.1.1.mono x,g.1.2.mono x⟩,g.2.1.mono x,g.2.2.mono x⟩) (λad H st g S o=>?_) λk ad H st q g S o X=>?_⟩
  ·exact⟨l,d,g.1.1.sq,g.2.1.sq,by rw[g.1.2.length,g.2.2.length];exact cJ (List.length_zip ..).symm⟩
  ·obtain⟨B,A⟩:=List.getElem?_zip_eq_some.mp X
   obtain⟨J,P,c⟩:=g.1.2.get B;obtain⟨I,N,Y⟩:=g.2.2.get A;exact⟨J,I,⟨l,d,J,I,g.1.1.sq,g.2.1.sq,P,N⟩,c,Y,λx H' ⟨pt,y1,y2,V,T,R,y,w⟩=>⟨pt,V,T,by have z:=y l g.1.1.sq;rw[P]at z;cases z;have z:=w d g.2.1.sq;rw[N]at z;cases z;exact R⟩⟩
 ·exact Zb e
end
variable [ClsTab]
mutual
theorem Zcq:∀ {x y:D},Zk x y=true->x=y
 |.non,y,h=>by cases y<;>simp[Zk]at h ⊢
 |.bl a,y,h=>by cases y<;>simp[Zk]at h ⊢;exact h
 |.int a,y,h=>by cases y<;>simp[Zk]at h ⊢;exact h
 |.str a,y,h=>by cases y<;>simp[Zk]at h ⊢;exact h
 |.tup a,y,h=>by
  cases y with
  |tup b=>rw[VD (x:=a) (y:=b) (by simpa[Zk] using h)]
  |_=>simp[Zk]at h
 |.lst a,y,h=>by cases y<;>simp[Zk]at h
 |.dct a b,y,h=>by cases y<;>simp[Zk]at h
 |.obj a,y,h=>by cases y<;>simp[Zk]at h
 |.kt a,y,h=>by cases y<;>simp[Zk]at h
 |.dic a,y,h=>by cases y<;>simp[Zk]at h
theorem VD:∀ {x y:Li D},Zr x y=true->x=y
 |[],y,h=>by cases y<;>simp[Zr]at h ⊢
 |a :: x,y,h=>by
  cases y with
  |nil=>simp[Zr]at h
  |cons b y=>
   have h:(Zk a b&&Zr x y)=true:=h;rw[bA7]at h;rw[Zcq h.1,VD h.2]
end
mutual
theorem WI:∀ {n:Nat}{x:D},okD n x=true->Zk x x=true
 |_,.non,_=>rfl
 |_,.bl a,_=>by simp[Zk]
 |_,.int a,_=>by simp[Zk]
 |_,.str a,_=>by simp[Zk]
 |0,.tup a,h=>by simp[okD]at h
 |n+1,.tup a,h=>X4 (n:=n) (x:=a) h
 |_,.lst a,h=>by simp[okD]at h
 |_,.dct a b,h=>by simp[okD]at h
 |_,.obj a,h=>by simp[okD]at h
 |_,.kt a,h=>by simp[okD]at h
 |_,.dic a,h=>by simp[okD]at h
theorem X4:∀ {n:Nat}{x:Li D},ZS n x=true->Zr x x=true
 |_,[],_=>rfl
 |n,a :: x,h=>by
  have h:(okD n a&&ZS n x)=true:=h;rw[bA7]at h;show(Zk a a&&Zr x x)=true;rw[WI h.1,X4 h.2];rfl
end
theorem YO:∀ {n:Nat}{a:Li D}{i:Nat}{d:D},ZS n a=true->a[i]?=some d->okD n d=true
 |_,[],_,_,_,e=>by simp at e
 |n,x :: a,i,d,h,e=>by
  have h:(okD n x&&ZS n a)=true:=h;rw[bA7]at h;cases i with
  |zero=>simp at e;subst e;exact h.1
  |succ i=>exact YO (i:=i) h.2 (by simpa using e)
theorem Yo:∀ {a ys:Li D},Zr a ys=((List.range (min a.length ys.length)).all (λi=>Zk ((a[i]?).getD .non) ((ys[i]?).getD .non))&&a.length==ys.length)
 |[],[]=>rfl
 |[],_ :: _=>by simp[Zr]
 |_ :: _,[]=>by simp[Zr]
 |x :: a,y :: ys=>by
  have b:=@Yo a ys;show(Zk x y&&Zr a ys)=_;rw[b];have e:min (x :: a).length (y :: ys).length=min a.length ys.length+1:=by simp only[aQ];omega
  rw[e,List.range_succ_eq_map,bC,List.all_map];simp only[aQ];have z:(a.length+1==ys.length+1)=(a.length==ys.length):=by
   rw[bX];simp
  rw[z,Bool.and_assoc];rfl
variable{n:Nat}{pQ:Li (Ad×Obj)}{s:sH7}{A:Around}
def Zgn(X:Cx)(ad:Li Ad)(H:Hp)(v:V)(x:D):Prop:=∀ n m y,okD n x=true->okD m y=true->Den X.K ad H v y->x=y
theorem Y2{n:Nat}{P:Prop}(h:okD n x=true)(a:∀ n,okD n x=false):P:=by rw[a]at h;cases h
theorem Zbp(i n:Nat):okD n (.lst i)=false:=by cases n<;>rfl
theorem Zbn(ks:Li Str)(vs:Li D)(n:Nat):okD n (.dct ks vs)=false:=by cases n<;>rfl
theorem Zbo(i n:Nat):okD n (.dic i)=false:=by cases n<;>rfl
theorem Zbq(i n:Nat):okD n (.obj i)=false:=by cases n<;>rfl
theorem Zd9(ks:Li Str)(n:Nat):okD n (.kt ks)=false:=by cases n<;>rfl
theorem Zbt{a:Li D}(h:okD n (.tup a)=true):∃ m,ZS m a=true:=by
 cases n with
 |zero=>cases h
 |succ n=>exact⟨n,h⟩
theorem Den.injP(J:∀ (a:Ad) (d ys:Li V),TupAt X.K H a d->TupAt X.K H a ys->d=ys){v:V}(h:Den X.K ad H v x):Zgn X ad H v x:=
 Den.rec (motive_1:=λv x _=>Zgn X ad H v x) (motive_2:=λvs d _=>∀ n m ys,ZS n d=true->ZS m ys=true->Dens X.K ad H vs ys->d=ys)
  (λ_ _ _ _ _ h=>by cases h;rfl) (λ_ _ _ _ _ _ h=>by cases h;rfl) (λ_ _ _ _ _ _ h=>by cases h;rfl) (λ_ _ _ _ _ _ h=>by cases h;rfl)
  (λe _ j n m y b c h=>by
   obtain⟨g,b⟩:=Zbt b;cases h with
   |tup o f=>
    cases J _ _ _ e o
    obtain⟨i,c⟩:=Zbt c;rw[j g i _ b c f]
   |lst _=>exact Y2 c (Zbp _)
   |dic _ _=>exact Y2 c (Zbo _)
   |dct _ _ _ _ _=>exact Y2 c (Zbn _ _)
   |obj _ _=>exact Y2 c (Zbq _)
   |kt _ _ _ _ _ _=>exact Y2 c (Zd9 _))
  (λ_ _ _ _ b _ _=>Y2 b (Zbp _)) (λ_ _ _ _ _ b _ _=>Y2 b (Zbo _)) (λ_ _ _ _ _ _ _ _ _ b _ _=>Y2 b (Zbn _ _)) (λ_ _ _ _ _ b _ _=>Y2 b (Zbq _)) (λ_ _ _ _ _ _ _ _ _ b _ _=>Y2 b (Zd9 _))
  (λ_ _ _ _ _ h=>by cases h;rfl)
  (λ_ _ l k n m ys b c h=>by
   cases h with
   |cons p f=>
    have b:=dX.mp b;have c:=dX.mp c;rw[l n m _ b.1 c.1 p,k n m _ b.2 c.2 f]) h
theorem Den.inj(J:∀ (a:Ad) (b ys:Li V),TupAt X.K H a b->TupAt X.K H a ys->b=ys){v:V}{y:D}(d:okD n x=true)(c:okD m y=true)(h:Den X.K ad H v x)(e:Den X.K ad H v y):x=y:=h.injP J n m y d c e
theorem Dens.inj(J:∀ (a:Ad) (b ys:Li V),TupAt X.K H a b->TupAt X.K H a ys->b=ys){b ys:Li D}(d:ZS n b=true)(c:ZS m ys=true)(h:Dens X.K ad H vs b)(e:Dens X.K ad H vs ys):b=ys:=by
 induction vs generalizing b ys with
 |nil=>cases h;cases e;rfl
 |cons v vs g=>
  cases h with
  |cons a r=>cases e with
   |cons i f=>
    have d:=dX.mp d;have c:=dX.mp c;rw[a.inj J d.1 c.1 i,g d.2 c.2 r f]
open PySem.SeqAt in
theorem ZeR(I:Inv X pQ O H s):∀ (n:Nat) (x y:D) (A:Around) (B w:V) (E C:vL),okD n x=true->okD n y=true->A.units+n < cLine->Den X.K ad H B x->Den X.K ad H w y->RelV B E->RelV w C->EqAt A s E C (Zk x y):=by
 intro n
 induction n with
 |zero=>
  intro x y A B w E C u h hu J l k d;cases J with
  |non=>
   cases k;cases l with
   |non=>cases d;exact EqAt.same _
   |int j=>obtain⟨c,rfl⟩:=d;exact EqAt.none_int j c
   |str j=>obtain⟨c,rfl⟩:=d;exact EqAt.none_str j c
   |_=>simp[okD]at h
  |int i=>
   obtain⟨t,rfl⟩:=k;cases l with
   |non=>cases d;exact EqAt.int_none i t
   |int j=>obtain⟨c,rfl⟩:=d;exact(show Zk (.int i) (.int j)=(i==j) from by rw[bX];simp[Zk]) ▸ EqAt.int_int i t j c
   |str j=>obtain⟨c,rfl⟩:=d;exact EqAt.int_str i t j c
   |_=>simp[okD]at h
  |str i=>
   obtain⟨t,rfl⟩:=k;cases l with
   |non=>cases d;exact EqAt.str_none i t
   |int j=>obtain⟨c,rfl⟩:=d;exact EqAt.str_int i t j c
   |str j=>obtain⟨c,rfl⟩:=d;exact(show Zk (.str i) (.str j)=(i==j) from by rw[bX];simp[Zk]) ▸ EqAt.str_str i t j c
   |_=>simp[okD]at h
  |_=>simp[okD]at u
 |succ n ih=>
  intro x y A B w E C u h hu J l k d;cases J with
  |non=>
   cases k;cases l with
   |non=>cases d;exact EqAt.same _
   |int j=>obtain⟨c,rfl⟩:=d;exact EqAt.none_int j c
   |str j=>obtain⟨c,rfl⟩:=d;exact EqAt.none_str j c
   |tup e r=>
    cases d;obtain⟨f,_,p,_⟩:=I.tuple ((e).sq);exact EqAt.none_tuple p (by omega)
   |_=>simp[okD]at h
  |int i=>
   obtain⟨t,rfl⟩:=k;cases l with
   |non=>cases d;exact EqAt.int_none i t
   |int j=>obtain⟨c,rfl⟩:=d;exact(show Zk (.int i) (.int j)=(i==j) from by rw[bX];simp[Zk]) ▸ EqAt.int_int i t j c
   |str j=>obtain⟨c,rfl⟩:=d;exact EqAt.int_str i t j c
   |tup e r=>
    cases d;obtain⟨f,_,p,_⟩:=I.tuple ((e).sq);exact EqAt.int_tuple i t p (by omega)
   |_=>simp[okD]at h
  |str i=>
   obtain⟨t,rfl⟩:=k;cases l with
   |non=>cases d;exact EqAt.str_none i t
   |int j=>obtain⟨c,rfl⟩:=d;exact EqAt.str_int i t j c
   |str j=>obtain⟨c,rfl⟩:=d;exact(show Zk (.str i) (.str j)=(i==j) from by rw[bX];simp[Zk]) ▸ EqAt.str_str i t j c
   |tup e r=>
    cases d;obtain⟨f,_,p,_⟩:=I.tuple ((e).sq);exact EqAt.str_tuple i t p (by omega)
   |_=>simp[okD]at h
  |@tup a xs ds e r=>
   cases k;obtain⟨f,rv,p,_⟩:=I.tuple ((e).sq);cases l with
   |non=>cases d;exact EqAt.tuple_none p (by omega)
   |int j=>obtain⟨c,rfl⟩:=d;exact EqAt.tuple_int j c p (by omega)
   |str j=>obtain⟨c,rfl⟩:=d;exact EqAt.tuple_str j c p (by omega)
   |@tup b ys es Q F=>
    cases d;by_cases v:a=b
    ·subst v
     have z:=Den.inj (λ_ _ _ e G=>I.tuple_inj e.sq G.sq) (n:=n+1) (m:=n+1) u h (Den.tup e r) (Den.tup Q F)
     cases z;rw[WI u];exact EqAt.same _
    ·obtain⟨g,o,p',_⟩:=I.tuple ((Q).sq)
     refine EqAt.of_refs v ?_;have q:=RcAt.tuples (A:=A) (s:=s) (e:=λi=>Zk ((ds[i]?).getD .non) ((es[i]?).getD .non)) p p' (by omega) λj P N=>?_
     ·have e1:f.toArray.size=ds.length:=by rw[aG,<-rv.length,r.length]
      have G:g.toArray.size=es.length:=by rw[aG,<-o.length,F.length]
      rw[e1,G]at q;show RcAt A s (.ref a) (.ref b) (Zr ds es);rw[Yo];exact q
     ·have l1:j < ds.length:=by rw[<-r.length,rv.length];simpa using P
      have l2:j < es.length:=by rw[<-F.length,o.length];simpa using N
      have g1:ds[j]?=some ds[j]:=lG7 l1;have g2:es[j]?=some es[j]:=lG7 l2;obtain⟨U,q1,d1⟩:=r.get g1;obtain⟨T,Z,d2⟩:=F.get g2;obtain⟨M,S,Y⟩:=rv.get q1;obtain⟨L,R,W⟩:=o.get Z;have f1:f.toArray[j]=M:=by
       have:f[j]?=some (f[j]'(by simpa using P)):=lG7 _
       rw[S]at this;simpa using(Option.some.inj this).symm
      have f2:g.toArray[j]=L:=by
       have:g[j]?=some (g[j]'(by simpa using N)):=lG7 _
       rw[R]at this;simpa using(Option.some.inj this).symm
      rw[f1,f2,g1,g2];exact ih ds[j] es[j] A.in1 U T M L (YO u g1) (YO h g2) (by show A.units+1+n < cLine;omega) d1 d2 Y W
   |_=>simp[okD]at h
  |_=>simp[okD]at u
open PySem.SeqAt in
theorem Vf(I:Inv X pQ O H s){a b:Ad}{d c:Li vL}(z:ZS n ds=true)(y:ZS n es=true)(hu:A.units+n+1 < cLine)(r:Dens X.K ad H xs ds)(h:Dens X.K ad H ys es)(rv:Vals xs d)(e:Vals ys c)(j:Nat)(k:j < d.toArray.size)(i:j < c.toArray.size):EqAt A.in1 s d.toArray[j] c.toArray[j] (Zk ((ds[j]?).getD .non) ((es[j]?).getD .non)):=by
 have x:j < ds.length:=by rw[<-r.length,rv.length];simpa using k
 have w:j < es.length:=by rw[<-h.length,e.length];simpa using i
 have g1:ds[j]?=some ds[j]:=lG7 x;have g2:es[j]?=some es[j]:=lG7 w;obtain⟨p,v,E⟩:=r.get g1;obtain⟨o,u,D⟩:=h.get g2;obtain⟨g,m,t⟩:=rv.get v;obtain⟨f,l,q⟩:=e.get u;have C:d.toArray[j]=g:=by
  have:d[j]?=some (d[j]'(by simpa using k)):=lG7 _
  rw[m]at this;simpa using(Option.some.inj this).symm
 have B:c.toArray[j]=f:=by
  have:c[j]?=some (c[j]'(by simpa using i)):=lG7 _
  rw[l]at this;simpa using(Option.some.inj this).symm
 rw[C,B,g1,g2];exact ZeR I n ds[j] es[j] A.in1 p o g f (YO z g1) (YO y g2) (by show A.units+1+n < cLine;omega) E D t q
open PySem.SeqAt in
theorem Zde(I:Inv X pQ O H s){a b:Ad}(t:ZS n ds=true)(o:ZS n es=true)(hu:A.units+n+1 < cLine)(e:TupAt X.K H a xs)(r:Dens X.K ad H xs ds)(w:TupAt X.K H b ys)(f:Dens X.K ad H ys es):RcAt A s (.ref a) (.ref b) (Zr ds es)/\RcNeAt A s (.ref a) (.ref b) (!Zr ds es):=by
 obtain⟨g,rv,p,_⟩:=I.tuple (e.sq);obtain⟨d,c,m,_⟩:=I.tuple (w.sq);have v:g.toArray.size=ds.length:=by rw[aG,<-rv.length,r.length]
 have u:d.toArray.size=es.length:=by rw[aG,<-c.length,f.length]
 have q:=RcAt.tuples (A:=A) (s:=s) (e:=λi=>Zk ((ds[i]?).getD .non) ((es[i]?).getD .non)) p m (by omega) λj k h=>Vf (a:=a) (b:=b) I t o hu r f rv c j k h
 have l:=RcNeAt.tuples (A:=A) (s:=s) (e:=λi=>Zk ((ds[i]?).getD .non) ((es[i]?).getD .non)) p m (by omega) λj k h=>Vf (a:=a) (b:=b) I t o hu r f rv c j k h
 rw[v,u]at q l;rw[Yo];exact⟨q,l⟩
end Dp
namespace Dp
open PySem PySem.Spec PyProof.Rows L2 Builtin Builtin.Str
variable [ClsTab]
section
variable{X:Cx}{tg:Expr}
end
end Dp
namespace Dp
open PySem PySem.Spec PyProof.Rows L2
variable [ClsTab]
variable{X:Cx}{pQ:Li (Ad×Obj)}{s:sH7}{O:L2.St}{H:Hp}{a:Ad}{Q:VK}
section
open Builtin
open AutoSeq1 (wpAny_loadPart')
theorem XB:fillsNumberSlot (.type "tuple") "mul"=pure false:=
 PySem.fillsNumberSlot_seq (id := "tuple.__mul__") (r:=some (.builtin "tuple.__rmul__")) F.slot_tuple_mul.lookup (by decide +kernel) F.slot_tuple_rmul.lookup (by decide +kernel)
theorem Vq:seqRepeat? (.type "tuple")=pure (some (.builtin "tuple.__mul__")):=by
 unfold seqRepeat?
 rw[PySem.seqSlot_of (T := "tuple") (name := "__mul__") (id := "tuple.__mul__") F.slot_tuple_mul.lookup (by decide +kernel),PySem.seqSlot_of (T := "tuple") (name := "__rmul__") (id := "tuple.__rmul__") F.slot_tuple_rmul.lookup (by decide +kernel)]
 rfl
theorem UY(a:Int)(t:Tok)(l:Ad)(b:Array vL)(n:Nat)(dd:Ot Ad)(sl:Array (Ot vL)):Meets (Builtin.«int.__rmul__» ⟨[.int a t,.ref l],[]⟩) (λ_ R s=>s.heap.get? l=some { cls:=.type "tuple",dict:=dd,data:=.seq b n,slots:=sl }/\R (.ok (.ret Value.notImplemented)) s):=
 .of_wp λc w A R s h=>by obtain⟨i,g,d,e,f⟩:=s;obtain⟨j,h⟩:=h;wp_walk;exact⟨_,rfl,h⟩
theorem Zb0(l:Ad)(a:Array vL)(n:Nat)(dd:Ot Ad)(sl:Array (Ot vL))(u:Tok) :
  Meets (Builtin.«tuple.__mul__» ⟨[.ref l,.int 1 u],[]⟩) (λ_ R s=>s.heap.get? l=some { cls:=.type "tuple",dict:=dd,data:=.seq a n,slots:=sl }/\R (.ok (.ret (Value.ref l))) s):=
 .of_wp λb w A R s h=>by
  obtain⟨i,g,d,e,f⟩:=s;obtain⟨c,h⟩:=h;have j:=AutoSeq1.idx_int;wp_walk using wpAny_loadPart' c;exact⟨_,rfl,h⟩
theorem ZbZ(l:Ad)(items:Array vL)(n:Nat)(dd:Ot Ad)(sl:Array (Ot vL))(k:Int)(u:Tok)(e:¬items.isEmpty=true)(c:k<=0)(p:-1000<=k) :
  Meets (Builtin.«tuple.__mul__» ⟨[.ref l,.int k u],[]⟩) (λ_ R s=>s.heap.get? l=some { cls:=.type "tuple",dict:=dd,data:=.seq items n,slots:=sl }/\R (.ok (.ret (Value.ref s.heap.objs.size))) { s with heap:=s.heap.push { cls:=.type "tuple",data:=.seq #[] } }):=
 .of_wp λb w A R s h=>by
  obtain⟨o,g,d,j,m⟩:=s;obtain⟨a,h⟩:=h;have q:=AutoSeq1.idx_int;have i:(decide (k < -(2 ^ 63))||decide (k>=2 ^ 63))=false:=by rw[aH (by omega),aH (by omega)];rfl
  have f:(items.isEmpty||k==1)=false:=by
   have:(k==1)=false:=by rw[cN];omega
   rw[this,cV];simpa using e
  have r:(decide (k<=0)||items.isEmpty)=true:=by rw[aL c];rfl
  wp_walk using wpAny_loadPart' a
  refine wpAny_ite_false (by rw[i];rfl) ?_
  wp_walk using wpAny_loadPart' a
  refine wpAny_ite_false (by rw[f];rfl) ?_
  wp_walk using wpAny_loadPart' a
  exact⟨_,rfl,h⟩
theorem Zb1(l:Ad)(items:Array vL)(n:Nat)(dd:Ot Ad)(sl:Array (Ot vL))(k:Int)(u:Tok)(b:items.size=1)(y:2<=k)(x:k<=1000) :
  Meets (Builtin.«tuple.__mul__» ⟨[.ref l,.int k u],[]⟩) (λ_ R s=>s.heap.get? l=some { cls:=.type "tuple",dict:=dd,data:=.seq items n,slots:=sl }/\R (.ok (.ret (Value.ref s.heap.objs.size))) { s with heap:=s.heap.push { cls:=.type "tuple",data:=.seq ((List.replicate k.toNat items).foldl (λe c=>e++c) #[]) } }):=
 .of_wp λf w A R s h=>by
  obtain⟨v,g,d,r,t⟩:=s;obtain⟨a,h⟩:=h;have B:=AutoSeq1.idx_int;have q:(decide (k < -(2 ^ 63))||decide (k>=2 ^ 63))=false:=by rw[aH (by omega),aH (by omega)];rfl
  have i:items.isEmpty=false:=by
   rw[Array.isEmpty_eq_false_iff];intro z;rw[z]at b;simp at b
  have p:(items.isEmpty||k==1)=false:=by
   have:(k==1)=false:=by rw[cN];omega
   rw[this,cV];exact i
  have o:(decide (k<=0)||items.isEmpty)=false:=by rw[aH (by omega),i];rfl
  have m:decide ((items.size:Int) * k > (2 ^ 63 - 1) / 8)=false:=by rw[b];exact aH (by omega)
  have j:Tuple.tupleTooMany ((items.size:Int) * k)=false:=by
   unfold Tuple.tupleTooMany;rw[b];exact aH (by have:(sizeLine:Int)>=1000:=(by decide);omega)
  have C:decide (((List.replicate k.toNat items).foldl (λe c=>e++c) #[]).size > sizeLine)=false:=by
   rw[AutoListH.size_joined];refine aH ?_;have:sizeLine>=1000:=by decide
   simp only[b,Array.size_empty];omega
  wp_walk using wpAny_loadPart' a
  refine wpAny_ite_false (by rw[q];rfl) ?_
  wp_walk using wpAny_loadPart' a
  refine wpAny_ite_false (by rw[p];rfl) ?_
  wp_walk using wpAny_loadPart' a
  refine wpAny_ite_false (by rw[o];rfl) ?_
  wp_walk using wpAny_loadPart' a
  refine wpAny_ite_false m ?_
  wp_walk using wpAny_loadPart' a
  refine wpAny_ite_false (by rw[j];rfl) ?_
  wp_walk using wpAny_loadPart' a
  exact⟨_,rfl,h⟩
theorem Zdf{v:V}{k:Int}{t:Tok}(I:L2.Inv X pQ O H s)(L:TupAt X.K H a [v])(N:k<=1000)(M:-1000<=k)(E:k=1->Q (.ref a) H)(D:∀ p,H p=none->Q (.ref p) (upd H p (.tup (List.replicate k.toNat v)))):wpAny (model X.prog X.w) X.A (binaryOp .Mult (.ref a) (.int k t)) (EP X pQ O Q) X.xe s:=by
 obtain⟨J,r,G,_⟩:=I.tuple (L.sq);obtain⟨u,rfl,B⟩:=r.one;obtain⟨⟨Y,dd,W,sl⟩,d,l,n,i⟩:=id G;simp only at l i;subst l i;have f:∀ c:Li vL,Vals (List.replicate k.toNat v) c->EP X pQ O Q (.ref s.heap.objs.size) { s with heap:=s.heap.push { cls:=.type "tuple",data:=.seq c.toArray } }:=λc C=>
  ⟨.ref s.heap.objs.size,_,I.laid (t':=s.toks) (o:=.tup (List.replicate k.toNat v)) (λb S q=>aK _ q) (aD _) ⟨by rw[bS];exact aP (show k.toNat<=1000 by omega) (by decide),c,C,IsTup.new _ _⟩,rfl,D _ (I.hok.fresh (aD _))⟩
 refine wpAny_binaryOp_repeat_ref (T := "tuple") (U := "int") (by decide) ⟨_,d,rfl⟩ (λy=>typeIs_int y k t) XB F.fills_int_mul F.slot_int_rmul Vq F.slot_int_index.lookup
  (call_meets F.slot_int_rmul (typeIs_int s k t) F.entry_int_rmul (F.args_int_rmul_2 _ _) (UY k t a _ n dd sl) ⟨d,rfl,⟨_,d,rfl⟩,?_⟩)
 by_cases P:k=1
 ·subst P
  exact call_meets F.slot_tuple_mul ⟨_,d,rfl⟩ F.entry_tuple_mul (F.args_tuple_mul_2 _ _) (Zb0 a _ n dd sl t) ⟨d,⟨.ref a,H,I,rfl,E rfl⟩⟩
 ·by_cases R:k<=0
  ·refine call_meets F.slot_tuple_mul ⟨_,d,rfl⟩ F.entry_tuple_mul (F.args_tuple_mul_2 _ _) (ZbZ a _ n dd sl k t (by simp) R M) ⟨d,?_⟩
   have z:k.toNat=0:=by omega
   exact f [] (by rw[z];exact .nil)
  ·refine call_meets F.slot_tuple_mul ⟨_,d,rfl⟩ F.entry_tuple_mul (F.args_tuple_mul_2 _ _) (Zb1 a _ n dd sl k t (by simp) (by omega) N) ⟨d,?_⟩
   have e:List.foldl (λx m=>x++m) #[] (List.replicate k.toNat [u].toArray)=(List.replicate k.toNat u).toArray:=by
    have h:=foldl_rep [u] k.toNat [];rw[dG]at h;rw[show([]:Li vL).toArray=#[] from rfl]at h;rw[h]
    congr 1
    generalize k.toNat=j
    induction j with
    |zero=>rfl
    |succ j g=>rw[cD,cX,g,cD];rfl
   rw[e];refine f _ ?_;generalize k.toNat=j
   induction j with
   |zero=>exact .nil
   |succ j g=>exact .cons B g
end
theorem Yd:Zu<=sizeLine:=by decide
variable{i j:Int}{xs ys vs:Li V}{op:Operator}{ds:Li D}{ad:Li Ad}{d:D}{st:Za}{lo hi:Ot Int}{k:Bool}
variable{X:Cx}
theorem Za5(h:ZR i=true):-(2 ^ 64) < i/\i < 2 ^ 64:=by
 unfold ZR at h;rw[bA7]at h;exact⟨of_decide_eq_true h.1,of_decide_eq_true h.2⟩
theorem Zcu{b:Ad}(I:Inv X pQ O H s)(q:TupAt X.K H a xs)(o:TupAt X.K H b ys)(B:xs.length+ys.length<=sizeLine)(v:xs=[]->Q (.ref b) H)(u:ys=[]->Q (.ref a) H)(t:∀ p,H p=none->Q (.ref p) (upd H p (.tup (xs++ys)))):wpAny (model X.prog X.w) X.A (binaryOp .Add (.ref a) (.ref b)) (EP X pQ O Q) X.xe s:=by
 by_cases i:xs=[]
 ·obtain⟨h,r,y,_⟩:=I.tuple (q.sq)
  obtain⟨c,E,x,_⟩:=I.tuple (o.sq);have C:h=[]:=r.nil_iff.mpr i;subst C;obtain⟨⟨L,dd,G,sl⟩,k,m,n,l⟩:=id y;obtain⟨⟨J,j,D,g⟩,d,f,z,e⟩:=id x;simp only at m l f e;subst m l f e;exact concat_meets ⟨_,k,rfl⟩ ⟨_,d,rfl⟩ noFill_tuple_add seq_tuple_add PySem.F.slot_tuple_add PySem.F.entry_tuple_add (PySem.F.args_tuple_add_2 _ _)
   (tuple_addW0 a b #[] c.toArray n z dd j sl g rfl) ⟨k,d,⟨.ref b,H,I,rfl,v i⟩⟩
 ·exact op_catT pQ s O H (.ref a) (.ref b) _ _ Q I rfl rfl ⟨a,b,xs,ys,rfl,rfl,(q).sq,(o).sq,i,B,u,λ_=>t⟩
theorem Ji(hi:0<=i)(a:0<=j):Builtin.bitAnd i j=((i.toNat &&& j.toNat:Nat):Int):=by
 unfold Builtin.bitAnd;simp[hi,a]
theorem Jj(hi:0<=i)(a:j < 0):Builtin.bitAnd i j=i - ((i.toNat &&& (-j - 1).toNat:Nat):Int):=by
 unfold Builtin.bitAnd;rw[aL hi,aH (by omega)]
 rfl
theorem J6(hi:0<=i)(b:0<=j):Builtin.bitOr i j=((i.toNat ||| j.toNat:Nat):Int):=by
 unfold Builtin.bitOr;have n:∀ {k:Int},0<=k->decide (0<=Builtin.bitNot k)=false:=λ{k} h=>by unfold Builtin.bitNot;exact aH (by omega)
 have a:∀ k:Int,Builtin.bitNot (Builtin.bitNot k)=k:=λk=>by unfold Builtin.bitNot;omega
 have e:Builtin.bitAnd (Builtin.bitNot i) (Builtin.bitNot j)=Builtin.bitNot ((Builtin.bitNot (Builtin.bitNot i)).toNat ||| (Builtin.bitNot (Builtin.bitNot j)).toNat:Nat):=by
  unfold Builtin.bitAnd;rw[n hi,n b]
 rw[e,a,a,a]
theorem Zc9{k:Int}{v u:vL}(I:L2.Inv X pQ O H s)(c:RelV (.int i) v)(b:RelV (.int j) u)(e:J4 op i j=some k)(p:Q (.int k) H) :
  wpAny (model X.prog X.w) X.A (binaryOp op v u) (EP X pQ O Q) X.xe s:=by
 unfold J4 at e;split at e
 ·cases e
  exact op_add pQ s O H _ _ v u Q I c b ⟨_,_,rfl,rfl,p⟩
 ·cases e
  exact op_sub pQ s O H _ _ v u Q I c b ⟨_,_,rfl,rfl,p⟩
 ·split at e
  ·rename_i a
   cases e;refine op_mul pQ s O H _ _ v u Q I c b ⟨_,_,rfl,rfl,?_,p⟩;rw[bT]at a;exact a.elim (λz=>.inl (Za5 z)) λz=>.inr (Za5 z)
  ·cases e
 ·split at e
  ·rename_i a
   cases e;exact op_fdiv pQ s O H _ _ v u Q I c b ⟨_,_,rfl,rfl,a,p⟩
  ·split at e
   ·rename_i a
    cases e;exact op_fdivN pQ s O H _ _ v u Q I c b ⟨_,_,rfl,rfl,⟨by omega,by omega⟩,p⟩
   ·cases e
 ·split at e
  ·rename_i a
   cases e;exact op_mod pQ s O H _ _ v u Q I c b ⟨_,_,rfl,rfl,a,p⟩
  ·split at e
   ·rename_i a
    cases e;exact op_modN pQ s O H _ _ v u Q I c b ⟨_,_,rfl,rfl,(by omega),p⟩
   ·cases e
 ·split at e
  ·rename_i a
   cases e;refine op_and pQ s O H _ _ v u Q I c b ⟨_,_,rfl,rfl,?_⟩;dsimp only;rw[Ji a.1 a.2];exact p
  ·split at e
   ·rename_i a
    cases e;refine op_and pQ s O H _ _ v u Q I c b ⟨_,_,rfl,rfl,?_⟩;dsimp only;rw[Jj a.1 a.2];exact p
   ·cases e
 ·split at e
  ·rename_i a
   cases e;refine op_or pQ s O H _ _ v u Q I c b ⟨_,_,rfl,rfl,?_⟩;dsimp only;rw[J6 a.1 a.2];exact p
  ·cases e
 ·cases e
theorem Jr{b:Ad}(I:L2.Inv X pQ O H s)(C:SqL X.K H a xs)(B:SqL X.K H b ys)(G:xs.length+ys.length<=sizeLine)(q:∀ p,H p=none->Q (.ref p) (upd H p (.lst (xs++ys)))):wpAny (model X.prog X.w) X.A (binaryOp .Add (.ref a) (.ref b)) (EP X pQ O Q) X.xe s:=by
 obtain⟨d,r,y,_⟩:=I.list C;obtain⟨c,l,x,_⟩:=I.list B;obtain⟨⟨cls,dd,u,sl⟩,m,t,n,o⟩:=id y.isList;obtain⟨⟨v,j,k,i⟩,f,h,z,g⟩:=id x.isList;simp only at t o h g;subst t o h g;have e:d.toArray++c.toArray=(d++c).toArray:=by simp
 have E:=r.length;have D:=l.length;refine concat_meets ⟨_,m,rfl⟩ ⟨_,f,rfl⟩ noFill_list_add seq_list_add PySem.F.slot_list_add PySem.F.entry_list_add (PySem.F.args_list_add_2 _ _) (list_addW a b d.toArray c.toArray n z dd j sl i (by simp;omega)) ⟨m,f,?_⟩
 rw[e];exact⟨.ref _,_,I.lnew (t':=s.toks) (r.append l) (by rw[aI];omega),rfl,q _ I.fresh⟩
theorem Uo(h:V1 op=true):op=.Add:=by cases op<;>first|rfl|cases h
theorem Zbe(h:ZaT op=true):op=.Mult:=by cases op<;>first|rfl|cases h
theorem Zc8:OpR X (binaryOp op) (rD X.K (Uv op)):=by
 intro pQ s O H x y v u Q I r o h;obtain⟨ad,st,R,P,d,st',S,m,l,e,p⟩:=h;unfold Uv at e;split at e
 ·split at e
  ·rename_i k q
   cases e;cases m;cases l
   exact Zc9 I r o q (p.at S (.int _))
  ·exact Zb e
 ·split at e
  ·rename_i i
   cases Uo i.1
   have g:=i.2;cases e;obtain⟨a,xs,rfl,j,c⟩:=m.ofTup;obtain⟨b,ys,rfl,E,A⟩:=l.ofTup;cases r;cases o
   refine Zcu I j E (by rw[c.length,A.length];exact aP g Yd) (λz=>?_) (λz=>?_) λq f=>?_
   ·subst z;cases c
    exact p.at S l
   ·subst z;cases A
    rw[bH]at p;exact p.at S m
   ·exact p _ ad _ (Ext.laid f) (S.laid f) (.tup (.inl upd_same) ((c.append A).mono (Ext.laid f)))
  ·exact Zb e
 ·split at e
  ·rename_i i
   cases Zbe i
   obtain⟨a,xs,rfl,j,c⟩:=m.ofTup;cases l;cases r;obtain⟨t,rfl⟩:=o;cases c with
   |nil=>exact Zb e
   |cons B c=>cases c with
    |cons _ _=>exact Zb e
    |nil=>
     have e:(if _/\_ then some (D.tup (List.replicate _ _),st) else none)=some (d,st'):=e
     split at e
     ·rename_i g
      cases e;refine Zdf I j g.1 g.2 (λz=>?_) λq f=>p _ ad _ (Ext.laid f) (S.laid f) (.tup (.inl upd_same) ((Dens.rep B _).mono (Ext.laid f)))
      subst z;exact p.at S (.tup j (.cons B .nil))
     ·exact Zb e
  ·exact Zb e
 ·split at e
  ·rename_i n
   cases Uo n
   unfold Zct at e;split at e
   ·rename_i xs ys C G
    split at e
    ·rename_i g
     cases e;obtain⟨a,rfl,j⟩:=m.ofLst;obtain⟨b,rfl,E⟩:=l.ofLst;obtain⟨vs,c,F⟩:=S.list j C;obtain⟨N,A,L⟩:=S.list E G;cases r;cases o
     refine Jr I F L (by rw[c.length,A.length];exact aP g Yd) λq f=>?_
     refine p _ (ad++[q]) _ (Ext.push f) (S.push f (c.append A)) (.newL ?_);rw[<-S.len];exact Zs
    ·exact Zb e
   ·exact Zb e
  ·exact Zb e
 ·split at e
  ·rename_i n
   cases Zbe n
   unfold Zhe at e;split at e
   ·rename_i z C
    split at e
    ·rename_i g
     cases e;obtain⟨a,rfl,j⟩:=m.ofLst;obtain⟨vs,c,F⟩:=S.listM j C;cases l;cases c with
     |cons B c=>
      cases c;rename_i w;refine op_rep pQ s O H _ _ v u Q I r o ⟨a,_,[w],rfl,rfl,F,by omega,by omega,?_,λq f=>?_⟩
      ·rw[eD,Nat.one_mul]
       exact aP (show _<=1000 by omega) (by decide)
      ·have M:∀ k:Nat,(List.replicate k [w]).flatten=List.replicate k w:=λk=>by
        induction k with
        |zero=>rfl
        |succ k J=>rw[cD,cX,J,cD];rfl
       rw[M];refine p _ (ad++[q]) _ (Ext.push f) (S.push f (Dens.rep B _)) (.newL ?_);rw[<-S.len];exact Zs
    ·exact Zb e
   ·exact Zb e
  ·exact Zb e
 ·split at e
  ·rename_i g
   cases Uo g.1
   cases e;cases m;cases l
   exact op_add_str pQ s O H _ _ v u Q I r o ⟨_,_,rfl,rfl,aP g.2 Yd,p.at S (.str _)⟩
  ·exact Zb e
 ·exact Zb e
theorem ZdL:UnR X (unaryOp .USub) (rU1 X.K Zfi):=by
 intro pQ s O H x v Q I a h;obtain⟨ad,st,c,d,st',S,b,e,p⟩:=h;unfold Zfi at e;split at e
 ·cases e;cases b
  exact un_neg pQ s O H _ v Q I a ⟨_,rfl,p.at S (.int _)⟩
 ·exact Zb e
theorem ZdK:UnR X (unaryOp .Invert) (rU1 X.K Ze3):=by
 intro pQ s O H x v Q I a h;obtain⟨ad,st,c,d,st',S,b,e,p⟩:=h;unfold Ze3 at e;split at e
 ·cases e;cases b
  exact un_inv pQ s O H _ v Q I a ⟨_,rfl,p.at S (.int _)⟩
 ·exact Zb e
theorem Ur(r:Dens X.K ad H xs ds)(e:atD ds i=some d):∃ v,atI xs i=some v/\Den X.K ad H v d:=by
 unfold atD at e;have a:L2.ixN xs.length i=Dp.ixN ds.length i:=by rw[r.length];rfl
 cases q:Dp.ixN ds.length i with
 |none=>rw[q]at e;cases e
 |some j=>
  rw[q]at e;obtain⟨v,c,b⟩:=r.get (i:=j) e;refine⟨v,?_,b⟩;unfold atI;rw[a,q];exact c
theorem Xq{ad:Li Ad}{H:Hp}{k:Str}:∀ {ks:Li Str}{vs:Li V}{ds:Li D},Dens X.K ad H vs ds->ks.length=vs.length->
  (∃ v d,valV ((ks.zip vs).map λp=>((Sum.inr p.1:Key),p.2)) (Sum.inr k)=some v/\ZY ks ds k=some d/\Den X.K ad H v d)\/(valV ((ks.zip vs).map λp=>((Sum.inr p.1:Key),p.2)) (Sum.inr k)=none/\ZY ks ds k=none)
 |[],_,_,.nil,_=>.inr ⟨rfl,rfl⟩
 |[],_,_,.cons _ _,h=>by simp at h
 |_ :: _,_,_,.nil,h=>by simp at h
 |x :: ks,v :: vs,d :: ds,.cons b r,h=>by
  by_cases e:x=k
  ·subst e
   exact .inl ⟨v,d,valV_pos rfl,by simp[ZY],b⟩
  ·have a:=Xq (k:=k) r (by simpa using h)
   have f:valV (((x :: ks).zip (v :: vs)).map λp=>((Sum.inr p.1:Key),p.2)) (Sum.inr k)=valV ((ks.zip vs).map λp=>((Sum.inr p.1:Key),p.2)) (Sum.inr k):=valV_neg (p:=(Sum.inr x,v)) (by intro z;exact e (Sum.inr.inj z))
   have c:ZY (x :: ks) (d :: ds) k=ZY ks ds k:=by simp[ZY,e]
   rw[f,c];exact a
theorem UB{ks:Li D}{a:Nat}{o:Ot D}(h:dAt ks a st=some o):∃ i j b xs,ks=[.int i,.int j]/\st[a]?=some (b,xs)/\o=Z4 xs i j:=by
 cases ks with
 |nil=>exact Zb h
 |cons x ks=>cases ks with
  |nil=>exact Zb h
  |cons y ks=>cases ks with
   |cons _ _=>exact Zb h
   |nil=>
    refine ZO (P:=λo=>∃ i j b xs,[x,y]=[D.int i,.int j]/\st[a]?=some (b,xs)/\o=Z4 xs i j) h λp c d f=>?_
    refine ZO (P:=λp:Int×Int=>∃ i j b xs,[x,y]=[D.int i,.int j]/\st[a]?=some (b,xs)/\Z4 c.2 p.1 p.2=Z4 xs i j) d λi j hi e=>?_
    exact⟨i,j,c.1,c.2,by rw[Qy hi,Qy e],f,rfl⟩
theorem Xi{y:V}(a:Den X.K ad H y (.tup [.int i,.int j])):∃ b,y=.ref b/\SqT X.K H b (([.inl i,.inl j]:Li Key).map kV):=by
 obtain⟨b,xs,rfl,c,r⟩:=a.ofTup;cases r with
 |cons e r=>cases r with
  |cons d r=>cases r;cases e;cases d;exact⟨b,rfl,c.sq⟩
theorem Zgv{x:Str}(q:atD ((chS x).map D.str) i=some d):∃ c,atI x.cps.toList i=some c/\d=.str ⟨#[c]⟩:=by
 unfold atD at q;unfold atI;have b:((chS x).map D.str).length=x.cps.toList.length:=by simp[chS]
 rw[b]at q;show ∃ c,(Dp.ixN x.cps.toList.length i).bind (λj=>x.cps.toList[j]?)=some c/\_
 cases e:Dp.ixN x.cps.toList.length i with
 |none=>rw[e]at q;cases q
 |some j=>
  rw[e]at q;have q:((chS x).map D.str)[j]?=some d:=q;unfold chS at q;rw[aV,aV]at q;show ∃ c,x.cps.toList[j]?=some c/\_;cases a:x.cps.toList[j]? with
  |none=>rw[a]at q;cases q
  |some c=>rw[a]at q;cases q;exact⟨c,rfl,rfl⟩
theorem ZhM(hu:X.A.units+64 < cLine):IxR X (rD X.K ixR):=by
 intro f slice pQ s O H x y v u Q I t m h C;obtain⟨ad,st,Z,Y,d,st',S,B,z,e,p⟩:=h;unfold ixR at e;split at e
 ·rename_i d' q
  cases e;unfold ixD at q;split at q
  ·obtain⟨a,xs,rfl,l,r⟩:=B.ofTup
   cases z;obtain⟨w,k,g⟩:=Ur r q;exact ix_tup f slice pQ s O H _ _ v u Q I t m ⟨a,xs,_,w,rfl,rfl,(l).sq,k,p.at S g⟩ C
  ·split at q
   ·rename_i D
    obtain⟨a,rfl,l⟩:=B.ofLst;cases z;obtain⟨xs,r,sq⟩:=S.list l D;obtain⟨w,k,g⟩:=Ur r q;exact ix_list f slice pQ s O H _ _ v u Q I t m ⟨a,xs,_,w,rfl,rfl,sq,k,p.at S g⟩ C
   ·exact Zb q
  ·obtain⟨a,vs,rfl,l,L,r⟩:=B.ofDct
   cases z;rcases Xq r L with⟨w,W,k,g,F⟩|⟨_,g⟩
   ·rw[g]at q
    cases q;exact ix_dct f slice pQ s O H _ _ v u Q I t m ⟨a,_,Sum.inr _,w,rfl,rfl,l,k,p.at S F⟩ C
   ·rw[g]at q;cases q
  ·obtain⟨a,o,E,n,rfl,V,U,T,R,P⟩:=B.ofKt
   cases z;obtain⟨w,k,g⟩:=Ur (WV _) q;exact ix_tup f slice pQ s O H _ _ v u Q I t m ⟨a,_,_,w,rfl,rfl,.inr ⟨o,E,n,V,U.1,T,R,P⟩,k,p.at S g⟩ C
  ·refine j_e q λq=>?_
   obtain⟨i,j,bb,es,rfl,D,q⟩:=UB q;obtain⟨a,rfl,l,J⟩:=B.ofDic;obtain⟨kvs,r,M,_⟩:=S.dict l J D;obtain⟨b,rfl,N⟩:=Xi z;rcases YU r with⟨w,W,k,g,F⟩|⟨_,g⟩
   ·rw[g]at q
    cases q;exact ix_dT (by omega) f slice pQ s O H _ _ v u Q I t m ⟨a,b,kvs,_,w,rfl,rfl,N,M,k,p.at S F⟩ C
   ·rw[g]at q;cases q
  ·split at q
   ·rename_i G
    cases B;cases z
    obtain⟨c,k,rfl⟩:=Zgv q;exact ix_str f slice pQ s O H _ _ v u Q I t m ⟨_,_,c,rfl,rfl,aP G Yd,k,p.at S (.str _)⟩ C
   ·exact Zb q
  ·exact Zb q
 ·exact Zb e
theorem Yt(n d:Nat)(o:Ot Int):Dp.sIx n d o=HT.sIx n d o:=by cases o<;>rfl
theorem Zah(r:Dens X.K ad H xs ds):Dens X.K ad H (cutV xs lo hi) (Xy ds lo hi):=by
 unfold cutV Xy;rw[<-r.length,Yt,Yt];exact(r.drop _).take _
theorem WC{prog:Program}{w:World}{A:Around}{E:vL->sH7->Prop}{t sl:Ad}{a:Array vL}{i g:vL}{Q:vL->sH7->Prop}(c:IsTup s.heap t a)(k:s.heap.IsSliceOf sl i g .none)(m:IsPart i lo)(l:IsPart g hi)(j:HT.sIx a.size 0 lo=0/\HT.sIx a.size a.size hi=a.size)(h:Q (.ref t) s):wpAny (model prog w) A (getItem (.ref t) (.ref sl)) Q E s:=by
 obtain⟨n,d,e,o⟩:=id k;have f:s.TypeIs (.ref sl) "slice":=⟨n,d,e⟩;unfold getItem
 try with_reducible refine wpAny_holding ?_
 first|refine aA (aE ?_)|skip
 refine aA (wpAny_sequenceKey c.typeIs (by decide) ?_)
 refine aA (wpAny_callSpecial?_slot (name:=Str.ofString "__getitem__") c.typeIs PyProof.Rows.slot_tuple_getitem
  (wpAny_call_entry PyProof.Rows.slot_tuple_getitem c.typeIs PyProof.Rows.entry_tuple_getitem ?_ (PyProof.Rows.args_tuple_getitem _ _)))
 show wpAny _ _ (Builtin.Tuple.tupleItemsOf (.ref t) >>= _) _ _ s;refine aA (tupleItemsOf_ c ?_);refine aA (wpAny_typeOf f ?_);rw[if_pos (by decide)]
 refine aA (HT.sliceApplied_gen k m l ?_);rw[j.1,j.2];have b:(((0:Nat):Int)==0&&(1:Int)==1&&(a.size - 0)==a.size)=true:=by simp
 show wpAny _ _ (if (((0:Nat):Int)==0&&(1:Int)==1&&(a.size - 0)==a.size)=true then _ else _) _ _ s
 rw[if_pos b];unfold Builtin.Tuple.tupleIsExact
 wp_walk using wpAny_typeOf c.typeIs
 exact⟨_,rfl,aE h⟩
theorem ZbR:SlR X (λx lo hi H Q=>∃ a xs,x=.ref a/\SqT X.K H a xs/\(HT.sIx xs.length 0 lo=0/\HT.sIx xs.length xs.length hi=xs.length)/\Q (.ref a) H):=by
 intro pQ s O H x v m l lo hi sl Q I e k g f h;obtain⟨a,xs,rfl,i,j,q⟩:=h;cases e;obtain⟨c,r,d,n⟩:=I.tuple i;have b:c.toArray.size=xs.length:=by rw[aG];exact r.length.symm
 refine⟨"tuple",_,PyProof.Rows.slot_tuple_getitem.lookup,d.typeIs,?_⟩;exact WC d k g f (by rw[b];exact j) ⟨.ref a,H,I,rfl,q⟩
theorem ZiQ:SlR X (rSl X.K):=by
 intro pQ s O H x v i g lo hi sl Q I j n l k h;obtain⟨ad,st,t,d,st',S,f,e,p⟩:=h;unfold Z8 at e;split at e
 ·rename_i ds
  split at e
  ·rename_i m
   cases e;obtain⟨a,xs,rfl,c,r⟩:=f.ofTup;refine ZbR pQ s O H _ v i g lo hi sl Q I j n l k ⟨a,xs,rfl,c.sq,?_,p.at S f⟩;rw[r.length,<-Yt,<-Yt];exact m
  ·rename_i m
   cases e;obtain⟨a,xs,rfl,c,r⟩:=f.ofTup;refine sl_tup pQ s O H _ v i g lo hi sl Q I j n l k ⟨a,xs,rfl,(c).sq,?_,λq b=>p _ ad _ (Ext.laid b) (S.laid b) (.tup (.inl upd_same) ((Zah r).mono (Ext.laid b)))⟩
   rw[r.length,<-Yt,<-Yt];exact m
 ·split at e
  ·rename_i o
   cases e;obtain⟨a,rfl,c⟩:=f.ofLst;obtain⟨xs,r,sq⟩:=S.list c o;refine sl_list pQ s O H _ v i g lo hi sl Q I j n l k ⟨a,xs,rfl,sq,λq b=>p _ (ad++[q]) _ (Ext.push b) (S.push b (Zah r)) (.newL ?_)⟩
   rw[<-S.len];exact Zs
  ·exact Zb e
 ·exact Zb e
theorem X9(h:Dens X.K ad H vs [d]):∃ v,vs=[v]/\Den X.K ad H v d:=by
 cases h with
 |cons h r=>cases r;exact⟨_,rfl,h⟩
theorem ZdW{e:D}(h:Dens X.K ad H vs [d,e]):∃ v w,vs=[v,w]/\Den X.K ad H v d/\Den X.K ad H w e:=by
 cases h with
 |cons h r=>
  cases r with
  |cons a r=>cases r;exact⟨_,_,rfl,h,a⟩
theorem Yb{g:D->Za->Res}{r:D×Za}(h:on1 g ds st=some r):∃ d,ds=[d]/\g d st=some r:=by
 unfold on1 at h;split at h
 ·exact⟨_,rfl,h⟩
 ·exact Zb h
theorem WR{g:D->D->Za->Res}{r:D×Za}(h:on2 g ds st=some r):∃ d e,ds=[d,e]/\g d e st=some r:=by
 unfold on2 at h;split at h
 ·exact⟨_,_,rfl,h⟩
 ·exact Zb h
theorem Jm:CallR X (.builtin "len") (rC X.K (on1 Za4)):=by
 intro pQ s O H xs b Q I r h;obtain⟨ad,st,ds,d,st',S,l,e,p⟩:=h;obtain⟨x,rfl,z⟩:=Yb e;have e:=z;obtain⟨v,rfl,c⟩:=X9 l;unfold Za4 at e;split at e
 ·rename_i n q
  cases e;unfold Zfa at q;split at q
  ·cases q
   obtain⟨a,ys,rfl,i,f⟩:=c.ofTup;refine call_len_seq pQ s O H _ b Q I r ⟨a,ys,rfl,.inr ((i).sq),?_⟩;rw[f.length];exact p.at S (.int _)
  ·split at q
   ·rename_i j
    cases q;obtain⟨a,rfl,i⟩:=c.ofLst;obtain⟨ys,f,sq⟩:=S.list i j;refine call_len_seq pQ s O H _ b Q I r ⟨a,ys,rfl,.inl sq,?_⟩;rw[f.length];exact p.at S (.int _)
   ·cases q
  ·cases q
   obtain⟨a,o,g,n,rfl,y,w,u,t,m⟩:=c.ofKt;refine call_len_seq pQ s O H _ b Q I r ⟨a,_,rfl,.inr (.inr ⟨o,g,n,y,w.1,u,t,m⟩),?_⟩;rw[aB];exact p.at S (.int _)
  ·split at q
   ·rename_i k
    cases q;cases c
    exact call_len pQ s O H _ b Q I r ⟨_,_,rfl,⟨aP k Yd,rfl⟩,p.at S (.int _)⟩
   ·cases q
  ·cases q
 ·exact Zb e
theorem VH:CallR X (.type "tuple") (rC X.K (on1 VA)):=by
 intro pQ s O H xs g Q I r h;obtain⟨ad,st,ds,d,st',S,k,e,p⟩:=h;obtain⟨x,rfl,m⟩:=Yb e;have e:=m;obtain⟨v,rfl,b⟩:=X9 k;unfold VA at e;split at e
 ·cases e
  obtain⟨a,ys,rfl,f,i⟩:=b.ofTup;exact call_tuple_of pQ s O H _ g Q I r ⟨a,ys,rfl,.inr ⟨(f).sq,p.at S b⟩⟩
 ·split at e
  ·rename_i j
   cases e;obtain⟨a,rfl,f⟩:=b.ofLst;obtain⟨ys,i,sq⟩:=S.list f j;exact call_tuple_of pQ s O H _ g Q I r ⟨a,ys,rfl,.inl ⟨sq,λl c=>p _ ad _ (Ext.laid c) (S.laid c) (.tup (.inl upd_same) (i.mono (Ext.laid c)))⟩⟩
  ·cases e
 ·cases e
theorem Uy:CallR X (.type "list") (rC X.K (on1 Za6)):=by
 intro pQ s O H xs g Q I r h;obtain⟨ad,st,ds,d,st',S,k,e,p⟩:=h;obtain⟨x,rfl,m⟩:=Yb e;have e:=m;obtain⟨v,rfl,i⟩:=X9 k;unfold Za6 at e;split at e
 ·cases e
  obtain⟨a,ys,rfl,f,c⟩:=i.ofTup;refine call_list_of pQ s O H _ g Q I r ⟨a,ys,rfl,.inr ((f).sq),λl b=>p _ (ad++[l]) _ (Ext.push b) (S.push b c) (.newL ?_)⟩
  rw[<-S.len];exact Zs
 ·split at e
  ·rename_i j
   cases e;obtain⟨a,rfl,f⟩:=i.ofLst;obtain⟨ys,c,sq⟩:=S.list f j;refine call_list_of pQ s O H _ g Q I r ⟨a,ys,rfl,.inl sq,λl b=>p _ (ad++[l]) _ (Ext.push b) (S.push b c) (.newL ?_)⟩
   rw[<-S.len];exact Zs
  ·cases e
 ·cases e
theorem Jl:CallR X (.type "int") (rC X.K (on1 Ze1)):=by
 intro pQ s O H xs a Q I r h;obtain⟨ad,st,ds,d,st',S,c,e,p⟩:=h;obtain⟨x,rfl,f⟩:=Yb e;have e:=f;obtain⟨v,rfl,b⟩:=X9 c;unfold Ze1 at e;split at e
 ·cases e;cases b
  exact call_int1 pQ s O H _ a Q I r (.inl ⟨_,rfl,p.at S (.int _)⟩)
 ·cases e;cases b
  exact call_int1 pQ s O H _ a Q I r (.inr ⟨true,rfl,p.at S (.int _)⟩)
 ·cases e;cases b
  exact call_int1 pQ s O H _ a Q I r (.inr ⟨false,rfl,p.at S (.int _)⟩)
 ·exact Zb e
theorem Jo(g:X.calm=true):CallR X (.builtin "min") (rC X.K (on2 Zfd)):=by
 intro pQ s O H xs a Q I r h;obtain⟨ad,st,ds,d,st',S,f,e,p⟩:=h;obtain⟨x,y,rfl,i⟩:=WR e;have e:=i;obtain⟨v,w,rfl,c,b⟩:=ZdW f;unfold Zfd at e;split at e
 ·cases e;cases c;cases b
  exact call_min2 g pQ s O H _ a Q I r ⟨_,_,rfl,p.at S (.int _)⟩
 ·exact Zb e
theorem Jn(g:X.calm=true):CallR X (.builtin "max") (rC X.K (on2 Zfb)):=by
 intro pQ s O H xs a Q I r h;obtain⟨ad,st,ds,d,st',S,f,e,p⟩:=h;obtain⟨x,y,rfl,i⟩:=WR e;have e:=i;obtain⟨v,w,rfl,c,b⟩:=ZdW f;unfold Zfb at e;split at e
 ·cases e;cases c;cases b
  exact call_max2 g pQ s O H _ a Q I r ⟨_,_,rfl,p.at S (.int _)⟩
 ·exact Zb e
noncomputable def tyN:Ty->String
 |.int => "int"
 |.bool => "bool"
 |.str => "str"
 |.tuple => "tuple"
noncomputable def ZaY:D->String
 |.int _ => "int"
 |.bl _ => "bool"
 |.str _ => "str"
 |.tup _ => "tuple"
 |.non => "NoneType"
 |_ => "list"
theorem ZaZ(K:fG7){T:Ty}(h:Ze5 T d=some k):W.kitOne K (.type (ZaY d)) (.type (tyN T))=some k:=by
 cases d<;>first | (cases h;done) | (cases T<;>(cases h;rfl))
theorem Zho{K:fG7}{v:V}{T:Ty}(h:Ze5 T d=some k)(c:Den K ad H v d):TyOf K H v (.type (ZaY d))\/∃ a xs,v=.ref a/\SqT K H a xs/\ZaY d = "tuple":=by
 cases c with
 |non=>exact .inl .non
 |bl b=>exact .inl (.bl b)
 |int i=>exact .inl (.int i)
 |str x=>exact .inl (.str x)
 |tup e r=>exact .inr ⟨_,_,rfl,e.sq,rfl⟩
 |lst e=>exact Zb h
 |dic _ _=>exact Zb h
 |dct _ _ _ _ _=>exact Zb h
 |obj _ _=>exact Zb h
 |kt _ _ _ _ _ _=>exact Zb h
theorem Zac{T:Ty}:CallR X (.builtin "isinstance") (λvs H Q=>∃ v,vs=[v,.ty (tyN T)]/\rC X.K (on1 (ZaV T)) [v] H Q):=by
 intro pQ s O H xs D Q I r h;obtain⟨v,rfl,ad,st,ds,d,st',S,u,e,p⟩:=h;obtain⟨x,rfl,B⟩:=Yb e;have e:=B;obtain⟨w,n,t⟩:=X9 u;cases n;unfold ZaV at e;split at e
 ·rename_i k q
  cases e;cases r with
  |cons b i=>
   cases i with
   |cons g f=>
    cases f;cases g;rcases Zho q t with ty|⟨a,C,rfl,sq,l⟩
    ·exact isinst_ok I b ty (ZaZ X.K q) λc=>⟨.bl k,H,I.tok _,rfl,p.at S (.bl k)⟩
    ·have kt:=ZaZ X.K q
     rw[l]at kt;cases b;obtain⟨m,_,j,_⟩:=I.tuple sq;obtain⟨o,A,y,_⟩:=j;exact W.kia_one W.kitx_tuple I.kIn ⟨o,A,y⟩ kt (λz=>nomatch z) λc=>⟨.bl k,H,I.tok _,rfl,p.at S (.bl k)⟩
 ·exact Zb e
variable [ClsTab]
def tDd(K:fG7)(c d:TE):TE:=λO H Q=>∀ p,H p=none->(∀ o,K.lookup p≠some o)->c O (upd H p (.dT [])) λx e=>d O e λv a=>∃ kvs b k,a p=some (.dT kvs)/\kvs.length < sizeLine/\x=.ref b/\a b=some (.tup (k.map kV))/\Q (.ref p) (upd a p (.dT (putK kvs k v)))
theorem ZgT(hu:X.A.units+1 < cLine){f:Pos}{a e:Expr}{j l:TE}(L:PE X a j)(G:PE X e l):PE X (.Dict [some a] [e] f) (tDd X.K j l):=by
 intro pQ s O H Q I q;have F:=I.hok.fresh (aD s.heap.objs.size);have U:=I.laid (a:=s.heap.objs.size) (o:=.dT []) (h':=s.heap.push { cls:=.type "dict",data:=.dict #[] }) (t':=s.toks) (λ_ _ q=>aK _ q) (aD _) (dt_empty s.heap I.big)
 refine wpAny_Dict_any rfl rfl (by simp) (by show 1<=15;decide) (pairTrees_cons_walk (thn (L pQ _ O _ _ U (q _ F λo z=>absurd (aJ (I.kIn _ o z)) (bO _))) λu s1 ⟨x,W,T,y,C⟩=>thn (G pQ s1 O W _ T C) λY Z ⟨v,V,i,rv,kvs,b,k,g,p,ex,t,B⟩=>pairTrees_nil_walk ?_))
 subst ex;cases (show u=Value.ref b from y)
 obtain⟨z,J,xs,d,dd⟩:=dt_of i.hok g;have D:xs.length<=sizeLine:=by rw[<-Paired.length d];exact z
 have p:(putK kvs k v).length<=sizeLine:=by have:=length_putK kvs k v;omega
 unfold storeAll;rw[cZ];refine aA (aA (wpAny_dictSet_heap (hsz:=D) (show(tupleKind (mixKind X.prog X.w)).room X.A from Nat.lt_of_succ_lt hu) (key_of i.hok t) dd λh' h E=>aE ?_))
 dsimp only;rw[List.forIn_nil];refine aE ?_;obtain⟨m,es,S,n,R,P,N,_,M⟩:=h;refine⟨.ref _,upd V _ (.dT (putK kvs k v)),d_write i (by rw[g];exact True.intro) E ⟨m,n⟩ ⟨p,J,_,(d.put k t rv).keeps λc ys r=>?_,m,es,S,n,R,P,N,M⟩,rfl,B⟩
 rw[upd_ne (ne_of r g (λz=>nomatch z))]
 exact r
variable{fa:Ev}
theorem ZeX{D C:Ev}(O:L2.St)(H:Hp)(Q:VK)(h:tE X.K (ddE fa D C) O H Q):tDd X.K (tTup (tCons (tE X.K fa) (tCons (tE X.K D) tNil))) (tE X.K C) O H Q:=by
 obtain⟨ad,U,st,d,st',E,S,e,p⟩:=h;unfold ddE at e;split at e
 ·rename_i i g P
  split at e
  ·rename_i j f N
   split at e
   ·rename_i z m M
    split at e
    ·rename_i xs w
     split at e
     ·rename_i R
      cases e;intro q y B;have k:=S.extD (kvs:=[]) y B;refine⟨ad++[q],U,st++[(true,[])],.int i,g,E.mono k,S.pushD y B,P,λw1 o H1 l Z W=>⟨o,U,g,.int j,f,E.mono (k.trans l),Z,N,λw2 c I v Y V=>⟨show 2<=sizeLine by decide,λt x=>?_⟩⟩⟩
      cases W.ofInt;cases V.ofInt;have u:Ext c I c (upd I t (.tup [.int i,.int j])):=Ext.laid x;refine⟨c,U,f,z,m,E.mono (k.trans (l.trans (v.trans u))),Y.laid x,M,λL b G s F T=>?_⟩
      have X:=l.trans (v.trans (u.trans s));have A:(ad++[q])[st.length]?=some q:=by rw[<-S.len];exact Zs
      have a:=X.pre _ _ A;obtain⟨kvs,r,n,_⟩:=F.dict a ((X.kd _ _ A).mp ⟨_,upd_same⟩) w;have J:Ext b G b (upd G q (.dT (putK kvs [.inl i,.inl j] L))):=Ext.writeD n (aW a);exact⟨kvs,t,[.inl i,.inl j],n,by rw[XH r];exact aT R (by decide),rfl,s.tup t _ upd_same,p _ b _ (k.trans (X.trans J)) (F.writeD a w n (VP T r)) (.dic a ⟨_,upd_same⟩)⟩
     ·exact Zb e
    ·exact Zb e
   ·exact Zb e
  ·exact Zb e
 ·exact Zb e
theorem ZcR{K:fG7}(O:L2.St)(H:Hp)(Q:VK)(h:tE K (Zq fa Zdc) O H Q):tBM0 K "list" rPop (tE K fa) O H Q:=by
 obtain⟨ad,U,st,d,st',E,S,e,p⟩:=h;unfold Zq at e;split at e
 ·rename_i x c q
  unfold Zdc at e;split at e
  ·rename_i i
   split at e
   ·rename_i ds j
    obtain⟨w,o,e⟩:=dH.mp e;cases e;refine⟨ad,U,st,.lst i,c,E,S,q,λv a m n k u=>?_⟩
    obtain⟨l,rfl,f⟩:=u.ofLst;obtain⟨xs,r,b⟩:=k.listM f j;obtain⟨y,s,t⟩:=r.get o;have g:Ext a m a (upd m l (.lst xs.dropLast)):=Ext.write b (aW f.1);refine⟨.inl ⟨rfl,xs,.inl (.inl b)⟩,l,xs,y,rfl,rfl,b,by rw[r.length];exact s,p _ a _ (n.trans g) (k.write f j b ?_) (t.mono g)⟩
    rw[List.dropLast_eq_take,List.dropLast_eq_take,r.length];exact r.take _
   ·exact Zb e
  ·exact Zb e
 ·exact Zb e
def ZbF(K:fG7):V->Li V->Hp->VK->Prop:=λx vs H Q=>∃ p kvs b k,x=.ref p/\H p=some (.dT kvs)/\SqT K H b (k.map kV)/\((vs=[.ref b]/\Q ((valV kvs k).getD .non) H)\/∃ a,vs=[.ref b,a]/\Q ((valV kvs k).getD a) H)
theorem WT{a:Ot V}{b:Ot vL}{x:V}{u:vL}(h:L2.RelO a b)(r:L2.RelV x u):L2.RelV (a.getD x) (b.getD u):=by
 cases a with
 |none=>cases b with
  |none=>exact r
  |some _=>exact h.elim
 |some _=>cases b with
  |none=>exact h.elim
  |some _=>exact h
theorem QK(hu:X.A.units+1 < cLine):MtM X "dict.get" (ZbF X.K):=by
 intro pQ s O H x vs v u Q I j rv h;obtain⟨p,kvs,b,k,rfl,o,r,h⟩:=h;cases j;obtain⟨t,e,xs,a,dd⟩:=dt_of I.hok o;obtain⟨n,l,i,_⟩:=I.tuple r;have d:=key_at (P:=X.prog) (w:=X.w) l i;rcases h with⟨rfl,q⟩|⟨y,rfl,q⟩
 ·obtain⟨g,rfl,c⟩:=rv.one
  cases c;exact call_meetsIn PySem.F.slot_dict_get dd.typeIs PySem.F.entry_dict_get (PySem.F.args_dict_get_2 _ _) (meetsH_dict_get (tupleKind (mixKind X.prog X.w)) p b e) ⟨tupleKind_room_in1 hu,k,xs,d,dd,⟨_,H,I.tok _,WT (x:=V.non) (a.val k) (show L2.RelV .non .none from rfl),q⟩⟩
 ·obtain⟨g,f,rfl,c,m⟩:=rv.two
  cases c;exact call_meetsIn PySem.F.slot_dict_get dd.typeIs PySem.F.entry_dict_get (PySem.F.args_dict_get_3 _ _ _) (meetsH_dict_get_default (tupleKind (mixKind X.prog X.w)) p b e f) ⟨tupleKind_room_in1 hu,k,xs,d,dd,⟨_,H,I.tok _,WT (a.val k) m,q⟩⟩
theorem Zd5{x y z:D}{st':Za}(h:gtD x y z st=some (d,st')):∃ a i j b ds,x=.dic a/\y=.tup [.int i,.int j]/\st[a]?=some (b,ds)/\d=(Z4 ds i j).getD z/\st'=st:=by
 unfold gtD at h;split at h
 ·obtain⟨o,f,c⟩:=dH.mp h
  cases c;obtain⟨i,j,b,ds,rfl,e,rfl⟩:=UB f;exact⟨_,i,j,b,ds,rfl,rfl,e,rfl,rfl⟩
 ·exact Zb h
theorem ZcK{C fd:Ev}(O:L2.St)(H:Hp)(Q:VK)(h:tE X.K (YC fa C fd gtD) O H Q):tBM X.K "dict" (ZbF X.K) (tE X.K fa) (tCons (tE X.K C) (tCons (tE X.K fd) tNil)) O H Q:=by
 obtain⟨ad,U,st,d,st',E,S,e,p⟩:=h;unfold YC at e;split at e
 ·rename_i x g M
  split at e
  ·rename_i y f L
   split at e
   ·rename_i z G J
    obtain⟨a,i,j,bb,ds,rfl,rfl,I,rfl,rfl⟩:=Zd5 e;refine⟨ad,U,st,_,g,E,S,M,λv1 t H1 m Z W=>?_⟩
    obtain⟨l,rfl,B,n⟩:=W.ofDic;refine⟨.inr (.inr (.inl ⟨rfl,.inr n⟩)),t,U,g,_,f,E.mono m,Z,L,λv2 s H2 A Y V=>⟨s,U,f,_,_,E.mono (m.trans A),Y,J,λF k D v u T=>?_⟩⟩
    have c:=A.trans v;obtain⟨kvs,r,N,_⟩:=u.dict (c.pre _ _ B) ((c.kd _ _ B).mp n) I;obtain⟨b,rfl,P⟩:=Xi (V.mono v);refine⟨l,kvs,b,_,rfl,N,P,.inr ⟨F,rfl,?_⟩⟩;rcases YU r with⟨w,d0,q,o,R⟩|⟨q,o⟩
    ·rw[q];rw[o]at p
     exact p _ k D (m.trans c) u R
    ·rw[q];rw[o]at p
     exact p _ k D (m.trans c) u T
   ·exact Zb e
  ·exact Zb e
 ·exact Zb e
theorem ZcJ{v:Ev}(O:L2.St)(H:Hp)(Q:VK)(h:tE X.K (YC fa v (evC .non) gtD) O H Q):tBM X.K "dict" (ZbF X.K) (tE X.K fa) (tCons (tE X.K v) tNil) O H Q:=by
 obtain⟨ad,U,st,d,st',E,S,e,p⟩:=h;unfold YC at e;split at e
 ·rename_i x c C
  split at e
  ·rename_i y m B
   obtain⟨a,i,j,R,ds,rfl,rfl,A,rfl,rfl⟩:=Zd5 (show gtD x y .non m=some (d,st') from e);refine⟨ad,U,st,_,c,E,S,C,λN s T k L J=>?_⟩
   obtain⟨l,rfl,u,n⟩:=J.ofDic;refine⟨.inr (.inr (.inl ⟨rfl,.inr n⟩)),s,U,c,_,_,E.mono k,L,B,λM f z g t I=>?_⟩
   obtain⟨kvs,r,D,_⟩:=t.dict (g.pre _ _ u) ((g.kd _ _ u).mp n) A;obtain⟨b,rfl,F⟩:=Xi I;refine⟨l,kvs,b,_,rfl,D,F,.inl ⟨rfl,?_⟩⟩;rcases YU r with⟨w,P,q,o,G⟩|⟨q,o⟩
   ·rw[q];rw[o]at p
    exact p _ f z (k.trans g) t G
   ·rw[q];rw[o]at p
    exact p _ f z (k.trans g) t .non
  ·exact Zb e
 ·exact Zb e
end Dp
namespace Dp
open PySem PySem.Spec PyProof.Rows L2 PySem.W
variable [ClsTab]
variable{n:Nat}
section
variable{α β:Type}{ok:α->Prop}{ok':β->Prop}
def TOk(n:Nat)(ok:α->Prop):KasT α->Prop
 |.ret a=>ok a
 |.ask i j k=>i < n/\j < n/\∀ b,TOk n ok (k b)
omit [ClsTab] in
theorem TOk.bind{f:α->KasT β}(h:∀ a,ok a->TOk n ok' (f a)):∀ {t:KasT α},TOk n ok t->TOk n ok' (t.bind f)
 |.ret a,x=>h a x
 |.ask _ _ _,x=>⟨x.1,x.2.1,λb=>TOk.bind h (x.2.2 b)⟩
omit [ClsTab] in
theorem TOk.go{f:Nat->Nat->Bool}:∀ {t:KasT α},TOk n ok t->ok (goT f t)
 |.ret _,x=>x
 |.ask i j k,x=>TOk.go (t:=k (f i j)) (x.2.2 (f i j))
omit [ClsTab] in
theorem TOk.wp{f:Nat->Nat->Bool}{cmp:Nat->Nat->(Bool->sH7->Prop)->sH7->Prop}{G:α->sH7->Prop}{s:sH7}(a:∀ i j C,i < n->j < n->C (f i j) s->cmp i j C s):∀ {t:KasT α},TOk n ok t->G (goT f t) s->t.kasWp cmp G s
 |.ret _,_,h=>h
 |.ask i j _,x,h=>a i j _ x.1 x.2.1 (TOk.wp a (x.2.2 (f i j)) h)
end
abbrev PrA(n:Nat)(p:Array Nat):Prop:=p.Perm (List.range n).toArray
section
variable{p:Array Nat}
omit [ClsTab] in
theorem PrA.lt(h:PrA n p)(b:0 < n)(i:Nat):p.getD i 0 < n:=by
 by_cases a:i < p.size
 ·have m:p[i]∈(List.range n).toArray:=(Array.Perm.mem_iff h).mp (Array.getElem_mem a)
  have e:p.getD i 0=p[i]:=by simp[Array.getD,a]
  rw[e];simpa using m
 ·have e:p.getD i 0=0:=by simp[Array.getD,a]
  rw[e];exact b
omit [ClsTab] in
theorem PrA.rev(h:PrA n p)(i j:Nat):PrA n (kas_rev p i j):=(mirror_perm _ _ _ _).trans h
omit [ClsTab] in
theorem Uq(h:PrA n p)(a:0 < n):∀ (f k:Nat),TOk n (λ_=>True) (kas_asc p f k)
 |0,_=>trivial
 |f+1,k=>⟨h.lt a _,h.lt a _,λb=>by
  cases b with
  |true=>exact trivial
  |false=>exact Uq h a f (k+1)⟩
omit [ClsTab] in
theorem XT(a:0 < n):∀ (f:Nat) {p:Array Nat} (k q:Nat),PrA n p->TOk n (λr=>PrA n r.1) (kas_desc f p k q)
 |0,_,_,_,h=>h
 |f+1,p,k,q,h=>⟨h.lt a _,h.lt a _,λb=>by
  cases b with
  |true=>
   show TOk n _ (if q > 0 then _ else _)
   split
   ·exact XT a f _ _ (h.rev _ _)
   ·exact XT a f _ _ h
  |false=>exact⟨h.lt a _,h.lt a _,λd=>by
    cases d with
    |true=>exact h
    |false=>exact XT a f _ _ h⟩⟩
omit [ClsTab] in
theorem Q4(h:PrA n p)(a:0 < n)(k m:Nat):TOk n (λr=>PrA n r.2) (kas_tail3 k m p):=TOk.bind (ok':=λr:Nat×Array Nat=>PrA n r.2) (f:=λm=>.ret (m,kas_rev p 0 k)) (λ_ _=>h.rev 0 k) (Uq (h.rev _ _) a _ _)
omit [ClsTab] in
theorem VN(h:PrA n p)(a:0 < n)(k m:Nat):TOk n (λr=>PrA n r.2) (kas_descPart k m p):=(XT a _ _ _ h).bind λr b=>by
 split
 ·exact Q4 (b.rev _ _) a _ _
 ·exact Q4 b a _ _
omit [ClsTab] in
theorem Zaf(h:PrA n p)(a:0 < n)(m:Nat):TOk n (λr=>PrA n r.2) (kas_count m p):=(Uq h a _ _).bind λk _=>by
 split
 ·exact h
 ·split
  ·exact⟨h.lt a _,h.lt a _,λc=>by
    cases c with
    |true=>exact h
    |false=>exact VN (h.rev _ _) a _ _⟩
  ·exact VN h a _ _
omit [ClsTab] in
theorem Wq(h:PrA n p)(a:0 < n)(k:Nat):∀ (f l r:Nat),TOk n (λ_=>True) (kas_place p k f l r)
 |0,_,_=>trivial
 |f+1,l,r=>by
  unfold kas_place;split
  ·exact trivial
  ·exact⟨h.lt a _,h.lt a _,λc=>by
    cases c with
    |true=>exact Wq h a k f _ _
    |false=>exact Wq h a k f _ _⟩
omit [ClsTab] in
theorem J5(a:0 < n):∀ (f:Nat) {p:Array Nat} (k:Nat),PrA n p->TOk n (PrA n) (kas_bin f p k)
 |0,_,_,h=>h
 |f+1,p,k,h=>(Wq h a k _ _ _).bind λl _=>J5 a f _ ((bubble_perm _ _ _).trans h)
omit [ClsTab] in
theorem Vv(b:0 < n):TOk n (PrA n) (kas_sort n):=(Zaf (Array.Perm.refl _) b _).bind λr a=>by
 split
 ·exact J5 b _ _ a
 ·exact a
end
variable{prog:Program}{w:World}{A:Around}{E:vL->sH7->Prop}{s:sH7}
omit [ClsTab] in
theorem ZdE{a:Ad}{vs:Li vL}{n:Nat}{P:PySem.Fin->sH7->Prop}{κ:SortKind}{f:Nat->Nat->Bool}(t:s.heap.get? a=some (seqObj "list" vs.toArray n))(v:vs.length < 64)(K:∀ k,(∀ b o,b≠a->s.heap.get? b=some o->k.get? b=some o)->2<=vs.length->∀ (Q:SortKind->sH7->Prop),Q κ { s with heap:=k }->wpAny (model prog w) A (keyKind' vs.toArray) Q (λ_ _=>False) { s with heap:=k })(M:∀ k,(∀ b o,b≠a->s.heap.get? b=some o->k.get? b=some o)->∀ i j C,i < vs.length->j < vs.length->C (f i j) { s with heap:=k }->kas_ask prog w A κ vs i j C { s with heap:=k })(h:P (.done (.ret .none)) { s with heap:=sortedHeap s.heap a vs (pick f Value.none vs).toArray }) :
  wpAny (model prog w) A (Builtin.«list.sort» ⟨[.ref a],[]⟩) P E s:=by
 rw[list_sort_plain];have J:a < s.heap.objs.size:=aJ t;refine aA (listItems_at t rfl ?_);refine aA (listUpdate_at t rfl ?_ (by rw[aG,sizeLine_eq];omega) (aM _))
 obtain⟨z,m⟩:∃ z,(s.heap.update a (Obj.mapSeq λ_=>#[])).get? a=some (seqObj "list" #[] z):=⟨_,get?_update_seq t (λ_=>#[])⟩
 refine aA (seqEpoch_at m rfl ?_);refine aA (wpAny_newTuple ?_ (by show vs.length<=_;rw[sizeLine_eq];omega))
 refine aA (wpAny_newList ?_ (aM _));refine wpAny_holding ?_;have c:(((s.heap.update a (Obj.mapSeq λ_=>#[])).push (seqObj "tuple" vs.toArray 0)).push (seqObj "list" #[] 0)).get? a=some (seqObj "list" #[] z):=aK _ (aK _ m)
 have B:∀ b o,b≠a->s.heap.get? b=some o->(((s.heap.update a (Obj.mapSeq λ_=>#[])).push (seqObj "tuple" vs.toArray 0)).push (seqObj "list" #[] 0)).get? b=some o:=λb o F q=>
  aK _ (aK _ (by rw[Heap.get?_update_ne _ _ _ _ F];exact q))
 show wpAny (model prog w) A _ P E { s with heap:=((s.heap.update a (Obj.mapSeq λ_=>#[])).push (seqObj "tuple" vs.toArray 0)).push (seqObj "list" #[] 0) }
 dsimp only;by_cases d:vs.toArray.size < 2
 ·rw[if_pos d,if_pos d]
  refine aA (aE ?_);rw[StateT.run_pure];refine aA (aE ?_);dsimp only;have y:(arrOf (SortSt.mk' general' (vs.toArray.zip vs.toArray) #[] 7 none)).map (·.2)=(pick f Value.none vs).toArray:=by
   unfold pick;rw[if_pos (by simpa using d)]
   show(vs.toArray.zip vs.toArray).map (·.2)=_;apply Array.toList_inj.mp
   simp only[Array.toList_map,Array.toList_zip,List.toList_toArray];exact List.map_snd_zip (aD _)
  rw[y];refine aA (seqEpoch_at c rfl ?_);refine aA (listUpdate_at c rfl ?_ (aM _) (by unfold pick;rw[if_pos (by simpa using d),aG,sizeLine_eq];omega))
  simp only[bne_self_eq_false,dI,if_false];exact aE h
 ·rw[if_neg d,if_neg d]
  have r:2<=vs.length:=by rw[aG]at d;omega
  refine aA (bG (K _ B r (λl g=>l=κ/\g=_) ⟨rfl,rfl⟩) (λl g I=>?_) λ_ _ x=>x.elim)
  obtain⟨rfl,rfl⟩:=I;have T:=Vv (n:=vs.length) (by omega)
  refine aA (bG (kat_run (Q:=λst' g=>g={ s with heap:=((s.heap.update a (Obj.mapSeq λ_=>#[])).push (seqObj "tuple" vs.toArray 0)).push (seqObj "list" #[] 0) }/\arrOf st'=(goT f (kas_sort vs.length)).map (kas_item (vs.toArray.zip vs.toArray))/\failedOf st'=none)
   (G:=λp g=>p=goT f (kas_sort vs.length)/\g={ s with heap:=((s.heap.update a (Obj.mapSeq λ_=>#[])).push (seqObj "tuple" vs.toArray 0)).push (seqObj "list" #[] 0) })
   rfl r v (λp st' g _ S R D=>⟨D.2,by rw[S,D.1],R⟩) (T.wp (λi j C O d N=>M _ B i j C O d N) ⟨rfl,rfl⟩)) ?_ λ_ _ e=>e)
  rintro⟨⟨⟩,st'⟩ g ⟨rfl,u,L⟩
  dsimp only;have y:(arrOf st').map (·.2)=(pick f Value.none vs).toArray:=by
   rw[kat_snds rfl u];unfold pick;rw[if_neg (by omega)]
  rw[y];have H:(pick f Value.none vs).toArray.size<=sizeLine:=by
   unfold pick;rw[if_neg (by omega),aG,aB,cI,(T.go (f:=f)).size_eq,aG,bR,sizeLine_eq]
   omega
  refine aA (seqEpoch_at c rfl ?_);refine aA (listUpdate_at c rfl ?_ (aM _) (Nat.le_succ_of_le H));rw[L];simp only[bne_self_eq_false,dI,if_false];exact aE h
section
variable{d:Ad}{es:Array DictEntry}{ep:Nat}
def Raw(h:Heap)(d:Ad)(es:Array DictEntry)(ep:Nat):Prop:=∃ o,h.get? d=some o/\o.ExactDict/\o.data=.dict es ep
omit [ClsTab] in
theorem Raw.typeIs{d:Ad}{es:Array DictEntry}{ep:Nat}(x:Raw s.heap d es ep):s.TypeIs (.ref d) "dict":=let ⟨o,ho,hc,_⟩:=x;⟨o,ho,hc.1⟩
omit [ClsTab] in
theorem Zbv:Builtin.Dict_items.ownsTuple "dict_keyiterator"=false:=by decide
omit [ClsTab] in
theorem Zbi{b:Ad}{i:Nat}{Q:Ot vL->sH7->Prop}(a:s.heap.IsKeyIter b d i es.size ep)(l:Raw s.heap d es ep)(j:i < es.size)(p:∀ k,k.IsKeyIter b d (i+1) es.size ep->Heap.SameBut b s.heap k->Q (some es[i].key) { s with heap:=k }):wpAny (model prog w) A (pyNext (.ref b)) Q E s:=by
 obtain⟨o,h,n,g⟩:=id a;obtain⟨q,e,m,f⟩:=id l;unfold pyNext;refine aA (wpAny_attempt (wpAny_callSpecial?_slot (name:=Str.ofString "__next__") a.typeIs F.slot_dict_keyiterator_next (wpAny_call_entry F.slot_dict_keyiterator_next a.typeIs F.entry_dict_keyiterator_next ?_ (F.args_dict_keyiterator_next_1 _))));refine aA (aE (aA (aA ?_)))
 refine aA (wpAny_typeNameOfWhole_keyiter a.typeIs (aE (aA (wpAny_fieldsOf h g ?_))));simp only[Zbv,dI,if_false];show wpAny _ _ (if (Value.ref d==Value.none)=true then _ else _) _ _ s
 rw[if_neg (show ¬((Value.ref d==Value.none)=true) from bF7)];refine aA (aE (aA (wpAny_dictEntries e f ?_)));rw[if_neg (by simp)]
 refine aA (aE (aA (wpAny_dictEpoch e f ?_)));rw[if_neg (by simp)]
 refine aE ?_;simp only[show ¬((i:Int) < 0) from by omega,if_false,aZ,eH j]
 refine aA (aA (wpAny_typeNameOfWhole_keyiter a.typeIs (aE (aA (wpAny_isOneOf_keyiter a.typeIs ?_)))));show wpAny _ _ (setField (.ref b) 1 (rawInt ((i:Int)+1)) >>= _) _ _ s;refine aA (wpAny_setField h g (by simp) ?_)
 have c:(s.heap.update b (Obj.mapFields (·.setIfInBounds 1 (rawInt ((i:Int)+1))))).IsKeyIter b d (i+1) es.size ep:=
  ⟨_,Heap.get?_update_self _ h (Obj.isFreed_of_fields (Obj.data_mapFields g _)),(Obj.cls_mapFields ..).trans n,by rw[Obj.data_mapFields g];simp[rawInt]⟩
 refine aA (wpAny_holding (aA (wpAny_isOneOf_keyiter (s:={ s with heap:=s.heap.update b (Obj.mapFields (·.setIfInBounds 1 (rawInt ((i:Int)+1)))) }) c.typeIs ?_)))
 show wpAny _ _ (pure es[i].key) _ _ _;exact aE (aE ⟨_,rfl,aE (p _ c (Heap.SameBut.update ..))⟩)
omit [ClsTab] in
theorem ZcC{g:Ad}{Q:Ot vL->sH7->Prop}(l:A.handled=none)(c:s.heap.IsKeyIter g d es.size es.size ep)(k:Raw s.heap d es ep)(p:∀ j,Heap.ExtBut g s.heap j->Q none { s with heap:=j }):wpAny (model prog w) A (pyNext (.ref g)) Q E s:=by
 obtain⟨o,h,r,i⟩:=id c;obtain⟨q,e,n,f⟩:=id k;unfold pyNext;refine aA (wpAny_attempt (wpAny_callSpecial?_slot (name:=Str.ofString "__next__") c.typeIs F.slot_dict_keyiterator_next (wpAny_call_entry F.slot_dict_keyiterator_next c.typeIs F.entry_dict_keyiterator_next ?_ (F.args_dict_keyiterator_next_1 _))));refine aA (aE (aA (aA ?_)))
 refine aA (wpAny_typeNameOfWhole_keyiter c.typeIs (aE (aA (wpAny_fieldsOf h i ?_))));simp only[Zbv,dI,if_false];show wpAny _ _ (if (Value.ref d==Value.none)=true then _ else _) _ _ s
 rw[if_neg (show ¬((Value.ref d==Value.none)=true) from bF7)];refine aA (aE (aA (wpAny_dictEntries e f ?_)));rw[if_neg (by simp)]
 refine aA (aE (aA (wpAny_dictEpoch e f ?_)));rw[if_neg (by simp)]
 refine aE ?_;simp only[show ¬((es.size:Int) < 0) from by omega,if_false,aZ,Array.getElem?_eq_none (aD es.size)]
 refine aA (aA (wpAny_typeNameOfWhole_keyiter c.typeIs (aE ?_)));show wpAny _ _ (setField (.ref g) 0 .none >>= _) _ _ s;refine aA (wpAny_setField h i (by simp) ?_)
 show wpAny _ _ (newExc (.type "StopIteration") [] >>= _) _ _ _;refine aA ?_;simp only[newExc,newTuple];refine aA (wpAny_newObj_type ?_ (by size_fits))
 refine aA (m:=firstArgMember _ _) (wpAny_of_eq (a:=Value.none) (by first|rfl | (simp only[firstArgMember];rfl)) (wpAny_newObj_type ?_ (by size_fits)))
 simp only[raiseNew];refine aA (wpAny_handled ?_);rw[show A.in1.handled=none from l];refine aA (aE (wpAny_throw ?_));exact aA (wpAny_isInstance (T := "StopIteration") (b:=true) ⟨_,aX _ rfl,rfl⟩ isSubtype_stop (aE (p _ (((Heap.SameBut.update ..).extBut.push _).push _))))
omit [ClsTab] in
theorem Raw.at{h a:Heap}(x:Raw h d es ep)(e:∀ o,h.get? d=some o->a.get? d=some o):Raw a d es ep:=let ⟨o,ho,r⟩:=x;⟨o,e _ ho,r⟩
omit [ClsTab] in
theorem Raw.lt{h:Heap}(x:Raw h d es ep):d < h.objs.size:=let ⟨_,ho,_⟩:=x;aJ ho
omit [ClsTab] in
theorem JH(p:A.handled=none)(I:Ad)(j:d≠I):Walks prog w A I [I,d] [I] es.size (λi v=>∃ e,es[i]?=some e/\v=e.key) (λi h=>h.IsKeyIter I d i es.size ep/\Raw h d es ep) where
 sub:=λb a=>by simp at a;simp[a]
 frame:=λ_ _ _ st m=>⟨st.1.at λo e=>m I (by simp) o e,st.2.at λo e=>m d (by simp) o e⟩
 item:=λi s Q E n st g=>Zbi st.1 st.2 n λl f c=>g _ l s.toks ⟨_,eH n,rfl⟩ ⟨f,st.2.at λo e=>c.extBut d o j e⟩ λb o a e=>c.extBut b o (λh=>a (by simp[h])) e
 done:=λs Q E st g=>ZcC p st.1 st.2 λl k=>g l s.toks λb o a e=>k b o (λh=>a (by simp[h])) e
 self:=λ_ _ _ _ st g=>wpAny_pyIter_keyiter st.1 g
omit [ClsTab] in
theorem JA{Q:vL->sH7->Prop}(hd:(d==sysModules)=false)(e:Raw s.heap d es ep)(f:Q (.ref s.heap.objs.size) { s with heap:=s.heap.push { cls:=.type "dict_keyiterator",data:=.fields #[.ref d,.int 0 0,.int es.size 0,.int ep 0] } }) :
  wpAny (model prog w) A (pyIter (.ref d)) Q E s:=by
 obtain⟨o,c,g,a⟩:=id e;have b:s.TypeIs (.ref d) "dict":=e.typeIs;refine wpAny_pyIter_slot b F.slot_dict_iter (wpAny_call_entry F.slot_dict_iter b F.entry_dict_iter ?_ (F.args_dict_iter_1 _));unfold Builtin.«dict.__iter__»
 refine aA ?_;unfold Builtin.Dict.dictSlotNone;refine aA (wpAny_notOrdered_dict b ?_);show wpAny _ _ (pure (Value.ref d)) _ _ s;refine aE ?_;show wpAny _ _ (Builtin.Dict.showsAll d >>= _) _ _ s;unfold Builtin.Dict.showsAll;rw[if_neg (by rw[hd];exact bF7)]
 refine aA (aE ?_);refine aA (wpAny_dictEntries c a ?_);refine aA (wpAny_dictEpoch c a ?_);refine aA (wpAny_newObj_type (aE ⟨_,rfl, "dict_keyiterator",_,⟨_,aX _ rfl,rfl⟩,F.slot_dict_keyiterator_next.lookup,?_⟩));simpa[rawInt] using f
omit [ClsTab] in
theorem ZbV(hd:(d==sysModules)=false):KdlSrc prog w "dict" d d es.size (λi v=>∃ e,es[i]?=some e/\v=e.key) (λh=>Raw h d es ep) where
 type:=λ_ a=>a.typeIs
 there:=λ_ a=>⟨a.lt,a.lt⟩
 keep:=λ_ _ a c=>a.at λo e=>c d (.inl rfl) o e
 notList:=by decide
 notTuple:=by decide
 hint:=λ_ _ _ _ a b=>kdl_hint_dict a.typeIs b
 iter:=λ_ _ f a=>⟨_,_,(λ_ _ b=>JA hd a b),JH f _ (aY a.lt),⟨⟨_,aX _ rfl,rfl,rfl⟩,a.at λo e=>aK _ e⟩⟩
omit [ClsTab] in
theorem U1{vs:Li vL}{κ:SortKind}{f:Nat->Nat->Bool}{Q:vL->sH7->Prop}(H:A.handled=none)(hd:(d==sysModules)=false)(F:Raw s.heap d es ep)(B:es.toList.map (·.key)=vs)(x:vs.length < 64)(G:∀ a g,(∀ b o,s.heap.get? b=some o->a.get? b=some o)->2<=vs.length->∀ (Q:SortKind->sH7->Prop),Q κ { s with heap:=a,toks:=g }->wpAny (model prog w) A.in1.in1 (keyKind' vs.toArray) Q (λ_ _=>False) { s with heap:=a,toks:=g })(J:∀ a g,(∀ b o,s.heap.get? b=some o->a.get? b=some o)->∀ i j C,i < vs.length->j < vs.length->C (f i j) { s with heap:=a,toks:=g }->kas_ask prog w A.in1.in1 κ vs i j C { s with heap:=a,toks:=g })(h:∀ (r a:Heap) (g c:Nat),(∀ b o,s.heap.get? b=some o->r.get? b=some o)->(∀ b o,r.get? b=some o->a.get? b=some o)->a.get? r.objs.size=some (seqObj "list" (pick f Value.none vs).toArray c)->Q (.ref r.objs.size) { s with heap:=a,toks:=g }) :
  wpAny (model prog w) A (call (.builtin "sorted") [.ref d]) Q E s:=by
 refine Calls.call_function_entry kind_sorted plain_sorted entry_sorted (args_sorted1 _) ?_;unfold Builtin.«sorted»
 refine aA (m:=checkCount "sorted" 1 1 _) (aE ?_);have t:es.size=vs.length:=by rw[<-B,aB,cI]
 refine aA (kdu_collect (A:=A.in1) (ZbV (es:=es) (ep:=ep) hd) H F (by rw[t,sizeLine_eq];omega) λa g q p n=>?_)
 have M:q.toList=vs:=by
  rw[<-B];apply List.ext_getElem?
  intro i;rw[eE,aV,eE];cases e:q[i]? with
  |none=>
   have:q.size<=i:=Array.getElem?_eq_none_iff.mp e;rw[n.1]at this;rw[Array.getElem?_eq_none this];rfl
  |some v=>
   obtain⟨O,N,rfl⟩:=n.2 i v e;rw[N];rfl
 rw[M];refine aA (wpAny_newList ?_ (by rw[sizeLine_eq];omega))
 have u:(a.push { cls:=.type "list",data:=.seq vs.toArray }).get? a.objs.size=some (seqObj "list" vs.toArray 0):=aX _ rfl;have z:∀ (l:Heap),(∀ b o,b≠a.objs.size->(a.push { cls:=.type "list",data:=.seq vs.toArray }).get? b=some o->l.get? b=some o)->∀ b o,s.heap.get? b=some o->l.get? b=some o:=λl k b o e=>
  k b o (aY (aJ (p b o e))) (aK _ (p b o e))
 refine aA (wpAny_holding (wpAny_call_entry slot_list_sort ⟨_,u,rfl⟩ entry_list_sort ?_ (args_list_sort _)));refine ZdE (s:={ s with heap:=a.push { cls:=.type "list",data:=.seq vs.toArray },toks:=g }) (κ:=κ) (f:=f) u x (λl k D Q K=>G l g (z l k) D Q K) (λl k i j C r y L=>J l g (z l k) i j C r y L) ?_
 refine⟨_,rfl,aE ⟨_,rfl,?_⟩⟩;obtain⟨c,I⟩:=sortedHeap_at (out:=(pick f Value.none vs).toArray) u;refine h a _ g c p (λb o e=>?_) I
 rw[sortedHeap_old (aY (aJ e)) (by rw[size_push'];exact Nat.lt_succ_of_lt (aJ e))]
 exact aK _ e
end
def Y7(h:Heap)(p:Int×Int)(v:vL):Prop:=∃ a o n t u,v=.ref a/\h.get? a=some o/\o.cls=.type "tuple"/\o.data=.seq #[.int p.1 t,.int p.2 u] n
omit [ClsTab] in
theorem Zda{h:Heap}{i j:Int}{a:Ad}(x:(tupleKind (mixKind prog w)).is h [.inl i,.inl j] a):Y7 h (i,j) (.ref a):=by
 obtain⟨o,c,n,p,m,g,f⟩:=(show IsTupleKey (mixKind prog w) h [.inl i,.inl j] a from x);have b:∀ {k:Int}{v:vL},(mixKind prog w).is (.inl k) v=true->∃ t,v=.int k t:=λ{k v} z=>by
  rcases keyIs_shape (show keyIs (.inl k) v=true from z) with⟨i,t,e,rfl⟩|⟨x,t,e,_⟩
  ·cases e;exact⟨t,rfl⟩
  ·exact nomatch e
 obtain⟨l,d⟩:∃ l,c.toList=l:=⟨_,rfl⟩;rw[d]at f;cases f with
 |cons s r=>cases r with
  |cons q r=>
   cases r;obtain⟨t,rfl⟩:=b s;obtain⟨u,rfl⟩:=b q;refine⟨a,o,n,t,u,rfl,p,m,?_⟩;rw[g,<-d]
omit [ClsTab] in
theorem J3{p q:Int×Int}{v u:vL}{C:Bool->sH7->Prop}(f:Y7 s.heap p v)(d:Y7 s.heap q u)(h:C (kLt p q) s):wpAny (model prog w) A (keyLt' (tuples' true) v u) C E s:=by
 obtain⟨a,o,n,t,k,rfl,i,y,g⟩:=f;obtain⟨b,x,m,r,l,rfl,g1,g2,j⟩:=d;refine kat_lt i g g1 j ?_;unfold kLt at h;refine kat_cons (wpAny_eqBool_int ?_);by_cases e:p.1=q.1
 ·rw[if_pos e]at h
  rw[show(p.1==q.1)=true from beq_iff_eq.mpr e];refine kat_yes (kat_cons (wpAny_eqBool_int ?_));by_cases c:p.2=q.2
  ·rw[show(p.2==q.2)=true from beq_iff_eq.mpr c]
   refine kat_yes (kat_nil ?_);rw[show decide (p.2 < q.2)=false from aH (by omega)]at h
   exact h
  ·rw[show(p.2==q.2)=false from cN.mpr c]
   exact kat_no (kat_one _ _ (wpAny_lt_int h))
 ·rw[if_neg e]at h
  rw[show(p.1==q.1)=false from cN.mpr e];exact kat_no (oneLt_int h)
omit [ClsTab] in
theorem UI{vs:Li vL}{Q:SortKind->sH7->Prop}(b:∀ v∈vs,∃ p,Y7 s.heap p v)(f:2<=vs.length)(h:Q (tuples' true) s):wpAny (model prog w) A (keyKind' vs.toArray) Q E s:=by
 have all:∀ {l:Li vL},(∀ v∈l,∃ p,Y7 s.heap p v)->∃ fs,KatTups s.heap l fs/\fs.length=l.length/\∀ v∈fs,∃ i t,v=Value.int i t:=by
  intro l
  induction l with
  |nil=>intro _;exact⟨[],.nil,rfl,λ_ z=>nomatch z⟩
  |cons v l j=>
   intro e;obtain⟨fs,d,g,c⟩:=j λv b=>e v (lM7 _ b)
   obtain⟨p,a,o,n,t,u,rfl,m,f,k⟩:=e v lQ7;refine⟨.int p.1 t :: fs,.cons m f k rfl d,by rw[aQ,aQ,g],λx hx=>?_⟩
   rcases aF.mp hx with rfl|hx
   ·exact⟨_,_,rfl⟩
   ·exact c x hx
 obtain⟨fs,d,g,c⟩:=all b;refine kat_kind (T:=.type "int") d (by omega) (λv b=>?_) (by decide) h
 obtain⟨i,t,rfl⟩:=c v b;exact Looks.now
section
variable{K:fG7}{ad:Li Ad}{H:Hp}
theorem Zc0{kvs:Li (Li Key×V)}{ds:Li D}{ys:Li (Li Key×Ad×vL)}(e:Ents K ad H kvs ds)(r:KTp H kvs ys):Dens K ad H (ys.map λy=>V.ref y.2.1) ((ZP ds).map prD)/\∀ (i:Nat) (y:Li Key×Ad×vL),ys[i]?=some y->y.1=[.inl ((ZP ds).getD i (0,0)).1,.inl ((ZP ds).getD i (0,0)).2]:=by
 induction e generalizing ys with
 |nil=>cases r;exact⟨.nil,λi y h=>nomatch h⟩
 |cons _ _ c=>cases r with
  |cons h r=>
   obtain⟨a,b⟩:=c r;refine⟨.cons (.tup (.inl h.2.1) (.cons (.int _) (.cons (.int _) .nil))) a,λi y e=>?_⟩
   cases i with
   |zero=>cases e;exact h.1.symm
   |succ i=>exact b i y e
theorem WK{vs:Li V}{ds:Li D}(r:Dens K ad H vs ds):∀ (l:Li Nat),(∀ i∈l,i < ds.length)->Dens K ad H (l.map λi=>vs.getD i .non) (l.map λi=>ds.getD i .non)
 |[],_=>.nil
 |i :: l,h=>by
  refine .cons ?_ (WK r l λj d=>h j (lM7 _ d))
  have a:=h i lQ7;obtain⟨v,f,e⟩:=r.get (lG7 a);have c:vs.getD i .non=v:=by rw[bB,f];rfl
  have b:ds.getD i .non=ds[i]:=by rw[bB,lG7 a];rfl
  show Den K ad H (vs.getD i .non) (ds.getD i .non);rw[c,b];exact e
omit [ClsTab] in
theorem WX{vs:Li V}{a:Li vL}(r:Vals vs a):∀ (l:Li Nat),(∀ i∈l,i < vs.length)->Vals (l.map λi=>vs.getD i .non) (l.map λi=>a.getD i .none)
 |[],_=>.nil
 |i :: l,h=>by
  refine .cons ?_ (WX r l λj e=>h j (lM7 _ e))
  have b:=h i lQ7;obtain⟨u,g,f⟩:=r.get (lG7 b);have d:a.getD i .none=u:=by rw[bB,g];rfl
  have c:vs.getD i .non=vs[i]:=by rw[bB,lG7 b];rfl
  show L2.RelV (vs.getD i .non) (a.getD i .none);rw[d,c];exact f
omit [ClsTab] in
theorem Vn{n:Nat}{f:Nat->Nat->Bool}(a:0 < n):∀ i∈(goT f (kas_sort n)).toList,i < n:=λi b=>by
 have m:=(Array.Perm.mem_iff ((Vv a).go (f:=f))).mp (Array.mem_toList_iff.mp b);simpa using m
omit [ClsTab] in
theorem Ua{α:Type}{f:Nat->Nat->Bool}{z:α}{a:Li α}:(pick f z a).length=a.length:=by
 unfold pick;split
 ·rfl
 ·rw[aB,cI,((Vv (by omega)).go (f:=f)).size_eq,aG,bR]
end
omit [ClsTab] in
theorem Ws:∀ {ys:Li (Li Key×Ad×vL)},Vals (ys.map λy=>V.ref y.2.1) (ys.map λy=>Value.ref y.2.1)
 |[]=>.nil
 |_ :: _=>.cons rfl Ws
theorem Ux{X:Cx}(hc:X.calm=true):CallR X (.builtin "sorted") (rC X.K (on1 QB)):=by
 intro pQ s O H xs us Q I r h;obtain⟨ad,st,ds,d,st',S,hd,e,p⟩:=h;obtain⟨x,rfl,A⟩:=Yb e;obtain⟨v,rfl,M⟩:=X9 hd;unfold QB at A;split at A
 ·rename_i a
  split at A
  ·rename_i b m q0
   split at A
   ·rename_i hz
    cases A;obtain⟨l,rfl,hl,n⟩:=M.ofDic;obtain⟨kvs,U,hx,_⟩:=S.dict hl n q0;obtain⟨u1,rfl,r1⟩:=r.one;cases r1;obtain⟨_,F,ys,J,o,es,ep,h1,T,h3,h4,R,_⟩:=dt_of I.hok hx;obtain⟨L,kk⟩:=Zc0 U J;have G:ys.length=(ZP m).length:=by have:=L.length;rwa [aB,aB]at this
    have hl0:(ZP m).length=m.length:=by unfold ZP;rw[aB]
    have N:∀ (q:Heap),(∀ b o,s.heap.get? b=some o->q.get? b=some o)->∀ (i:Nat),i < ys.length->Y7 q ((ZP m).getD i (0,0)) ((ys.map λy=>Value.ref y.2.1).getD i .none):=λq k i B=>by
     have z:(ys.map λy=>Value.ref y.2.1).getD i .none=.ref ys[i].2.1:=by rw[bB,aV,lG7 B];rfl
     have w:=R ys[i] (cM B);rw[kk i _ (lG7 B)]at w;obtain⟨a,o,n,t,u,A,e2,e3,e4⟩:=Zda w;rw[z];exact⟨a,o,n,t,u,A,k _ _ e2,e3,e4⟩
    have hm:∀ (q:Heap),(∀ b o,s.heap.get? b=some o->q.get? b=some o)->∀ v∈(ys.map λy=>Value.ref y.2.1),∃ p,Y7 q p v:=λq k v M=>by
     obtain⟨i,B,rfl⟩:=List.mem_iff_getElem.mp M;have P:i < ys.length:=by rwa [aB]at B
     have Z:(ys.map λy=>Value.ref y.2.1).getD i .none=(ys.map λy=>Value.ref y.2.1)[i]:=by rw[bB,lG7 B];rfl
     rw[<-Z];exact⟨_,N q k i P⟩
    refine U1 (vs:=ys.map λy=>Value.ref y.2.1) (κ:=tuples' true) (f:=W3 (ZP m)) (I.ok.hd hc) F ⟨o,h1,T,h3⟩ (by rw[h4,bN];rfl) (by rw[aB];omega)
     (λq E k T Q hQ=>UI (s:={ s with heap:=q,toks:=E }) (hm q k) T hQ)
     (λq E k i j C B hj hC=>J3 (s:={ s with heap:=q,toks:=E }) (N q k i (by rwa [aB]at B)) (N q k j (by rwa [aB]at hj)) hC)
     λg g' E c k k' hg=>?_
    have Y:L2.Inv X pQ O H { s with heap:=g,toks:=E }:=I.kept (t':=E) k
    have W:=Y.hok.fresh (aD _);have hV:Vals (pick (W3 (ZP m)) V.non (ys.map λy=>V.ref y.2.1)) (pick (W3 (ZP m)) Value.none (ys.map λy=>Value.ref y.2.1)):=by
     unfold pick;rw[aB,aB];split
     ·exact Ws
     ·exact WX Ws _ (by rw[aB];exact Vn (by omega))
    have hD:Dens X.K ad H (pick (W3 (ZP m)) V.non (ys.map λy=>V.ref y.2.1)) (pick (W3 (ZP m)) D.non ((ZP m).map prD)):=by
     unfold pick;rw[aB,aB,G];split
     ·exact L
     ·exact WK L _ (by rw[aB];exact Vn (by omega))
    refine⟨.ref g.objs.size,upd H g.objs.size (.lst (pick (W3 (ZP m)) V.non (ys.map λy=>V.ref y.2.1))),Y.laid (t':=E) k' (aD _) (show ObjOk X.prog X.w _ _ _ (.lst _) from⟨?_,_,c,hV,hg⟩),rfl,p _ (ad++[_]) _ (Ext.push W) (S.push W hD) (.newL ?_)⟩
    ·rw[Ua,aB,sizeLine_eq];omega
    ·rw[<-S.len];exact Zs
   ·exact Zb A
  ·exact Zb A
 ·exact Zb A
end Dp
namespace Dp
open PySem PySem.Spec PyProof.Rows L2
variable [ClsTab]
variable{A:Around}
section
open PySem.SeqAt PySem.MeetsSeq PySem.MeetsSeq2 PySem.MeetsSeq3 PySem.SeqRoads2
open AutoSeq1 (wpAny_loadPart')
def LtAt(A:Around)(s:sH7)(y x:vL)(b:Bool):Prop:=
 ∀ (prog:Program) (w:World) (E:vL->sH7->Prop) (Q:vL->sH7->Prop),Q (.bool b) s->wpAny (model prog w) A (richCompare .Lt y x) Q E s
noncomputable def ltR(e lt:Nat->Bool)(f:Bool):Li Nat->Bool
 |[]=>f
 |j :: r=>if e j=true then ltR e lt f r else lt j
theorem U7(l b:Ad)(items items2:Array vL)(n n2:Nat)(dd dd2:Ot Ad)(sl sl2:Array (Ot vL))(e lt:Nat->Bool) :
  Meets (Builtin.«tuple.__lt__» ⟨[.ref l,.ref b],[]⟩)
   (λA R s=>s.heap.get? l=some { cls:=.type "tuple",dict:=dd,data:=.seq items n,slots:=sl }/\s.heap.get? b=some { cls:=.type "tuple",dict:=dd2,data:=.seq items2 n2,slots:=sl2 } /\
    (∀ j (h1:j < items.size) (h2:j < items2.size),EqAt A.in1 s items[j] items2[j] (e j))/\(∀ j (h1:j < items.size) (h2:j < items2.size),(∀ i,i < j->e i=true)->e j=false->LtAt A.in1 s items[j] items2[j] (lt j)) /\
    R (.ok (.ret (.bool (ltR e lt (decide (items.size < items2.size)) (List.range (min items.size items2.size)))))) s):=
 .of_wp λprog w A R s h=>by
  obtain⟨hp,g,d,tk,os⟩:=s;obtain⟨hl,hb,he,hq,h⟩:=h;have f2:=AutoSeq1.sub_tuple_tuple;have hZ:(items.toList.zip items2.toList).length=min items.size items2.size:=by simp
  wp_walk using wpAny_loadPart' hl,wpAny_loadPart' hb,wpAny_forIn_list _ (λrest b s'=>b.1=none/\s'=⟨hp,g,d,tk,os⟩/\∃ i,rest=(items.toList.zip items2.toList).drop i/\(∀ k,k < i->e k=true) /\
   R (.ok (.ret (.bool (ltR e lt (decide (items.size < items2.size)) ((List.range (min items.size items2.size)).drop i))))) ⟨hp,g,d,tk,os⟩) _
  case turn=>
   rintro⟨y,x⟩ rest b s' ⟨hb',rfl,i,hz,hk,hR⟩
   have hlt:i < (items.toList.zip items2.toList).length:=by
    rcases Nat.lt_or_ge i (items.toList.zip items2.toList).length with h'|h'
    ·exact h'
    ·rw[dJ h']at hz;cases hz
   have hm:i < min items.size items2.size:=hZ ▸ hlt;have h1:i < items.size:=aT hm (Nat.min_le_left _ _);have h2:i < items2.size:=aT hm (Nat.min_le_right _ _);rw[bQ hlt]at hz
   injection hz with hyx hrest
   have hy:y=items[i]:=by have:=congrArg Prod.fst hyx;simpa using this
   have hx:x=items2[i]:=by have:=congrArg Prod.snd hyx;simpa using this
   subst hy hx;have hd:(List.range (min items.size items2.size)).drop i=i :: (List.range (min items.size items2.size)).drop (i+1):=by simp[bQ,hm]
   rw[hd]at hR;have hR:R (.ok (.ret (.bool (if e i=true then ltR e lt (decide (items.size < items2.size)) ((List.range (min items.size items2.size)).drop (i+1)) else lt i)))) ⟨hp,g,d,tk,os⟩:=hR
   refine aA (he i h1 h2 prog w _ _ ?_);cases hy:e i with
   |true=>
    rw[hy]at hR
    wp_walk
    refine⟨rfl,rfl,i+1,hrest,λk hk'=>?_,by simpa using hR⟩
    rcases Nat.lt_or_ge k i with h|h
    ·exact hk k h
    ·rw[show k=i by omega];exact hy
   |false=>
    rw[hy]at hR;have hz:∀ (E:vL->sH7->Prop) (Q:vL->sH7->Prop),Q (.bool (lt i)) ⟨hp,g,d,tk,os⟩->wpAny (model prog w) A.in1 (richCompare .Lt items[i] items2[i]) Q E ⟨hp,g,d,tk,os⟩:=λE Q=>hq i h1 h2 hk hy prog w E Q
    generalize richCompare .Lt items[i] items2[i]=rc at hz ⊢
    wp_walk using hz _ _
    exact⟨_,rfl,by simpa using hR⟩
  case fin=>
   rintro⟨b1,b2⟩ s' ⟨hb',rfl,i,hz,_,hR⟩
   simp only at hb';subst hb';have hge:min items.size items2.size<=i:=by
    rcases Nat.lt_or_ge i (items.toList.zip items2.toList).length with h'|h'
    ·rw[bQ h']at hz;cases hz
    ·exact hZ ▸ h'
   rw[dJ (by simpa using hge)]at hR
   wp_walk
   exact⟨_,rfl,by simpa[Builtin.Tuple.tupleCompareSizes,ltR] using hR⟩
  case h=>
   exact⟨rfl,rfl,0,rfl,λk hk=>absurd hk (by omega),by simpa using h⟩
theorem LtAt.tuples{s:sH7}{l b:Ad}{c a:Array vL}{e lt:Nat->Bool}(B:s.heap.IsTuple l c)(D:s.heap.IsTuple b a)(hu:A.units < cLine)(C:∀ j (H:j < c.size) (G:j < a.size),EqAt A.in1 s c[j] a[j] (e j))(z:∀ j (H:j < c.size) (G:j < a.size),(∀ i,i < j->e i=true)->e j=false->LtAt A.in1 s c[j] a[j] (lt j)):LtAt A s (.ref l) (.ref b) (ltR e lt (decide (c.size < a.size)) (List.range (min c.size a.size))):=λp w E Q h=>by
 obtain⟨⟨cls,dd,u,sl⟩,q,t,n,r⟩:=id B;obtain⟨⟨v,m,o,k⟩,d,g,y,f⟩:=id D;simp only at t r g f;subst t r g f;exact richCompare_meets_room (op:=.Lt) ⟨_,q,rfl⟩ ⟨_,d,rfl⟩ F.slot_tuple_lt F.entry_tuple_lt (F.args_tuple_lt_2 _ _) (U7 l b c a n y dd m sl k e lt)
  ⟨q,d,C,z,show Value.bool (ltR e lt (decide (c.size < a.size)) (List.range (min c.size a.size)))≠Value.notImplemented/\Q (.bool (ltR e lt (decide (c.size < a.size)) (List.range (min c.size a.size)))) s from⟨(λx=>nomatch x),h⟩⟩ hu
end
noncomputable def eF(ds es:Li D)(i:Nat):Bool:=Zk ((ds[i]?).getD .non) ((es[i]?).getD .non)
noncomputable def lF(ds es:Li D)(i:Nat):Bool:=match ds[i]?,es[i]? with
 |some (.int a),some (.int b)=>decide (a < b)
 |some (.str a),some (.str b)=>decide (a.cps.toList < b.cps.toList)
 |_,_=>false
theorem QH{e lt:Nat->Bool}{f:Bool}:∀ {l:Li Nat},ltR e lt f (l.map Nat.succ)=ltR (λi=>e (i+1)) (λi=>lt (i+1)) f l
 |[]=>rfl
 |i :: l=>by
  show(if e (i+1)=true then ltR e lt f (l.map Nat.succ) else lt (i+1))=_
  rw[QH];rfl
theorem Zba:∀ {ds es:Li D}{k:Bool},Vl ds es=some k->ltR (eF ds es) (lF ds es) (decide (ds.length < es.length)) (List.range (min ds.length es.length))=k
 |[],[],k,h=>by cases h;rfl
 |[],y :: ys,k,h=>by
  have h:some (decide (0 < ys.length+1))=some k:=h;cases h;simp[ltR]
 |x :: a,[],k,h=>by cases h;simp[ltR]
 |x :: a,y :: ys,k,h=>by
  have e:min (x :: a).length (y :: ys).length=min a.length ys.length+1:=by simp only[aQ];omega
  rw[e,List.range_succ_eq_map];show(if Zk x y=true then ltR (eF (x :: a) (y :: ys)) (lF (x :: a) (y :: ys)) _ ((List.range (min a.length ys.length)).map Nat.succ) else lF (x :: a) (y :: ys) 0)=k
  unfold Vl at h;by_cases c:Zk x y=true
  ·rw[if_pos c]at h ⊢
   rw[QH,show decide ((x :: a).length < (y :: ys).length)=decide (a.length < ys.length) by simp]
   exact Zba h
  ·rw[if_neg c]at h ⊢
   split at h
   ·cases h;rfl
   ·cases h;rfl
   ·exact Zb h
theorem QI:∀ {ds es:Li D}{k:Bool}{j:Nat},Vl ds es=some k->j < ds.length->j < es.length->(∀ i,i < j->eF ds es i=true)->eF ds es j=false->(∃ a b,ds[j]?=some (.int a)/\es[j]?=some (.int b))\/(∃ a b,ds[j]?=some (.str a)/\es[j]?=some (.str b))
 |[],_,_,_,_,f,_,_,_=>absurd f (by simp)
 |_ :: _,[],_,_,_,_,d,_,_=>absurd d (by simp)
 |x :: l,y :: ys,k,0,h,_,_,_,e=>by
  have e:Zk x y=false:=e;unfold Vl at h;rw[if_neg (by rw[e];simp)]at h
  split at h
  ·exact .inl ⟨_,_,rfl,rfl⟩
  ·exact .inr ⟨_,_,rfl,rfl⟩
  ·exact Zb h
 |x :: l,y :: ys,k,j+1,h,f,d,g,e=>by
  have c:Zk x y=true:=g 0 (by omega)
  unfold Vl at h;rw[if_pos c]at h;exact QI (j:=j) h (by simpa using f) (by simpa using d) (λi m=>g (i+1) (by omega)) e
variable{X:Cx}{H:Hp}{ad:Li Ad}{ys:Li V}{ds es:Li D}{k:Bool}
open PySem.SeqAt in
theorem Zc2{s:sH7}{f:Li V}{a b:Li vL}(r:Dens X.K ad H f ds)(x:Dens X.K ad H ys es)(rv:Vals f a)(e:Vals ys b)(h:Vl ds es=some k) :
  ∀ j (l:j < a.toArray.size) (y:j < b.toArray.size),(∀ i,i < j->eF ds es i=true)->eF ds es j=false->LtAt A s a.toArray[j] b.toArray[j] (lF ds es j):=λj l y M N=>by
 have R:a.toArray.size=ds.length:=by rw[aG,<-rv.length,r.length]
 have P:b.toArray.size=es.length:=by rw[aG,<-e.length,x.length]
 have get:∀ {f:Li V}{ds:Li D}{a:Li vL}{d:D} (l:j < a.toArray.size),Dens X.K ad H f ds->Vals f a->ds[j]?=some d->∃ v,Den X.K ad H v d/\RelV v a.toArray[j]:=λ{f ds a d} l r rv g=>by
  obtain⟨v,J,o⟩:=r.get g;obtain⟨u,B,m⟩:=rv.get J;have O:a.toArray[j]=u:=by
   have:a[j]?=some (a[j]'(by simpa using l)):=lG7 _
   rw[B]at this;simpa using(Option.some.inj this).symm
  exact⟨v,o,by rw[O];exact m⟩
 rcases QI h (by omega) (by omega) M N with⟨i,L,g1,g2⟩|⟨i,L,g1,g2⟩
 ·obtain⟨F,o,m⟩:=get l r rv g1
  obtain⟨C,z,t⟩:=get y x e g2;cases o;cases z
  obtain⟨I,q⟩:=m;obtain⟨G,p⟩:=t;rw[q,p];intro n w E Q c;have c:Q (.bool (lF ds es j)) s:=c;unfold lF at c;rw[g1,g2]at c;exact lt_int c
 ·obtain⟨F,o,m⟩:=get l r rv g1
  obtain⟨C,z,t⟩:=get y x e g2;cases o;cases z
  obtain⟨I,q⟩:=m;obtain⟨G,p⟩:=t;rw[q,p];intro n w E Q c;have c:Q (.bool (lF ds es j)) s:=c;unfold lF at c;rw[g1,g2]at c;exact lt_str c
variable{pQ:Li (Ad×Obj)}{O:L2.St}{n:Nat}
open PySem.SeqAt in
theorem Zc3{s:sH7}(I:Inv X pQ O H s){a b:Ad}{i:Li V}(o:ZS n ds=true)(m:ZS n es=true)(hu:A.units+n+1 < cLine)(e:TupAt X.K H a i)(r:Dens X.K ad H i ds)(x:TupAt X.K H b ys)(f:Dens X.K ad H ys es)(h:Vl ds es=some k):LtAt A s (.ref a) (.ref b) k:=by
 obtain⟨g,rv,p,_⟩:=I.tuple (e.sq);obtain⟨d,c,l,_⟩:=I.tuple (x.sq);have w:g.toArray.size=ds.length:=by rw[aG,<-rv.length,r.length]
 have v:d.toArray.size=es.length:=by rw[aG,<-c.length,f.length]
 have q:=LtAt.tuples (A:=A) (s:=s) (e:=eF ds es) (lt:=lF ds es) p l (by omega) (λj u t=>Vf (a:=a) (b:=b) I o m hu r f rv c j u t) (Zc2 r f rv c h)
 rw[w,v,Zba h]at q;exact q
variable{dx dy:D}{u:vL}{Q:VK}{st:Za}{op:CmpOp}
variable{X:Cx}
section
theorem ZaQ{ad:Li Ad}{H:Hp}{k:Int}:∀ {xs:Li V}{ds:Li D}{b:Bool},Dens X.K ad H xs ds->Xc k ds=some b->xs.all flatV=true/\inV (.int k) xs=b
 |_,_,_,.nil,e=>by cases e;exact⟨rfl,rfl⟩
 |_,_,b,.cons (d:=d) h r,e=>by
  cases d with
  |int i=>
   cases h;unfold Xc at e;cases q:Xc k _ with
   |none=>rw[q]at e;cases e
   |some b'=>
    rw[q]at e;cases e;obtain⟨c,a⟩:=ZaQ r q;refine⟨by rw[bC,c];rfl,?_⟩
    show((i==k)||inV (.int k) _)=(decide (i=k)||b');rw[a];rfl
  |_=>simp[Xc]at e
theorem UF{ad:Li Ad}{H:Hp}{k:Str}:∀ {xs:Li V}{ds:Li D}{b:Bool},Dens X.K ad H xs ds->Yy k ds=some b->xs.all flatV=true/\inV (.str k) xs=b
 |_,_,_,.nil,e=>by cases e;exact⟨rfl,rfl⟩
 |_,_,b,.cons (d:=d) h r,e=>by
  cases d with
  |str i=>
   cases h;unfold Yy at e;cases q:Yy k _ with
   |none=>rw[q]at e;cases e
   |some b'=>
    rw[q]at e;cases e;obtain⟨c,a⟩:=UF r q;refine⟨by rw[bC,c];rfl,?_⟩
    show((i==k)||inV (.str k) _)=(decide (i=k)||b');rw[a]
    congr 1
  |_=>simp[Yy]at e
def CW(X:Cx)(pQ:Li (Ad×Obj))(O:L2.St)(Q:VK)(s:sH7)(op:CmpOp)(v u:vL):Prop:=wpAny (model X.prog X.w) X.A (compareOp op v u) (EP X pQ O Q) X.xe s
def CW2(X:Cx)(pQ:Li (Ad×Obj))(O:L2.St)(Q:VK)(s:sH7)(H:Hp)(op a:CmpOp)(v u:vL)(k:Bool):Prop:=(Q (.bl k) H->CW X pQ O Q s op v u)/\(Q (.bl (!k)) H->CW X pQ O Q s a v u)
noncomputable def vSc:Sc->V
 |.non=>.non
 |.bl b=>.bl b
 |.int i=>.int i
 |.str x=>.str x
theorem Den.vSc{K:fG7}{ad:Li Ad}{H:Hp}{x:V}{d:D}{a:Sc}(h:Den K ad H x d)(e:scD d=some a):x=vSc a:=by
 cases h<;>cases e<;>rfl
theorem ZcE{a b:Sc}(h:ZgC a b=some k):scal (vSc a) (vSc b)=true/\decide (vSc a=vSc b)=k:=by
 cases a<;>cases b<;>first
  | (cases h;done)
  | (cases h;exact⟨rfl,rfl⟩)
  | (cases h;exact⟨rfl,dec_bl⟩)
  | (cases h;exact⟨rfl,by simp[vSc]⟩)
inductive EqD(x y:V):D->D->Bool->Prop
 |sc {dx dy:D}{k:Bool} (h3:scal x y=true) (h4:decide (x=y)=k):EqD x y dx dy k
 |tup {xs ys:List D} (h:(okD 8 (.tup xs)&&okD 8 (.tup ys))=true):EqD x y (.tup xs) (.tup ys) (Zr xs ys)
theorem ZcD{K:fG7}{x y:V}(i:Den K ad H x dx)(g:Den K ad H y dy)(e:eqD dx dy=some k):EqD x y dx dy k:=by
 unfold eqD at e;split at e
 ·unfold eqT at e
  split at e
  ·split at e
   ·rename_i c
    cases e;exact .tup c
   ·exact Zb e
  ·exact Zb e
 ·refine j_e e λe=>ZO (P:=λo=>o=some k->EqD x y dx dy k) e (λa b l j h=>?_) rfl
  obtain⟨f,d⟩:=ZcE h;rw[<-i.vSc l,<-g.vSc j]at f d;exact .sc f d
theorem ZgE(hu:X.A.units+64 < cLine){s:sH7}{x y:V}{v:vL}(I:Inv X pQ O H s)(f:RelV x v)(d:RelV y u)(S:StOk X.K ad H st)(h:Den X.K ad H x dx)(g:Den X.K ad H y dy)(e:eqD dx dy=some k):CW2 X pQ O Q s H .Eq .NotEq v u k:=by
 cases ZcD h g e with
 |sc i p=>
  subst p;exact⟨λq=>op_eq pQ s O H x y v u Q I f d ⟨i,q⟩,λq=>op_ne pQ s O H x y v u Q I f d ⟨i,q⟩⟩
 |tup c=>
  rw[bA7]at c;obtain⟨a,r,rfl,o,l⟩:=h.ofTup;obtain⟨b,ys,rfl,m,j⟩:=g.ofTup;cases f;cases d
  obtain⟨g1,g2⟩:=Zde (ad:=ad) (A:=X.A) I (n:=7) c.1 c.2 (by omega) o l m j
  exact⟨λq=>g1 X.prog X.w X.xe _ ⟨.bl _,H,I,rfl,q⟩,λq=>g2 X.prog X.w X.xe _ ⟨.bl _,H,I,rfl,q⟩⟩
open PySem.SeqAt in
theorem Zdd{s:sH7}(I:Inv X pQ O H s){a b:Ad}{m:Li V}{d c:Li vL}(w:ZS n ds=true)(v:ZS n es=true)(hu:A.units+n+1 < cLine)(r:Dens X.K ad H m ds)(o:Dens X.K ad H ys es)(rv:Vals m d)(f:Vals ys c)(p:s.heap.IsList a d.toArray)(h:s.heap.IsList b c.toArray):RcAt A s (.ref a) (.ref b) (Zr ds es)/\RcNeAt A s (.ref a) (.ref b) (!Zr ds es):=by
 have l:d.toArray.size=ds.length:=by rw[aG,<-rv.length,r.length]
 have u:c.toArray.size=es.length:=by rw[aG,<-f.length,o.length]
 by_cases k:ds.length=es.length
 ·have t:=λj y x=>Vf (a:=a) (b:=b) I w v hu r o rv f j y x
  have q:=RcAt.lists (A:=A) (s:=s) (e:=λi=>Zk ((ds[i]?).getD .non) ((es[i]?).getD .non)) p h (by omega) (by omega) t
  have g:=RcNeAt.lists (A:=A) (s:=s) (e:=λi=>Zk ((ds[i]?).getD .non) ((es[i]?).getD .non)) p h (by omega) (by omega) t
  rw[l]at q g;rw[Yo,show min ds.length es.length=ds.length by omega,show(ds.length==es.length)=true by simpa using k,dL]
  exact⟨q,g⟩
 ·have q:=RcAt.lists_lengths (A:=A) (s:=s) p h (by rw[l,u];simpa using k) (by omega)
  have g:=RcNeAt.lists_lengths (A:=A) (s:=s) p h (by rw[l,u];simpa using k) (by omega)
  rw[Yo,show(ds.length==es.length)=false by simpa using k,Bool.and_false]
  exact⟨q,g⟩
open PySem.SeqAt in
theorem ZhG(hu:X.A.units+64 < cLine){s:sH7}{x y:V}{v:vL}(I:Inv X pQ O H s)(b:RelV x v)(a:RelV y u)(S:StOk X.K ad H st)(d:Den X.K ad H x (.tup ds))(c:Den X.K ad H y (.tup es))(e:QR st ds es=some k):CW2 X pQ O Q s H .Eq .NotEq v u k:=by cases e
theorem ZgF(hu:X.A.units+64 < cLine){s:sH7}{x y:V}{v:vL}(I:Inv X pQ O H s)(r:RelV x v)(p:RelV y u)(S:StOk X.K ad H st)(M:Den X.K ad H x dx)(L:Den X.K ad H y dy)(e:eqS st dx dy=some k):CW2 X pQ O Q s H .Eq .NotEq v u k:=by
 have sc:scal x y=true->(decide (x=y))=k->CW2 X pQ O Q s H .Eq .NotEq v u k:=λC h2=>by
  subst h2;exact⟨λq=>op_eq pQ s O H x y v u Q I r p ⟨C,q⟩,λq=>op_ne pQ s O H x y v u Q I r p ⟨C,q⟩⟩
 unfold eqS at e;split at e
 ·unfold ZgB at e
  split at e
  case h_2=>exact Zb e
  obtain⟨a,rfl,ha⟩:=M.ofLst;obtain⟨b,rfl,hb⟩:=L.ofLst;cases r;cases p
  have two:∀ {ba bb:Bool}{i ys:Li D},st[_]?=some (ba,i)->st[_]?=some (bb,ys)->(i=[]\/ys=[])->(i.isEmpty&&ys.isEmpty)=k->CW2 X pQ O Q s H .Eq .NotEq (.ref a) (.ref b) k:=λ{ba bb i ys} J G E hk=>by
   obtain⟨vs,T,s1⟩:=S.list ha J;obtain⟨ws,R,N⟩:=S.list hb G;obtain⟨h,rv,B,_⟩:=I.list s1;obtain⟨g,l,t,_⟩:=I.list N;have Z:h.toArray.size=i.length:=by rw[aG,<-rv.length,T.length]
   have Y:g.toArray.size=ys.length:=by rw[aG,<-l.length,R.length]
   by_cases n:i.length=ys.length
   ·have W:i=[]:=by
     rcases E with z|z
     ·exact z
     ·rw[z]at n;exact dY.mp n
    have z2:ys=[]:=by rw[W]at n;exact dY.mp n.symm
    subst W z2;cases hk;have f:h=[]:=dY.mp (by simpa using Z)
    have f':g=[]:=dY.mp (by simpa using Y)
    subst f f';refine⟨λq=>SeqAt.RcAt.lists (e:=λ_=>true) B.isList t.isList rfl (by omega) (λj C _=>absurd C (by simp)) X.prog X.w X.xe _ ⟨.bl true,H,I,rfl,q⟩,λq=>SeqAt.RcNeAt.lists (e:=λ_=>true) B.isList t.isList rfl (by omega) (λj C _=>absurd C (by simp)) X.prog X.w X.xe _ ⟨.bl false,H,I,rfl,q⟩⟩
   ·have U:k=false:=by
     rw[<-hk];rcases E with z|z
     ·subst z
      cases ys with
      |nil=>exact absurd rfl n
      |cons _ _=>rfl
     ·subst z
      cases i with
      |nil=>exact absurd rfl n
      |cons _ _=>rfl
    subst U;have F:(h.toArray.size != g.toArray.size)=true:=by rw[Z,Y];simpa using n
    exact⟨λq=>SeqAt.RcAt.lists_lengths B.isList t.isList F (by omega) X.prog X.w X.xe _ ⟨.bl false,H,I,rfl,q⟩,λq=>SeqAt.RcNeAt.lists_lengths B.isList t.isList F (by omega) X.prog X.w X.xe _ ⟨.bl true,H,I,rfl,q⟩⟩
  refine j_e e λe=>ZO (P:=λo=>o=some k->CW2 X pQ O Q s H .Eq .NotEq (.ref a) (.ref b) k) e (λc d J G e=>?_) rfl
  obtain⟨c1,c2⟩:=c;obtain⟨d1,d2⟩:=d;unfold ZeS at e;split at e
  ·rename_i E
   cases e;rw[bT]at E;exact two J G (E.imp List.isEmpty_iff.mp List.isEmpty_iff.mp) rfl
  ·split at e
   ·rename_i m
    cases e;rw[bA7]at m;obtain⟨vs,T,s1⟩:=S.list ha J;obtain⟨ws,R,N⟩:=S.list hb G;obtain⟨h,rv,B,_⟩:=I.list s1;obtain⟨g,l,t,_⟩:=I.list N;obtain⟨g1,g2⟩:=Zdd (ad:=ad) (A:=X.A) I m.1 m.2 (by omega) T R rv l B.isList t.isList
    exact⟨λq=>g1 X.prog X.w X.xe _ ⟨.bl _,H,I,rfl,q⟩,λq=>g2 X.prog X.w X.xe _ ⟨.bl _,H,I,rfl,q⟩⟩
   ·exact Zb e
 ·unfold ZgD at e
  split at e
  ·split at e
   ·rename_i k' q
    cases e;exact ZgE hu I r p S M L (show eqD (.tup _) (.tup _)=some _ from q)
   ·exact ZhG hu I r p S M L e
  ·exact Zb e
 ·exact ZgE hu I r p S M L e
open Classical in
noncomputable def ZiS(K:fG7)(ad:Li Ad)(H:Hp)(d:D)(u:vL):Bool:=decide (∃ y e,RelV y u/\Den K ad H y e/\okD 8 e=true/\Zk e d=true)
section
variable{pQ:Li (Ad×Obj)}{s:sH7}{O:L2.St}{H:Hp}{x y:V}{v u:vL}{Q:VK}{ad:Li Ad}{st:Za}{dx dy:D}{k:Bool}
theorem Ve{a:Ad}{b:Li V}(I:Inv X pQ O H s)(d:RelV x v)(c:RelV y u)(g:y=.ref a)(sq:SqL X.K H a b\/SqT X.K H a b)(f:flatV x=true)(h:b.all flatV=true/\inV x b=k):CW2 X pQ O Q s H .In .NotIn v u k:=by
 obtain⟨e,i⟩:=h;subst i;exact⟨λpk=>op_in_seq pQ s O H _ _ v u Q I d c ⟨a,b,g,sq,f,e,pk⟩,λpk=>op_notIn_seq pQ s O H _ _ v u Q I d c ⟨a,b,g,sq,f,e,pk⟩⟩
def InW(X:Cx)(pQ:Li (Ad×Obj))(O:L2.St)(Q:VK)(s:sH7)(H:Hp)(v u:vL)(dy:D)(k:Bool):Prop:=(Q (.bl k) H->CW X pQ O Q s .In v u)/\((∀ ks vs,dy≠.dct ks vs)->Q (.bl (!k)) H->CW X pQ O Q s .NotIn v u)
theorem CW2.inW(h:CW2 X pQ O Q s H .In .NotIn v u k):InW X pQ O Q s H v u dy k:=⟨h.1,λ_=>h.2⟩
theorem ZgI(hu:X.A.units+64 < cLine)(I:Inv X pQ O H s)(f:RelV x v)(d:RelV y u)(S:StOk X.K ad H st)(h:Den X.K ad H x dx)(g:Den X.K ad H y dy)(q:inS st dx dy=some k):InW X pQ O Q s H v u dy k:=by
 unfold inS at q;split at q
 ·split at q
  ·rename_i l
   obtain⟨a,e,c⟩:=g.ofLst;obtain⟨m,r,sq⟩:=S.list c l;cases h;exact(Ve I f d e (.inl sq) rfl (ZaQ r q)).inW
  ·cases q
 ·split at q
  ·rename_i l
   obtain⟨a,e,c⟩:=g.ofLst;obtain⟨m,r,sq⟩:=S.list c l;cases h;exact(Ve I f d e (.inl sq) rfl (UF r q)).inW
  ·cases q
 ·obtain⟨a,m,e,c,r⟩:=g.ofTup
  cases h;exact(Ve I f d e (.inr c.sq) rfl (ZaQ r q)).inW
 ·obtain⟨a,m,e,c,r⟩:=g.ofTup
  cases h;exact(Ve I f d e (.inr c.sq) rfl (UF r q)).inW
 ·obtain⟨a,vs,rfl,c,C,r⟩:=g.ofDct
  cases h;cases q;refine⟨λpk=>op_in_dct pQ s O H _ _ v u Q I f d ⟨a,_,Sum.inr _,rfl,rfl,c,?_⟩,λz=>absurd rfl (z _ _)⟩
  rcases Xq r C with⟨w,G,p,n,F⟩|⟨p,n⟩
  ·rw[p];rw[n]at pk;exact pk
  ·rw[p];rw[n]at pk;exact pk
 ·obtain⟨o,t,rfl⟩:=dH.mp q
  obtain⟨i,j,J,es,rfl,l,rfl⟩:=UB t;obtain⟨a,rfl,c,B⟩:=g.ofDic;obtain⟨kvs,r,D,_⟩:=S.dict c B l;obtain⟨b,rfl,E⟩:=Xi h;cases f;cases d
  have z:=in_dT (X:=X) (Q:=Q) (by omega) I D E
  rw[Jw r]at z;exact⟨z.1,λ_=>z.2⟩
 ·cases h;cases g;cases q
  exact⟨λpk=>op_in_str pQ s O H _ _ v u Q I f d ⟨_,_,rfl,rfl,pk⟩,λ_ pk=>op_notIn_str pQ s O H _ _ v u Q I f d ⟨_,_,rfl,rfl,pk⟩⟩
 ·cases q
theorem ZcZ(a:Den X.K ad H x dx)(q:isN dx=some k):decide (x=V.non)=k:=by
 cases a<;>cases q<;>rfl
theorem ZgJ(I:Inv X pQ O H s)(d:RelV x v)(c:RelV y u)(g:Den X.K ad H x dx)(f:Den X.K ad H y dy)(q:isD dx dy=some k):CW2 X pQ O Q s H .Is .IsNot v u k:=by
 unfold isD at q;split at q
 ·cases f
  have z:=ZcZ g q;subst z;exact⟨λpk=>op_isN pQ s O H _ _ v u Q I d c ⟨rfl,pk⟩,λpk=>op_notN pQ s O H _ _ v u Q I d c ⟨rfl,pk⟩⟩
 ·unfold isB at q
  split at q
  ·cases q
   cases g;cases f
   cases d;cases c
   have e:∀ a b:Bool,(Value.bool a==Value.bool b)=(a==b):=λa b=>by cases a<;>cases b<;>rfl
   exact⟨λpk=>wpAny_is_plain rfl (by rw[e];exact⟨.bl _,H,I,rfl,pk⟩),λpk=>wpAny_isNot_plain rfl (by rw[e];exact⟨.bl _,H,I,rfl,pk⟩)⟩
  ·cases q
 ·cases q
theorem XX{f:Int->Int->Bool}(b:Den X.K ad H x dx)(a:Den X.K ad H y dy)(q:JD f dx dy=some k):∃ i j,x=.int i/\y=.int j/\f i j=k:=by
 unfold JD at q;split at q
 ·cases q;cases b;cases a;exact⟨_,_,rfl,rfl,rfl⟩
 ·exact Zb q
theorem ZhR(hu:X.A.units+64 < cLine)(I:Inv X pQ O H s)(e:RelV x v)(d:RelV y u)(S:StOk X.K ad H st)(g:Den X.K ad H x dx)(f:Den X.K ad H y dy)(q:ltS st dx dy=some k)(pk:Q (.bl k) H):CW X pQ O Q s .Lt v u:=by
   have q:ltD dx dy=some k:=q;unfold ltD at q;split at q
   ·split at q
    ·rename_i ds es c
     rw[bA7]at c;obtain⟨a,p,rfl,o,l⟩:=g.ofTup;obtain⟨b,ys,rfl,m,h⟩:=f.ofTup;cases e;cases d
     exact Zc3 (ad:=ad) (A:=X.A) I (n:=7) c.1 c.2 (by omega) o l m h q X.prog X.w X.xe _ ⟨.bl _,H,I,rfl,pk⟩
    ·exact Zb q
   obtain⟨i,j,rfl,rfl,z⟩:=XX g f q;exact op_lt pQ s O H _ _ v u Q I e d ⟨_,_,rfl,rfl,by cases z;exact pk⟩
theorem Vm{o:Ot Bool}(q:o.map not=some k):o=some (!k):=by
 cases o with
 |none=>exact Zb q
 |some a=>cases q;rw[Bool.not_not]
theorem Zbl{a:CmpOp}(h:CW2 X pQ O Q s H op a v u (!k))(pk:Q (.bl k) H):CW X pQ O Q s a v u:=h.2 (by rw[Bool.not_not];exact pk)
end
theorem QP(hu:X.A.units+64 < cLine):OpR X (compareOp op) (rD X.K (Zcw op)):=by
 intro pQ s O H x y v u Q I b a h;obtain⟨ad,st,dx,dy,d,st',S,f,c,e,p⟩:=h
 change CW X pQ O Q s op v u;unfold Zcw at e;cases q:Zcv op dx dy st with
 |none=>rw[q]at e;cases e
 |some k=>
  rw[q]at e;cases e;have pk:=p.at S (.bl k);clear p;cases op with
  |Lt=>exact ZhR hu I b a S f c q pk
  |LtE=>
   obtain⟨i,j,rfl,rfl,z⟩:=XX f c q;exact op_le pQ s O H _ _ v u Q I b a ⟨_,_,rfl,rfl,by cases z;exact pk⟩
  |Gt=>
   obtain⟨i,j,rfl,rfl,z⟩:=XX f c q;exact op_gt pQ s O H _ _ v u Q I b a ⟨_,_,rfl,rfl,by cases z;exact pk⟩
  |GtE=>
   obtain⟨i,j,rfl,rfl,z⟩:=XX f c q;exact op_ge pQ s O H _ _ v u Q I b a ⟨_,_,rfl,rfl,by cases z;exact pk⟩
  |Eq=>exact(ZgF hu I b a S f c q).1 pk
  |NotEq=>exact Zbl (ZgF hu I b a S f c (Vm q)) pk
  |In=>exact(ZgI hu I b a S f c q).1 pk
  |NotIn=>
   have q:niS st dx dy=some k:=q;unfold niS at q;split at q
   ·exact Zb q
   ·rename_i g
    exact(ZgI hu I b a S f c (Vm q)).2 g (by rw[Bool.not_not];exact pk)
  |Is=>exact(ZgJ I b a f c q).1 pk
  |IsNot=>exact Zbl (ZgJ I b a f c (Vm q)) pk
end
variable [ClsTab]
noncomputable def Zg:Expr->Bool
 |.Starred ..=>false
 |.Set ..=>false
 |.Slice ..=>false
 |_=>true
variable{sc:Scope}{N:Li Str}{e:Expr}
theorem Ze{G:Gs}{c:CE}(h:cE G n sc N e=some c):Zg e=true:=by
 cases n with
 |zero=>exact nomatch (show(none:Ot CE)=some c from h)
 |succ n=>cases e<;>first|rfl|exact nomatch (show(none:Ot CE)=some c from h)
variable{env:PySem.Env}
theorem Zd{es:Li Expr}(h:Zg e=true):starEach (e :: es) env=(false,eval e env) :: starEach es env:=by
 cases e<;>first|rfl|cases h
theorem XJ{b:Expr}(h:Zg b=true):behindInMarks op b=false:=by
 cases b<;>first|rfl|cases h
theorem V4{b:Expr}(h:Zg b=true):PlainIx b:=by
 cases b<;>first | (intro o i;rfl)|cases h
theorem Yn{pos:Pos}{env:PySem.Env}:∀ {es:Li Expr},es.all Zg=true->(backTo pos (starEach es env)).any (·.1)=false
 |[],_=>rfl
 |e :: es,h=>by
  rw[bC,bA7]at h;rw[Zd h.1];show(false||(backTo pos (starEach es env)).any (·.1))=false;rw[Yn h.2];rfl
inductive EsOk(Pm:Params)(K:fG7):List DictEntry->List Str->List D->Prop where
 |nil:EsOk Pm K [] [] []
 |cons {e:DictEntry}{es:List DictEntry}{k:Str}{ks:List Str}{d:D}{ds:List D}{v:V}{t:Tok} (h1:e.hash=PyData.keyHash Pm k) (h2:e.key=.str k t) (h3:RelV v e.val) (h4:∀ ad H,Den K ad H v d) (r:EsOk Pm K es ks ds):EsOk Pm K (e :: es) (k :: ks) (d :: ds)
def Qe(b:Params)(K:fG7)(mg:Str->Ot vL)(x:Str)(ks:Li Str)(ds:Li D):Prop:=
 ∃ A o es a,mg x=some (.ref A)/\K.lookup A=some o/\o.ExactDict/\o.data=.dict es a/\(A==sysModules)=false/\ks.Nodup/\EsOk b K es.toList ks ds
variable{w:World}
theorem EsOk.open{P:Program}{K:fG7}:∀ {es:Li DictEntry}{ks:Li Str}{ds:Li D},EsOk w.params K es ks ds->∃ kvs:Li (Key×vL),Pairs (mixKind P w) es kvs/\kvs.map (·.1)=ks.map Sum.inr/\(∀ e∈es,∃ k,(mixKind P w).is k e.key=true/\e.hash=(mixKind P w).hash k) /\
  ∀ k d,ZY ks ds k=some d->∃ u v,valueAt kvs (Sum.inr k)=some u/\RelV v u/\∀ ad H,Den K ad H v d
 |_,_,_,.nil=>⟨[],.nil,rfl,(λ_ h=>nomatch h),λk d h=>by simp[ZY]at h⟩
 |e :: es,a :: ks,n :: ds,.cons (v:=v) (t:=t) m l j i r=>by
  obtain⟨kvs,B,A,y,s⟩:=EsOk.open (P:=P) r;have b:(mixKind P w).is (Sum.inr a) e.key=true:=by rw[l];exact mixKind_str P w a t
  refine⟨(Sum.inr a,e.val) :: kvs,.cons b rfl B,by rw[aO,aO,A],λx hx=>?_,λk d h=>?_⟩
  ·rcases aF.mp hx with rfl|hx
   ·exact⟨Sum.inr a,b,m⟩
   ·exact y x hx
  ·unfold valueAt
   by_cases c:a=k
   ·subst c
    have h:ZY (a :: ks) (n :: ds) a=some d:=h;simp only[ZY,if_pos]at h;cases h;exact⟨e.val,v,by simp,j,i⟩
   ·have h:ZY ks ds k=some d:=by
     simp only[ZY,if_neg c]at h;exact h
    obtain⟨u,f,q,p,o⟩:=s k d h;refine⟨u,f,?_,p,o⟩;have g:¬(Sum.inr a:Key)=Sum.inr k:=λz=>c (Sum.inr.inj z)
    rw[List.find?_cons_of_neg (by simpa using g)]
    exact q
structure SubOk(K:fG7)(C B:Addr):Prop where
 cl:Cls K C
 ha:W.findIn K (.ref C) "__class__"=some (some (.builtin "object.__class__"))
 hn:W.specialIn K (.builtin "object.__class__") "__get__"=some (some (.builtin "getset_descriptor.__get__"))
 ht:W.takesIn K (.builtin "object.__class__")=some true
 hm:W.mroIn K C (.type "object")=some true
 kit:W.kitOne K (.ref C) (.ref B)=some true
structure NewOk(K:fG7)(C:Addr):Prop where
 makes:W.makesIn K C=true
 init:W.findIn K (.ref C) "__init__"=some (some (.builtin "object.__init__"))
 kp:W.keepIn K (.ref C)=true
 cl:Cls K C
def GOk(P:Program)(w:World)(K:fG7)(mg:Str->Ot vL)(base:Heap)(A:Around)(F:Nat->Fn)(x:Str):GV->Prop
 |.c d=>∃ v u,mg x=some u/\RelV v u/\∀ ad H,Den K ad H v d
 |.blt=>mg x=none
 |.dct ks ds=>Qe w.params K mg x ks ds
 |.cls i l a=>mg x=some (.ref (ClsTab.ca i))/\NewOk K (ClsTab.ca i)/\(∀ h,a.contains h=true->SubOk K (ClsTab.ca h) (ClsTab.ca i)) /\
   ∀ m j g,l.lookup m=some (j,g)->∃ (k:Nat) (f:Ad) (fd:FuncData) (pn:Li Str),FnOk P w K mg base CX0 k f fd pn (spD K (F j))/\Room k A/\Meth K (ClsTab.ca i) m f/\Binds K fd pn []
 |.fn i g ds=>∃ (k:Nat) (f:Ad) (fd:FuncData) (pn:Li Str),FnOk P w K mg base CX0 k f fd pn (spD K (F i))/\Room k A/\mg x=some (.ref f)/\W.keepIn K (.ref f)=true /\
   ∀ m,m<=ds.length->∃ b e,(∀ ad H,Dens K ad H b (ds.drop m))/\Vals b e/\Binds K fd pn e
structure Cxt(X:Cx)(G:Gs)(F:Nat->Fn)(sc:Scope)(N:List Str):Prop where
 hN:X.N=N
 vis:∀ x,Xo sc x=true->Vis X.env.scope x
 glb:∀ x,ZB sc x=true->Gl X x
 calm:X.calm=true
 hu:X.A.units+64 < cLine
 gl:∀ x g,G.lookup x=some g->GOk X.prog X.w X.K X.mg X.base X.A F x g
 cel:∀ x,Wf sc x=true->X.env.scope.names.lookup x=some .cell\/X.env.scope.names.lookup x=some .free
 nx:X.xe=λ_ _=>False
variable{i:Nat}
theorem Xb{x:Str}(h:N.idxOf? x=some i):N[i]?=some x:=by
 unfold List.idxOf? at h
 rw[List.findIdx?_eq_some_iff_getElem]at h;obtain⟨a,b,_⟩:=h;rw[lG7 a];rw[beq_iff_eq.mp b]
theorem Vi{x:Str}(h:Xo sc x=true):(x==("__debug__":Str))=false/\(x==("__classdict__":Str))=false:=by
 unfold Xo at h;rw[bA7,bA7,dZ,dZ]at h;exact h.1
theorem YL{x:Str}(h:ZB sc x=true):(x==("__debug__":Str))=false:=by
 unfold ZB at h;rw[bA7,dZ]at h;exact h.1
variable{fa:Ev}{pos:Pos}{U:Env}{st':Za}{d:D}
variable{F:Nat->Fn}
theorem ZgU{f:Ev}(h:PE X e (tE X.K f))(b:∀ a,isTrue e X.env a=(do let v <-a;standAt e.pos;holding [v] (truthy v)):=by intro _;rfl):PT X e (tT X.K f):=Wr (pt_val h b) ZaO
theorem Zfp{c a b:Expr}{u v:Ev}(y:PT X c (tT X.K u))(A:PT X a (tT X.K fa))(z:PT X b (tT X.K v)):PT X (.IfExp c a b pos) (tT X.K (Yq u fa v)):=by
 intro pQ s O H Q I h;obtain⟨ad,U,st,d,st',E,S,e,p⟩:=h;obtain⟨k,g,q,e⟩:=Z2 e;show wpAny _ _ (isTrue c X.env (eval c X.env) >>= λt=>if t then isTrue a X.env (eval a X.env) else isTrue b X.env (eval b X.env)) _ _ s
 refine aA (thn (y pQ s O H (λx l=>x=k/\∃ f,Ext ad H f l/\StOk X.K f l g) I ⟨ad,U,st,k,g,E,S,q,λf l j m=>⟨rfl,f,j,m⟩⟩) λt s1 ⟨l,w,B,f,j,m⟩=>?_)
 subst B;cases t with
 |true=>
  rw[if_pos rfl]at e ⊢;exact A pQ s1 O l Q w ⟨f,U,g,d,st',E.mono j,m,e,λi r n o=>p i r (j.trans n) o⟩
 |false=>
  rw[if_neg bF7]at e ⊢;exact z pQ s1 O l Q w ⟨f,U,g,d,st',E.mono j,m,e,λi r n o=>p i r (j.trans n) o⟩
def Uj:CE->Prop
 |.aN=>True
 |.aC _ _=>True
 |_=>False
theorem XS{c:CE}(h:Uj c)(e:ev F c U st=some (d,st')):∃ ds,d=.tup ds/\ds.length<=1000:=by
 cases c with
 |aN=>cases e;exact⟨[],rfl,by decide⟩
 |aC a r=>
  have e:ZQ (ev F a) (ev F r) WJ U st=some (d,st'):=e;unfold ZQ at e;split at e
  ·split at e
   ·rename_i y b _
    cases y with
    |tup f=>
     have e:(if f.length < 1000 then some (D.tup (_ :: f),b) else none)=some (d,st'):=e
     split at e
     ·rename_i g
      cases e;exact⟨_,rfl,g⟩
     ·exact Zb e
    |_=>simp[WJ]at e
   ·exact Zb e
  ·exact Zb e
 |_=>exact False.elim h
structure SE(X:Cx)(F:Nat->Fn)(e:Expr)(c:CE):Prop where
 pe:PE X e (tE X.K (ev F c))
 pt:PT X e (tT X.K (ev F c))
theorem SE.of{c:CE}(h:PE X e (tE X.K (ev F c)))(b:∀ a,isTrue e X.env a=(do let v <-a;standAt e.pos;holding [v] (truthy v)):=by intro _;rfl):SE X F e c:=⟨h,ZgU h b⟩
theorem Ub{op:BoolOp}{es:Li Expr}{t:TT}(h:PT X (.BoolOp op es pos) t):PW X (.BoolOp op es pos) t:=λ_ pQ s O H Q I q=>h pQ s O H Q I q
variable{vs:Li V}{ad0:Li Ad}
variable{ad:Li Ad}{H:Hp}{p:Ad}
section
variable{o:HO}
variable (ho:∀ kvs,o≠.dT kvs)
include ho
theorem ZaX{K:fG7}(a:H p=some (.dK [])):Keeps K ad ad H (upd H p o):=⟨λh=>h.upd a (by intro b z;cases z),λh=>⟨h,Wx (Wm a λ_ z=>nomatch z) ho⟩,λn h=>by rw[upd_ne (ne_of h a (by intro z;injection z with z;exact n z))];exact h,λh n=>⟨by rw[upd_ne (ne_of h a (by intro z;cases z))];exact h,n⟩⟩
theorem Dens.wrK{K:fG7}(a:H p=some (.dK []))(h:Dens K ad H vs ds):Dens K ad (upd H p o) vs ds:=h.map (ZaX ho a)
theorem StOk.wrK{K:fG7}(S:StOk K ad H st)(a:H p=some (.dK []))(b:p∉ad):StOk K ad (upd H p o) st:=
 S.wrG (ZaX ho a) b
theorem Ext.wrK{e:Hp}(x:Ext ad0 e ad H)(f:H p=some (.dK []))(d:e p=none):Ext ad0 e ad (upd H p o):=by
 refine⟨x.pre,λb c h=>?_,λb c h=>?_,λb o h n=>?_,x.new,λi a h=>(x.kd i a h).trans (Wx (Wm f λ_ z=>nomatch z) ho)⟩
 ·rw[upd_ne (ne_of_none h d)];exact x.tup b c h
 ·rw[upd_ne (ne_of_none h d)];exact x.dk b c h
 ·rw[upd_ne (ne_of_none h d)];exact x.keep b o h n
end
theorem WQ:∀ (kvs a:Li (Key×V)),(∀ p∈kvs,∀ q∈a,q.1≠p.1)->(kvs.map (·.1)).Nodup->mergeK a kvs=a++kvs
 |[],a,_,_=>by show a=a++[];rw[bH]
 |p :: r,a,h,n=>by
  rw[aO,bM]at n;have e:putK a p.1 p.2=a++[p]:=by
   unfold putK;rw[if_neg];intro z;rw[List.any_eq_true]at z;obtain⟨q,hq,z⟩:=z;exact h p (lQ7 ..) q hq (of_decide_eq_true z)
  show mergeK (putK a p.1 p.2) r=_;rw[e,WQ r (a++[p]) (λx b q hq=>?_) n.2,bD];rfl
  rcases bP.mp hq with hq|hq
  ·exact h x (lM7 _ b) q hq
  ·rw[aR]at hq
   subst hq;intro z;exact n.1 (by rw[z];exact List.mem_map_of_mem b)
theorem Wh:∀ {ks:Li Str}{vs:Li V},ks.Nodup->(((ks.zip vs).map λp=>((Sum.inr p.1:Key),p.2)).map (·.1)).Nodup
 |[],_,_=>by simp
 |_ :: _,[],_=>by simp
 |k :: ks,v :: vs,h=>by
  rw[bM]at h;show((Sum.inr k:Key) :: ((ks.zip vs).map λp=>((Sum.inr p.1:Key),p.2)).map (·.1)).Nodup
  rw[bM];refine⟨λz=>h.1 ?_,Wh h.2⟩
  rw[bN,aS]at z;obtain⟨q,a,e⟩:=z;have e:(Sum.inr q.1:Key)=Sum.inr k:=e;rw[<-Sum.inr.inj e];exact(dU a).1
theorem Xp:∀ {keys:Li (Ot Expr)}{ks:Li Str},ZH keys=some ks->keys.length=ks.length/\keys.all (·.isSome)=true
 |[],_,h=>by cases h;exact⟨rfl,rfl⟩
 |some (.Constant (.str k) a b) :: r,ks,h=>by
  have h:(ZH r).map (k :: ·)=some ks:=h;cases q:ZH r with
  |none=>rw[q]at h;cases h
  |some c=>
   rw[q]at h;cases h;obtain⟨f,d⟩:=Xp q;exact⟨by rw[aQ,aQ,f],by rw[bC,d];rfl⟩
 |none :: _,_,h=>by simp[ZH]at h
 |some e :: r,ks,h=>by
  cases e with
  |Constant v a b=>cases v with
   |str k=>
    have h:(ZH r).map (k :: ·)=some ks:=h;cases q:ZH r with
    |none=>rw[q]at h;cases h
    |some c=>
     rw[q]at h;cases h;obtain⟨f,d⟩:=Xp q;exact⟨by rw[aQ,aQ,f],by rw[bC,d];rfl⟩
   |_=>simp[ZH]at h
  |_=>simp[ZH]at h
variable{vals:Li Expr}{keys:Li (Ot Expr)}{ks:Li Str}
variable{pos:Pos}
section
variable{f:Expr->Ot CE}
theorem ZbB(n:∀ e c,f e=some c->PE X e (tE X.K (ev F c))):∀ {vals:Li Expr}{keys:Li (Ot Expr)}{ks:Li Str}{c:CE},ZH keys=some ks->cVs f vals=some c->ks.length=vals.length->
  Uj c/\∃ i,PPs X pos keys vals i/\∀ O H (Q:Li (V×V)->Hp->Prop),tA X.K (ev F c) O H (λvs H'=>Q ((ks.zip vs).map λp=>(V.str p.1,p.2)) H')->tPairs i O H Q
 |[],keys,ks,c,g,j,l=>by
  cases j;cases ks with
  |cons _ _=>simp at l
  |nil=>
   have A:=(Xp g).1;cases keys with
   |cons _ _=>simp at A
   |nil=>exact⟨trivial,[],pps_nil,λO H Q h=>Wd O H _ h⟩
 |v :: vals,keys,ks,c,g,j,l=>by
  cases ks with
  |nil=>simp at l
  |cons k ks=>
   have j:(match f v,cVs f vals with
    |some x,some r=>some (CE.aC x r)
    |_,_=>none)=some c:=j
   split at j
   ·rename_i x r u w
    cases j;cases keys with
    |nil=>cases g
    |cons m keys=>
     cases m with
     |none=>simp[ZH]at g
     |some e=>
      cases e with
      |Constant C a b=>
       cases C with
       |str t=>
        have g:(ZH keys).map (t :: ·)=some (k :: ks):=g;cases q:ZH keys with
        |none=>rw[q]at g;cases g
        |some s=>
         rw[q]at g;cases g;obtain⟨_,i,z,y⟩:=ZbB n q w (by simpa using l)
         refine⟨trivial,(tC (.str k),tE X.K (ev F x)) :: i,pps_cons pe_str (n v x u) z,λO H Q h=>?_⟩
         have h:=WO O H _ h;obtain⟨ad,U,st,d,st',E,S,e,p⟩:=h;exact⟨ad,U,st,d,st',E,S,e,λv ad' H' o D B=>y O H' _ (p v ad' H' o D B)⟩
       |_=>simp[ZH]at g
      |_=>simp[ZH]at g
   ·exact Zb j
theorem Zby(L:∀ e c,f e=some c->PE X e (tE X.K (ev F c))){c:CE}(x:ZH keys=some ks)(M:cVs f vals=some c)(I:keys.length=vals.length)(T:keys≠[])(u:keys.length<=15) :
  PE X (.Dict keys vals pos) (tE X.K (ev F (.dict ks c))):=by
 obtain⟨Z,C⟩:=Xp x;obtain⟨N,B,R,P⟩:=ZbB (pos:=pos) L x M (by omega)
 refine Zl (pe_disp R C I T u) λO H Q h=>?_
 obtain⟨ad,U,st,d,st',E,S,e,p⟩:=h;have e:Zq (ev F c) (ZdX ks) U st=some (d,st'):=e;unfold Zq at e;split at e
 ·rename_i y m w
  obtain⟨ds,rfl,_⟩:=XS N w;have e:(if ks.length=ds.length/\(ks.Nodup/\ks≠[])/\ks.length<=15 then some (D.dct ks ds,m) else none)=some (d,st'):=e
  split at e
  ·rename_i v
   cases e;intro a b t;refine P O _ _ ⟨ad,U,st,ds,_,E.mono (Ext.laid b),S.laid b,w,λvs g Y k W A=>?_⟩
   have j:Y a=some (.dK []):=k.dk a [] upd_same;have n:∀ {l:Li (Key×V)} (kvs:Li (Li Key×V)),HO.dK l≠.dT kvs:=λ_ z=>nomatch z
   have s:ks.length=vs.length:=by rw[A.length];exact v.1
   have r:a∉g:=λz=>by
    rcases k.new a z with z|z
    ·obtain⟨i,J⟩:=List.mem_iff_getElem?.mp z
     rcases S.has J with⟨o,q⟩|⟨o,q⟩
     ·rw[b]at q;cases q
     ·exact t o q
    ·rw[upd_same]at z;cases z
   refine⟨j,(ks.zip vs).map λp=>((Sum.inr p.1:Key),p.2),by rw[bN];rfl,by rw[aB,List.length_zip];omega,?_⟩
   rw[WQ _ [] (λ_ _ q G=>nomatch G) (Wh v.2.1.1),dG]
   exact p _ g _ ((((Ext.laid b).trans k)).wrK n j b) (W.wrK n j r) (.dct upd_same rfl v.2.1 s (A.wrK n j))
  ·exact Zb e
 ·exact Zb e
end
variable [ClsTab]
theorem VG:bootBuiltins "tuple"=some (.type "tuple"):=by decide +kernel
theorem Qk:bootBuiltins "list"=some (.type "list"):=by decide +kernel
theorem J9:bootBuiltins "int"=some (.type "int"):=by decide +kernel
theorem Zcr:bootBuiltins "bool"=some (.type "bool"):=by decide +kernel
theorem ZeL:bootBuiltins "str"=some (.type "str"):=by decide +kernel
theorem ZeK:bootBuiltins "min"=some (.builtin "min"):=by decide +kernel
theorem ZeJ:bootBuiltins "max"=some (.builtin "max"):=by decide +kernel
theorem Wz:bootBuiltins "isinstance"=some (.builtin "isinstance"):=by decide +kernel
theorem Jk:bootBuiltins "sorted"=some (.builtin "sorted"):=by decide +kernel
theorem ZeI:bootBuiltins "len"=some (.builtin "len"):=by decide +kernel
variable{as:Li Expr}{cs:CE}{ap cp yp:Pos}{prog:Program}{ms:Li (Str×Nat×Nat)}{subs:Li Nat}{m:Str}{j:Nat}
variable{G:Gs}
section
def Zp(G:Gs)(F:Nat->Fn)(n:Nat):Prop:=∀ X sc N,Cxt X G F sc N->∀ e c,cE G n sc N e=some c->SE X F e c
def Yh(G:Gs)(F:Nat->Fn)(n:Nat):Prop:=∀ X sc N,Cxt X G F sc N->∀ es c,cEs G n sc N es=some c->PA X es (tA X.K (ev F c))/\Uj c/\es.all Zg=true/\(es=[]->c=.aN)
def W2(G:Gs)(F:Nat->Fn)(n:Nat):Prop:=∀ X sc N,Cxt X G F sc N->∀ e c,cO G n sc N e=some c->PO X e (tO X.K (ev F c))
theorem ZbM{v:Const}{k:Nat}{c:CE}(h:CE.ofConst v=some c):SE X F (.Constant v k pos) c:=by
 cases v with
 |none=>cases h;exact .of (Zl pe_non (VW λ_ _=>.non))
 |bool b=>cases h;exact .of (Zl pe_bl (VW λ_ _=>.bl b))
 |int i=>cases h;exact .of (Zl pe_int (VW λ_ _=>.int i))
 |str x=>cases h;exact .of (Zl pe_str (VW λ_ _=>.str x))
 |_=>exact Zb h
theorem Zdq{x:Str}{c:CE}(K:Cxt X G F sc N)(h:Zbh G sc N x=some c):SE X F (.Name x pos) c:=by
 unfold Zbh at h;split at h
 ·rename_i a
  cases q:N.idxOf? x with
  |none=>rw[q]at h;cases h
  |some i=>
   rw[q]at h;cases h;obtain⟨j,g⟩:=Vi a;exact .of (Zl (pe_var (i:=i) (by rw[K.hN];exact Xb q) (K.vis x a) j g) ZcW)
 ·split at h
  ·rename_i b
   split at h
   ·rename_i d q
    cases h;obtain⟨v,u,e,r,f⟩:=K.gl x _ q;exact .of (Zl (pe_glob (K.glb x b) e r (YL b)) (VW f))
   ·exact Zb h
  ·exact Zb h
theorem pa1{a:Expr}{t:TE}(b:Zg a=true)(c:PE X a t):PA X [a] (tCons t tNil):=pa_cons c pa_nil (Zd b)
theorem pa2{a b:Expr}{t u:TE}(d:Zg a=true)(c:Zg b=true)(f:PE X a t)(e:PE X b u):PA X [a,b] (tCons t (tCons u tNil)):=pa_cons f (pa1 c e) (Zd d)
theorem Zdi{f:Str}{a:Expr}{x c:CE}{p:Pos}(K:Cxt X G F sc N)(i:ZB sc f=true)(d:X.mg f=none)(b:Zg a=true)(A:PE X a (tE X.K (ev F x)))(h:ZeG f x=some c) :
  PE X (.Call (.Name f p) [a] [] pos) (tE X.K (ev F c)):=by 
 have g:=K.glb f i;unfold ZeG at h;split at h
 ·rename_i e;subst e;cases h
  exact Zl (pe_callB Jm g d ZeI (pa1 b A) (by decide) (by decide) (Zd b) rfl) YM
 ·split at h
  ·rename_i e;subst e;cases h
   exact Zl (pe_callTy VH g d VG (pa1 b A) (by decide) (by decide) (Zd b) rfl) YM
  ·split at h
   ·rename_i e;subst e;cases h
    exact Zl (pe_callTy Uy g d Qk (pa1 b A) (by decide) (by decide) (Zd b) rfl) YM
   ·split at h
    ·rename_i e;subst e;cases h
     exact Zl (pe_callTy Jl g d J9 (pa1 b A) (by decide) (by decide) (Zd b) rfl) YM
    ·split at h
     ·rename_i e;subst e;cases h
      exact Zl (pe_callB (Ux K.calm) g d Jk (pa1 b A) (by decide) (by decide) (Zd b) rfl) YM
     ·exact Zb h
theorem JY{b:Expr}(a:Zg b=true):(backTo pos (starEach [b] X.env)).any (·.1)=false:=Yn (by rw[bC,a];rfl)
theorem Zdj{f:Str}{a b:Expr}{x y c:CE}{p:Pos}(K:Cxt X G F sc N)(k:ZB sc f=true)(i:X.mg f=none)(g:Zg a=true)(d:Zg b=true)(A:PE X a (tE X.K (ev F x)))(B:PE X b (tE X.K (ev F y)))(h:ZeH f x y=some c):PE X (.Call (.Name f p) [a,b] [] pos) (tE X.K (ev F c)):=by
 have j:=K.glb f k;unfold ZeH at h;split at h
 ·rename_i e;subst e;cases h
  exact Zl (pe_callB (Jo K.calm) j i ZeK (pa2 g d A B) (by decide) (by decide) (Zd g) (JY d)) VU
 ·split at h
  ·rename_i e;subst e;cases h
   exact Zl (pe_callB (Jn K.calm) j i ZeJ (pa2 g d A B) (by decide) (by decide) (Zd g) (JY d)) VU
  ·exact Zb h
theorem ZcL{K:fG7}{T:Ty}(O:L2.St)(H:Hp)(Q:VK)(h:tE K (Zq fa (ZaV T)) O H Q) :
  tCB (λvs H Q=>∃ v,vs=[v,.ty (tyN T)]/\rC K (on1 (ZaV T)) [v] H Q) (tCons (tE K fa) (tCons (tC (.ty (tyN T))) tNil)) O H Q:=by
 obtain⟨ad,U,st,d,st',E,S,e,p⟩:=h;unfold Zq at e;split at e
 ·rename_i x a g
  exact⟨ad,U,st,x,a,E,S,g,λf b k c j i=>⟨f,rfl,b,a,[x],d,st',j,.cons i .nil,e,p.later c⟩⟩
 ·exact Zb e
theorem Zb3{b:Expr}{T:Ty}(K:Cxt X G F sc N)(h:Q8 G sc b=some T):Zg b=true/\PE X b (tC (.ty (tyN T))):=by
 cases b with
 |Name t p=>
  have a:Zf6 G sc t=some T:=h;clear h;unfold Zf6 at a;split at a
  ·rename_i f
   rw[bA7]at f;have c:X.mg t=none:=by
    have z:=f.2;unfold QA at z;split at z
    ·rename_i q;exact K.gl t _ q
    ·cases z
   have d:=K.glb t f.1;refine⟨rfl,?_⟩;unfold Zhn at a;split at a
   ·rename_i e;subst e;cases a
    exact pe_bltn d c J9 rfl
   ·split at a
    ·rename_i e;subst e;cases a
     exact pe_bltn d c Zcr rfl
    ·split at a
     ·rename_i e;subst e;cases a
      exact pe_bltn d c ZeL rfl
     ·split at a
      ·rename_i e;subst e;cases a
       exact pe_bltn d c VG rfl
      ·exact Zb a
  ·exact Zb a
 |_=>simp[Q8]at h
theorem ZfM{a b:Expr}{x:CE}{T:Ty}{p:Pos}(K:Cxt X G F sc N)(f:ZB sc "isinstance"=true)(e:X.mg "isinstance"=none)(d:Zg a=true)(A:PE X a (tE X.K (ev F x)))(g:Q8 G sc b=some T) :
  PE X (.Call (.Name "isinstance" p) [a,b] [] pos) (tE X.K (ev F (.isi T x))):=by
 obtain⟨c,B⟩:=Zb3 K g;exact Zl (pe_callB (Zac (T:=T)) (K.glb _ f) e Wz (pa2 d c A B) (by decide) (by decide) (Zd d) (JY c)) ZcL
theorem Zdl{f:Str}{a:Nat}{p:Pos}(K:Cxt X G F sc N)(c:ZB sc f=true)(t:G.lookup f=some (.fn i a ds))(x:as.length<=a/\a<=as.length+ds.length)(A:PA X as (tA X.K (ev F cs))/\Uj cs/\as.all Zg=true/\(as=[]->cs=.aN)):PE X (.Call (.Name f p) as [] pos) (tE X.K (ev F (.call i cs (ds.drop (as.length+ds.length - a))))):=by
 obtain⟨k,fa,fd,w,q,l,m,n,s⟩:=K.gl f _ t;obtain⟨u,v,o,j,b⟩:=s (as.length+ds.length - a) (by omega)
 obtain⟨g,_,d,r⟩:=A;cases as with
 |nil=>
  refine Zl (pe_call0 (E:=E0) q l (K.glb f c) m n b j pass0 (YL c)) λO H Q h=>?_
  rw[r rfl]at h;exact Wd O H _ (VX (E:=E0) o O H Q h)
 |cons e es=>
  rw[bC,bA7]at d;exact Zl (pe_call (E:=E0) q l (K.glb f c) m n b j pass0 g (YL c) (Zd d.1) (Yn d.2)) (VX o)
theorem W9{nm:Str}{b:Expr}(K:Cxt X G F sc N)(h:fnA G sc nm b=some as):∃ p pos,b=.Call (.Name nm p) as [] pos/\Gl X nm/\X.mg nm=none:=by
 obtain⟨q,a,g⟩:=dA.mp h;refine Y0 g λe f=>?_
 obtain⟨rfl,d,c⟩:=e;cases f;unfold ZdU at a;split at a
 ·cases a
  refine⟨_,_,rfl,K.glb _ d,?_⟩;unfold QA at c;split at c
  ·rename_i q;exact K.gl _ _ q
  ·cases c
 ·cases a
theorem QO{a:Expr}(h:Zfk as=some a):as=[a]:=by
 cases as with
 |nil=>exact Zb h
 |cons x as=>cases as with
  |nil=>cases h;rfl
  |cons _ _=>exact Zb h
theorem WD{b:Expr}(K:Cxt X G F sc N)(h:ZM G sc b=some e):∃ p pos,b=.Call (.Name "range" p) [e] [] pos/\Gl X "range"/\X.mg "range"=none:=by
 obtain⟨as,a,c⟩:=dA.mp h;rw[QO c]at a;exact W9 K a
theorem ZfK{a b:Expr}{x y:CE}{c:Bool}(K:Cxt X G F sc N)(g:ZM G sc b=some e)(d:ZeZ op=some c)(f:Zg e=true)(A:PE X a (tE X.K (ev F x)))(B:PE X e (tE X.K (ev F y))):SE X F (.Compare a [op] [b] pos) (.inR c x y):=by cases d
theorem ZfQ{f:Str}{a:Expr}{o:Ot CE}{c:CE}{p:Pos}(K:Cxt X G F sc N)(g:ZB sc f=true)(d:X.mg f=none)(b:U6 G sc f a=some e)(B:∀ c,o=some c->Zg e=true/\PE X e (tE X.K (ev F c)))(h:o.map CE.tupR=some c):SE X F (.Call (.Name f p) [a] [] pos) c:=by cases b
def rLk(K:fG7)(A:Ad)(ks:Li Str)(ds:Li D):R2:=λx y H Q=>x=.ref A/\∃ k d,y=.str k/\ZY ks ds k=some d/\∀ v,(∀ ad H,Den K ad H v d)->Q v H
theorem ZgK{A:Ad}{o:Obj}{es:Array DictEntry}{f:Nat}(lk:X.K.lookup A=some o)(ex:o.ExactDict)(hd:o.data=.dict es f)(t:(A==sysModules)=false)(nd:ks.Nodup)(p:EsOk X.w.params X.K es.toList ks ds):IxR X (rLk X.K A ks ds):=by
 intro a slice pQ s O H x y v u Q I i g h n;obtain⟨rfl,k,d,rfl,c,q⟩:=h;cases i;obtain⟨kvs,pr,j,l,val⟩:=p.open (P:=X.prog);have dd:s.heap.DictOf (mixKind X.prog X.w) A kvs:=by
  refine⟨o,es,f,I.kIn A o lk,ex,hd,λe c=>l e (by simpa using c),pr,?_⟩
  rw[j];exact List.pairwise_map.mpr (nd.imp λh z=>h (Sum.inr.inj z))
 obtain⟨w,z,m,b,r⟩:=val k d c;exact tail_any dd.typeIs PySem.F.slot_dict_getitem.lookup (wpAny_getItem_of (kV_is (k:=Sum.inr k) g) dd.mapOf m ⟨z,H,I.tok _,b,q z r⟩) n
theorem ZaJ{K:fG7}{A:Ad}(O:L2.St)(H:Hp)(Q:VK)(h:tE K (Zq fa (Za7 ks ds)) O H Q):tOp (rLk K A ks ds) (tC (.ref A)) (tE K fa) O H Q:=by
 obtain⟨ad,U,st,d,st',E,S,e,p⟩:=h;unfold Zq at e;split at e
 ·rename_i x f g
  unfold Za7 at e;split at e
  ·rename_i k
   split at e
   ·rename_i n i
    cases e;exact⟨ad,U,st,.str k,_,E,S,g,λv a b c m l=>⟨rfl,k,d,l.ofStr,i,λw j=>p w a b c m (j a b)⟩⟩
   ·exact Zb e
  ·exact Zb e
 ·exact Zb e
theorem UW{d:Expr}{l f:TE}{p:Pos}{s:sH7}{n:vL->sH7->Prop}(E:Gl X "range")(D:X.mg "range"=none)(m:Zg e=true)(g:Zg d=true)(F:PE X e l)(k:PE X d f)(I:L2.Inv X pQ O H s)(h:tCons l (tCons f tNil) O H λvs x=>∃ a b:Int,vs=[.int a,.int b]/\∀ i r t u v,L2.Inv X pQ O x i->IsRange i.heap r a b 1 t u v->n (.ref r) i):wpAny (model X.prog X.w) X.A (eval (.Call (.Name "range" p) [e,d] [] pos) X.env) n X.xe s:=by
 have c:starEach [d] X.env=[(false,eval d X.env)]:=Zd g;have C:starEach [e,d] X.env=[(false,eval e X.env),(false,eval d X.env)]:=by rw[Zd m,c]
 refine Call_ (ld_blt I E D boot_range (PyProof.Rows.callWith_type1 (thn (pa2 m g F k pos pQ s O H _ I h) λJ s1 ⟨vs,x,G,y,B⟩=>?_) (by rw[C,c]) (by rw[c];rfl)))
 obtain⟨a,b,rfl,q⟩:=B;cases y with
 |cons r j=>
  cases j with
  |cons z j=>
   cases j;obtain⟨t,rfl⟩:=r;obtain⟨t',rfl⟩:=z;exact call_range_2 (q _ _ _ _ _ (G.kept (t':=_) λb o e=>aK _ e) (IsRange.new ..))
theorem UN{i h:Ev}(e:ZQ i h Za9 U st=some (d,st')):∃ a b g f,i U st=some (.int a,g)/\h U g=some (.int b,f)/\(XY a b 1=true/\b - a<=1000)/\d=.lst f.length/\st'=f++[(true,(XG a b 1).map .int)]:=by
 unfold ZQ at e;split at e
 ·rename_i dx g k
  split at e
  ·rename_i dy f j
   unfold Za9 at e;split at e
   ·split at e
    ·rename_i c
     cases e;exact⟨_,_,_,_,k,j,c,rfl,rfl⟩
    ·exact Zb e
   ·exact Zb e
  ·exact Zb e
 ·exact Zb e
theorem UU{a b:Int}(h:XY a b 1=true):Builtin.Range.rangeSize a b 1=((Yj a b 1:Nat):Int)/\Builtin.Range.small a b 1=true/\((Yj a b 1:Nat):Int)=if a < b then b - a else 0:=by
 have h:=of_decide_eq_true h;obtain⟨⟨g,f⟩,⟨e,d⟩,c⟩:=h;unfold Yj Builtin.Range.small Builtin.Range.rangeSize;simp only[Builtin.Range.rangeFitsLong,bA7,bT,bA,beq_iff_eq,gt_iff_lt,Int.neg_neg,dE];refine⟨?_,?_,?_⟩
 ·split
  ·split<;>omega
  ·split<;>omega
 ·refine⟨⟨by omega,?_⟩,.inr ?_⟩
  ·constructor
   ·repeat' split
    all_goals omega
   ·repeat' split
    all_goals omega
  ·simp
   omega
 ·split
  ·split<;>omega
  ·omega
theorem XO{a:Int}:∀ {m k:Nat}{b:Li vL},b.length=m->(∀ (i:Nat) v,b[i]?=some v->∃ t,v=.int (a+((k+i:Nat):Int) * 1) t)->Vals ((List.range' k m).map λ(k:Nat)=>V.int (a+(k:Int) * 1)) b
 |0,k,b,c,h=>by
  cases b with
  |nil=>exact .nil
  |cons _ _=>cases c
 |m+1,k,b,c,h=>by
  cases b with
  |nil=>cases c
  |cons u b=>
   obtain⟨t,rfl⟩:=h 0 u rfl;refine .cons ⟨t,rfl⟩ (XO (k:=k+1) (Nat.succ.inj c) λi v e=>?_)
   obtain⟨t,q⟩:=h (i+1) v e;exact⟨t,by rw[q,show k+1+i=k+(i+1) by omega]⟩
theorem XN{K:fG7}{ad:Li Ad}{H:Hp}{a:Int}:∀ l:Li Nat,Dens K ad H (l.map λ(k:Nat)=>V.int (a+(k:Int) * 1)) ((l.map λ(k:Nat)=>a+(k:Int) * 1).map D.int)
 |[]=>.nil
 |k :: l=>.cons (.int _) (XN l)
theorem ZdJ{p:Expr×Expr}(h:Zhm as=some p):as=[p.1,p.2]:=by
 cases as with
 |nil=>exact Zb h
 |cons x as=>cases as with
  |nil=>exact Zb h
  |cons y as=>cases as with
   |nil=>cases h;rfl
   |cons _ _=>exact Zb h
theorem Zdo{f:Str}{a u v:Expr}{x y:CE}{p:Pos}(K:Cxt X G F sc N)(hg:ZB sc f=true)(hm:X.mg f=none)(o:Vj G sc f a=some (u,v))(hu:Zg u=true)(D:Zg v=true)(A:PE X u (tE X.K (ev F x)))(B:PE X v (tE X.K (ev F y))):PE X (.Call (.Name f p) [a] [] pos) (tE X.K (ev F (.lstR x y))):=by
 unfold Vj at o;split at o
 ·rename_i m
  subst m;obtain⟨as,h1,h2⟩:=dA.mp o;obtain⟨T,c,rfl,J,E⟩:=W9 K h1;cases ZdJ h2
  ·intro pQ s O H Q I h
   obtain⟨ad,U,st,d,st',En,S,e1,pq⟩:=h;obtain⟨a,b,j,q,q1,q2,Y,rfl,rfl⟩:=UN e1;obtain⟨z1,z2,z3⟩:=UU Y.1;have W:starEach [.Call (.Name "range" T) [u,v] [] c] X.env=[(false,eval (.Call (.Name "range" T) [u,v] [] c) X.env)]:=Zd rfl;refine Call_ (ld_blt I (K.glb _ hg) hm Qk (PyProof.Rows.callWith_type1 ?_ W rfl));rw[W];refine Calls.spliced_cons (UW J E hu D A B I ⟨ad,U,st,_,j,En,S,q1,λv1 M H1 R S1 d1=>⟨M,U,j,_,q,En.mono R,S1,q2,λv2 L H2 x2 Z d2=>⟨a,b,by rw[d1.ofInt,d2.ofInt],λC r t u w P hr=>?_⟩⟩⟩)
   refine Calls.spliced_nil ?_;have hz:Yj a b 1<=1000:=by
    have:=Y.2;split at z3<;>omega
   refine call_list_range (n:=Yj a b 1) (P.ok.hd K.calm) hr z2 z1 (by omega) λh' tk l c' hk hS g=>?_
   have D:Vals ((List.range (Yj a b 1)).map λ(k:Nat)=>V.int (a+(k:Int) * 1)) l.toList:=by
    rw[dB];refine XO (by rw[cI,g.1]) λi v e=>?_
    obtain⟨t,z⟩:=g.2 i v (by rw[<-e];simp)
    exact⟨t,by rw[z];simp⟩
   have m:=P.hok.fresh (aD _);refine⟨.ref C.heap.objs.size,upd H2 C.heap.objs.size (.lst ((List.range (Yj a b 1)).map λ(k:Nat)=>V.int (a+(k:Int) * 1))),P.laid (t':=tk) hk (aD _) (show ObjOk X.prog X.w _ _ _ (.lst _) from⟨?_,l.toList,c',D,?_⟩),rfl,pq _ (L++[C.heap.objs.size]) _ ((R.trans x2).trans (Ext.push m)) (Z.push m (XN _)) (.newL ?_)⟩
   ·rw[aB,bR,sizeLine_eq];omega
   ·rw[Array.toArray_toList]
    exact hS
   ·rw[<-Z.len]
    exact Zs
 ·exact Zb o
theorem Zdn{a b:Expr}{y:CE}(K:Cxt X G F sc N)(c:QG G sc a=some (ks,ds))(g:Zg b=true)(B:PE X b (tE X.K (ev F y))):PE X (.Subscript a b pos) (tE X.K (ev F (.look ks ds y))):=by
 unfold QG at c;split at c
 ·split at c
  ·rename_i d
   split at c
   ·rename_i q
    cases c;obtain⟨A,o,es,k,h,lk,ex,i,f,e,j⟩:=K.gl _ _ q;exact Zl (pe_ix (ZgK lk ex i f e j) (pe_glob (K.glb _ d) h (show RelV (.ref A) (.ref A) from rfl) (YL d)) B (V4 g)) ZaJ
   ·exact Zb c
  ·exact Zb c
 ·exact Zb c
def Zhb:V->Li V->Hp->VK->Prop:=λx vs H Q=>∃ p kvs k a,x=.ref p/\vs=[kV k,a]/\H p=some (.dK kvs)/\Q ((valV kvs k).getD a) H
theorem Zff:MtM X "dict.get" Zhb:=by
 intro pQ s O H x vs v r Q I g rv h;obtain⟨p,kvs,k,n,rfl,rfl,l,q⟩:=h;cases g;obtain⟨t,f,rfl,j,i⟩:=rv.two;obtain⟨o,m,e,d,dd⟩:=dk_of I.hok l;refine call_meetsIn PySem.F.slot_dict_get dd.typeIs PySem.F.entry_dict_get (PySem.F.args_dict_get_3 _ _ _) (meets_dict_get_default (mixKind X.prog X.w) p (kV_is j) m f) ⟨_,dd.mapOf,?_⟩;have a:=d.val k;cases b:valV kvs k with
 |none=>
  cases c:valueAt e k with
  |none=>rw[b]at q;exact⟨n,H,I.tok _,i,q⟩
  |some w=>rw[b,c]at a;exact a.elim
 |some z=>
  cases c:valueAt e k with
  |none=>rw[b,c]at a;exact a.elim
  |some w=>rw[b]at q;rw[b,c]at a;exact⟨z,H,I.tok _,a,q⟩
theorem Zaz{t fd:Ev}(O:L2.St)(H:Hp)(Q:VK)(h:tE X.K (YC fa t fd getD) O H Q):tBM X.K "dict" Zhb (tE X.K fa) (tCons (tE X.K t) (tCons (tE X.K fd) tNil)) O H Q:=by
 obtain⟨ad,U,st,d,st',E,S,e,p⟩:=h;unfold YC at e;split at e
 ·rename_i x c J
  split at e
  ·rename_i y b I
   split at e
   ·rename_i z D G
    unfold getD at e;split at e
    ·rename_i ks vs k
     cases e;refine⟨ad,U,st,_,c,E,S,J,λv1 s H1 j W v=>?_⟩
     obtain⟨a,Y,rfl,L,hl,F⟩:=v.ofDct;refine⟨.inr (.inr (.inl ⟨rfl,.inl ⟨_,L⟩⟩)),s,U,c,_,b,E.mono j,W,I,λZ r H2 i V T=>⟨r,U,b,_,_,E.mono (j.trans i),V,G,λC f A g w R=>?_⟩⟩
     obtain⟨a',B,N,n,m,l⟩:=(v.mono (i.trans g)).ofDct;cases N;have M:=(T.mono g).ofStr;refine⟨a,_,Sum.inr k,C,rfl,by rw[M];rfl,n,?_⟩
     rcases Xq (k:=k) l m with⟨u,d0,q,o,P⟩|⟨q,o⟩
     ·rw[q]
      rw[o]at p;exact p _ f A (j.trans (i.trans g)) w P
     ·rw[q]
      rw[o]at p;exact p _ f A (j.trans (i.trans g)) w R
    ·exact Zb e
   ·exact Zb e
  ·exact Zb e
 ·exact Zb e
theorem Zdm{ks:Li (Ot Expr)}{vs:Li Expr}{a b:Expr}{x y z:CE}{f:Pos}(K:Cxt X G F sc N)(c:(ap.endLine==cp.line)=true)(e:Zg a=true)(d:Zg b=true)(D:PE X (.Dict ks vs f) (tE X.K (ev F x)))(A:PE X a (tE X.K (ev F y)))(B:PE X b (tE X.K (ev F z))) :
  PE X (.Call (.Attribute (.Dict ks vs f) "get" ap) [a,b] [] cp) (tE X.K (ev F (.dget x y z))):=by
 refine Zl (pe_bm PySem.F.plainAttrs_dict PySem.F.slot_dict_get PySem.F.type_dict_get Zff D (pa2 e d A B) rfl ?_ c (Zd e) (JY d)) Zaz;rw[Zd e,Zd d];rfl
theorem ZfJ{u:Str}{a b:Expr}{x y z:CE}{up:Pos}(K:Cxt X G F sc N)(c:(ap.endLine==cp.line)=true)(e:Zg a=true)(d:Zg b=true)(D:PE X (.Name u up) (tE X.K (ev F x)))(A:PE X a (tE X.K (ev F y)))(B:PE X b (tE X.K (ev F z))) :
  PE X (.Call (.Attribute (.Name u up) "get" ap) [a,b] [] cp) (tE X.K (ev F (.dgN x y z))):=by
 refine Zl (pe_bm PySem.F.plainAttrs_dict PySem.F.slot_dict_get PySem.F.type_dict_get (QK (by have:=K.hu;omega)) D (pa2 e d A B) rfl ?_ c (Zd e) (JY d)) ZcK
 rw[Zd e,Zd d];rfl
theorem ZfI{u:Str}{a:Expr}{x y:CE}{up:Pos}(K:Cxt X G F sc N)(b:(ap.endLine==cp.line)=true)(d:Zg a=true)(D:PE X (.Name u up) (tE X.K (ev F x)))(A:PE X a (tE X.K (ev F y))) :
  PE X (.Call (.Attribute (.Name u up) "get" ap) [a] [] cp) (tE X.K (ev F (.dgN x y (.c .non)))):=
 Zl (pe_bm PySem.F.plainAttrs_dict PySem.F.slot_dict_get PySem.F.type_dict_get (QK (by have:=K.hu;omega)) D (pa1 d A) rfl (by rw[Zd d];rfl) b (Zd d) rfl) ZcJ
theorem Zhg{p:Expr×Expr}{x y z:CE}(K:Cxt X G F sc N)(d:∀ e c,cE G n sc N e=some c->PE X e (tE X.K (ev F c)))(a:QQ keys=some p)(h:cE G n sc N p.1=some x)(g:cE G n sc N p.2=some y)(f:(Zc7 vals).bind (cE G n sc N)=some z)(j:Zg p.1=true)(i:Zg p.2=true) :
  PE X (.Dict keys vals pos) (tE X.K (ev F (.dd x y z))):=by
 obtain⟨e,b,k⟩:=dA.mp f;obtain rfl:vals=[e]:=by
  unfold Zc7 at b;split at b
  ·cases b;rfl
  ·exact Zb b
 unfold QQ at a;split at a
 ·unfold WS at a
  split at a
  ·obtain rfl:=Option.some.inj a
   exact Zl (ZgT (by have:=K.hu;omega) (pe_tup (pa2 j i (d _ x h) (d _ y g))) (d e z k)) ZeX
  ·exact Zb a
 ·exact Zb a
theorem Zbb{K:fG7}{C:Ad}{s:sH7}{R:Result->sH7->Prop}(X:K.In s.heap)(k:W.makesIn K C=true)(l:W.findIn K (.ref C) "__init__"=some (some (.builtin "object.__init__")))(h:R (.ok (.ret (.ref (s.heap.objs.size+1)))) { s with heap:=(s.heap.push W.emptyDict).push (W.instObj C s.heap.objs.size) }):codeAny (model prog w) A (.call (.ref C) ⟨[],[]⟩) R s:=by
 obtain⟨a,g,d,t,m⟩:=s;have Y:=W.makes_of (M:=model prog w) X k;have j:((a.push W.emptyDict).push (W.instObj C a.objs.size)).get? (a.objs.size+1)=some (W.instObj C a.objs.size):=by
  have:=aX (a.push W.emptyDict) (o:=W.instObj C a.objs.size) rfl
  rwa [Heap.size_push]at this
 refine W.make_core Y (W.looks_findIn X l) (λc=>W.Looks.of_pure (W.oi_bind c)) (.inr ⟨rfl,rfl⟩) ?_
 have i:W.Looks (model prog w) ((a.push W.emptyDict).push (W.instObj C a.objs.size)) (typeOf (.ref (a.objs.size+1))) (.ref C):=(W.Looks.ld j).andThen .now;have f:W.Looks (model prog w) ((a.push W.emptyDict).push (W.instObj C a.objs.size)) (isInstance (.ref (a.objs.size+1)) (.type "object")) true:=i.andThen (Y.top.keeps λb o e=>aK _ (aK _ e))
 refine codeAny_call_builtin W.oi_plain W.entry_oi (@W.check_slot (model prog w) _ _ _ "object.__init__" "object" "__init__" (.ref (a.objs.size+1)) [] [] _ W.oi_kind W.oi_split f (W.oi_args (.ref (a.objs.size+1))) ?_);rw[W.oi_run];exact aE (And.intro rfl h)
theorem Zas{s:sH7}(I:L2.Inv X pQ O H s)(S:StOk X.K ad H st){a:Ad}(h:s.heap.objs.size<=a):a∉ad:=λb=>by
 obtain⟨i,c⟩:=List.getElem?_of_mem b;rcases S.has c with⟨o,q⟩|⟨o,q⟩
 ·rw[I.hok.fresh h]at q;cases q
 ·exact absurd (aJ (I.kIn a o q)) (Nat.not_lt.mpr h)
theorem ZfN{f:Str}{p:Pos}(K:Cxt X G F sc N)(b:ZB sc f=true)(k:G.lookup f=some (.cls i ms subs)):PE X (.Call (.Name f p) [] [] pos) (tE X.K (ev F (.new i))):=by
 obtain⟨j,a,_,_⟩:=K.gl f _ k;intro pQ s O H Q I h;obtain⟨ad,U,st,d,st',E,S,e,q⟩:=h;have e:some (D.obj i,st)=some (d,st'):=e;cases e;refine wpAny_Call_Name_kw (ld_glob I (K.glb f b) j ?_ (YL b));refine W.callWith_K0 I.kIn a.kp (wpAny_call (Zbb I.kIn a.makes a.init ?_));have g:H s.heap.objs.size=none:=I.hok.fresh (aD _);have c:upd H s.heap.objs.size (.own (s.heap.objs.size+1)) (s.heap.objs.size+1)=none:=by
  rw[upd_ne (Nat.ne_of_gt (dS _))];exact I.hok.fresh (Nat.le_succ _)
 exact⟨.ref (s.heap.objs.size+1),_,I.made,rfl,q _ ad _ ((Ext.laid g).trans (Ext.laid c)) ((S.laid g).laid c) (.obj upd_same (Zas I S (Nat.le_succ _)))⟩
theorem ZfL{a b:Expr}{x:CE}{l:Li Nat}{p:Pos}(K:Cxt X G F sc N)(f:ZB sc "isinstance"=true)(e:X.mg "isinstance"=none)(d:Zg a=true)(A:PE X a (tE X.K (ev F x)))(c:Uz G sc b=some l) :
  PE X (.Call (.Name "isinstance" p) [a,b] [] pos) (tE X.K (ev F (.isc l x))):=by cases c
theorem ZgN{α:Type}:∀ {us:Li α},us.length=1->∃ a,us=[a]
 |[a],_=>⟨a,rfl⟩
theorem WN(h:as.all Zg=true)(d:as.length < 20):((backTo pos (starEach as env)).all (λx=>!x.1)&&(backToKw pos (keywordEach [] env)).all (λx=>x.1.isSome)
  &&decide (as.length+([]:Li Keyword).length+(if ([]:Li Keyword).isEmpty then 0 else 1) < 30))=true:=by
 have a:=Yn (pos:=pos) (env:=env) h;have b:(backTo pos (starEach as env)).all (λx=>!x.1)=true:=by
  rw[cR];intro x c;have:=List.any_eq_false.mp a x c;simpa using this
 rw[b,aL (show as.length+([]:Li Keyword).length+(if ([]:Li Keyword).isEmpty then 0 else 1) < 30 by simp;omega)]
 rfl
theorem Zc5{o:Expr}{a:Str}{b:Pos}{args:Li Expr}{Q:vL->sH7->Prop}{s:sH7}(i:attributeBase o a X.env (eval o X.env)=eval o X.env)(m:((backTo pos (starEach args X.env)).all (λx=>!x.1)&&(backToKw pos (keywordEach [] X.env)).all (λx=>x.1.isSome)&&decide (args.length+([]:Li Keyword).length+(if ([]:Li Keyword).isEmpty then 0 else 1) < 30))=true)(f:(b.endLine==pos.line)=true)(h:wpAny (model X.prog X.w) X.A (eval o X.env) (λp d=>∀ q,wpAny (model X.prog X.w) X.A (getMethod p a q) (λn c=>wpAny (model X.prog X.w) X.A (callWith pos n.1 n.2 (backTo pos (starEach args X.env)) (backToKw pos (keywordEach [] X.env))) Q X.xe c) X.xe d) X.xe s) :
  wpAny (model X.prog X.w) X.A (eval (.Call (.Attribute o a b) args [] pos) X.env) Q X.xe s:=by
 rw[arm_eval_Call,i];refine aA (bG h (λp d k=>?_) λ_ _ e=>e)
 refine aA (wpAny_standAt ?_);have g:methodCallForm (args.length+([]:Li Keyword).length) (backTo pos (starEach args X.env)) (backToKw pos (keywordEach [] X.env))=true:=m;have l:methodCallPos true o X.env b pos=pure pos:=by unfold methodCallPos;simp[f]
 unfold methodCall;rw[g];refine aA (wpAny_holding ?_);exact bG (k _) (λn c j=>aA (wpAny_of_eq l j)) λ_ _ e=>e
theorem Zf4{k:Nat}(h:(YY m k G).lookup i=some j):∃ x ms subs,G.lookup x=some (.cls i ms subs)/\ms.lookup m=some (j,k+1):=by
 have g:(i,j)∈YY m k G:=by
  generalize YY m k G=l at h
  induction l with
  |nil=>exact Zb h
  |cons p l f=>
   obtain⟨a,b⟩:=p;rw[bZ]at h;split at h
   ·rename_i z
    cases h;rw[beq_iff_eq.mp z];exact lQ7
   ·exact lM7 _ (f h)
 obtain⟨x,_,c⟩:=List.mem_filterMap.mp g;unfold Zd7 at c;split at c
 ·rename_i r ms subs q
  split at c
  ·rename_i o n d
   split at c
   ·rename_i e
    subst e;cases c;exact⟨x,ms,subs,q,d⟩
   ·exact Zb c
  ·exact Zb c
 ·exact Zb c
section
open PySem.SeqAt PySem.MeetsSeq PySem.MeetsSeq2 PySem.MeetsSeq3 PySem.SeqRoads2
theorem VT{prog:Program}{w:World}{A:Around}{E:vL->sH7->Prop}{s:sH7}{a:Array vL}{x:vL}{e:vL->Bool}{j:Nat}(l:j < a.size)(d:e a[j]=true)(c:∀ m (p:m < a.size),m < j->e a[m]=false)(g:∀ y,y∈a->EqAt A s y x (e y)):∀ (k i:Nat) (Q:Ot Fin×Unit->sH7->Prop),i<=j->i+k=a.size->Q (some (.done (.ret (.int j s.toks))),()) { s with toks:=s.toks+1 }->
  wpAny (model prog w) A (forIn (List.range' i k) ((none,()):Ot Fin×Unit) λ(i:Nat) __s=>
      match a[i]? with
      |some y=>do
       let __do_lift <-eqBool y x
       if __do_lift=true then do
         let __do_lift <-retInt (i:Int)
         pure (ForInStep.done (some __do_lift,()))
        else pure (ForInStep.yield (none,()))
      |x=>pure (ForInStep.yield (none,()))) Q E s
 |0,i,Q,o,n,_=>by omega
 |k+1,i,Q,o,n,h=>by
  have b:i < a.size:=by omega
  rw[dC,cZ];refine aA ?_;rw[eH b];refine aA (g _ (Array.getElem_mem b) prog w _ _ ?_);by_cases f:i=j
  ·subst f
   rw[d]
   wp_walk
   exact h
  ·rw[c i b (by omega)]
   wp_walk
   exact VT l d c g k (i+1) Q (by omega) (by omega) h
theorem WE(l:Ad)(a:Array vL)(n:Nat)(o:Obj)(x:vL)(e:vL->Bool)(j:Nat)(k:j < a.size)(c:e a[j]=true)(b:∀ m (v:m < a.size),m < j->e a[m]=false)(hd:o.data=.seq a n) :
  Meets (Builtin.«tuple.index» ⟨[.ref l,x],[]⟩)
   (λA R s=>s.heap.get? l=some o/\(∀ y,y∈a->EqAt A.in1 s y x (e y))/\R (.ok (.ret (.int j s.toks))) { s with toks:=s.toks+1 }):=by
 refine .of_wp λprog w A R s h=>?_
 obtain⟨u,g,d,q,r⟩:=s;obtain⟨i,p,h⟩:=h;obtain⟨oc,t,z,f⟩:=o;cases hd;unfold Builtin.«tuple.index»
 simp only[Std.Legacy.Range.forIn_eq_forIn_range',Std.Legacy.Range.size,Nat.sub_zero,Nat.add_sub_cancel,Nat.div_one]
 wp_walk using wpAny_loadPart' i
 refine VT k c b p (min a.size a.size - 0) 0 _ (aM _) (by simp) ?_
 exact aE ⟨_,rfl,h⟩
end
theorem Zau{k:Str}{tk:Tok}{i:Nat}:∀ {ks:Li Str}{b:Li vL},Vals (ks.map V.str) b->Zat k ks=some i->∃ h:i < b.length,(λy:vL=>match y with
   |.str a _=>a==k
   |_=>false) b[i]=true/\∀ m (c:m < b.length),m < i->(λy:vL=>match y with
   |.str a _=>a==k
   |_=>false) b[m]=false:=by
 intro ks
 induction ks generalizing i with
 |nil=>intro b _ h;cases h
 |cons a ks l=>
  intro b r h;cases r with
  |@cons v u vs f j g=>
   obtain⟨t,rfl⟩:=j;have h:(if a=k then some 0 else (Zat k ks).map (·+1))=some i:=h
   split at h
   ·rename_i e
    cases h;refine⟨by simp,by simpa using e,λm _ c=>absurd c (Nat.not_lt_zero m)⟩
   ·rename_i e
    cases q:Zat k ks with
    |none=>rw[q]at h;cases h
    |some n=>
     rw[q]at h;cases h;obtain⟨s,p,o⟩:=l g q;refine⟨by simpa using s,by simpa using p,λm c d=>?_⟩
     cases m with
     |zero=>simpa using e
     |succ m=>
      have d:m+1 < n+1:=d;simpa using o m (by simpa using c) (by omega)
theorem JX{b:Li vL}(r:Vals (ks.map V.str) b):∀ y∈b,∃ a t,y=.str a t:=by
 induction ks generalizing b with
 |nil=>cases r;intro y hy;exact nomatch hy
 |cons a ks f=>
  cases r with
  |@cons v u vs c e d=>
   intro y hy;rcases aF.mp hy with rfl|hy
   ·obtain⟨t,rfl⟩:=e;exact⟨a,t,rfl⟩
   ·exact f d y hy
theorem ZfP{y:Str}{x:CE}(K:Cxt X G F sc N)(l:(ap.endLine==cp.line)=true)(C:as.length=1)(B:PE X (.Name y yp) (tE X.K (ev F x)))(A:PA X as (tA X.K (ev F cs))/\Uj cs/\as.all Zg=true/\(as=[]->cs=.aN)):PE X (.Call (.Attribute (.Name y yp) "index" ap) as [] cp) (tE X.K (ev F (.tix x cs))):=by
 obtain⟨PAs,_,P,_⟩:=A;obtain⟨e0,rfl⟩:=ZgN C;intro pQ s O H Q I h;obtain⟨ad,U,st,d,st',E,S,e,p⟩:=h;replace e:ZQ (ev F x) (ev F cs) Zf5 U st=some (d,st'):=e;unfold ZQ at e;split at e
 ·rename_i dx g q1
  split at e
  ·rename_i dy st2 q2
   unfold Zf5 at e;split at e
   ·rename_i ks k
    split at e
    ·rename_i i hi
     cases e;rw[bC,bA7]at P;refine wpAny_Call_method_late rfl (WN (by rw[bC,P.1];rfl) (by simp)) l rfl (thn (B pQ s O H (λv r=>∃ c,Ext ad H c r/\StOk X.K c r g/\Den X.K c r v (.kt ks)) I ⟨ad,U,st,.kt ks,g,E,S,q1,λv c r J S1 Y=>⟨c,J,S1,Y⟩⟩) λu s1 ⟨v,r,I1,rv,c,J,S1,Y⟩=>?_)
     obtain⟨a,o,j,n,rfl,h1,V,h3,h4,h5⟩:=Y.ofKt;cases (show u=Value.ref a from rv)
     have ga:s1.heap.get? a=some o:=I1.kIn a o h1;refine⟨"tuple", "tuple.index",PySem.F.plainAttrs_tuple,PySem.F.slot_tuple_index,PySem.F.type_tuple_index,⟨o,ga,V.1⟩,λb eb=>by cases eb;exact⟨o,ga,V.2⟩,?_⟩
     have hA:=PAs cp pQ s1 O r (λvs q=>∃ f,Ext c r f q/\StOk X.K f q st'/\Dens X.K f q vs [.str k]) I1 ⟨c,U,g,[.str k],st',E.mono J,S1,q2,λvs f q L Z W=>⟨f,L,Z,W⟩⟩
     rw[Zd P.1]at hA ⊢;refine Calls.callWith_builtin rfl (Calls.evalArgs_plain (thn hA λus s2 ⟨vs,q,I2,r2,f,L,Z,W⟩=>?_))
     obtain⟨w,rfl,dw⟩:=X9 W;cases dw;obtain⟨u1,rfl,M,rfl⟩:=r2.one;have D:s2.heap.get? a=some o:=I2.kIn a o h1;obtain⟨hj,T,R⟩:=Zau (k:=k) (tk:=M) h5 hi;have sz:j.toList.length=j.size:=cI;refine call_meets PySem.F.slot_tuple_index ⟨o,D,V.1⟩ PySem.F.entry_tuple_index (PySem.F.args_tuple_index_2 _ _) (WE a j n o (.str k M) (λy:vL=>match y with
      |.str a _=>a==k
      |_=>false) i (by rw[<-sz];exact hj) (by simpa using T) (λm hm hl=>by
      have z:=R m (by rw[sz];exact hm) hl
      simp only[Array.getElem_toList]at z;exact z) h3) ⟨D,λy hy=>?_,?_⟩
     ·obtain⟨b,t,rfl⟩:=JX h5 y (by simpa using hy)
      exact PySem.SeqAt.EqAt.str_str b t k M
     ·exact⟨.int (i:Int),q,I2.tok _,⟨_,rfl⟩,p.later (J.trans L) _ f q (Ext.refl _ _) Z (.int _)⟩
    ·exact Zb e
   ·exact Zb e
  ·exact Zb e
 ·exact Zb e
theorem Zdp{y:Str}{x:CE}(K:Cxt X G F sc N)(o:(ap.endLine==cp.line)=true)(z:as.length < 20)(B:PE X (.Name y yp) (tE X.K (ev F x)))(A:PA X as (tA X.K (ev F cs))/\Uj cs/\as.all Zg=true/\(as=[]->cs=.aN)):PE X (.Call (.Attribute (.Name y yp) m ap) as [] cp) (tE X.K (ev F (.meth (YY m as.length G) x cs))):=by
 obtain⟨PAs,_,P,hn⟩:=A;intro pQ s O H Q I h;obtain⟨ad,U,st,d,st',E,S,e,p⟩:=h;replace e:ZQ (ev F x) (ev F cs) (Zbd F (YY m as.length G)) U st=some (d,st'):=e;unfold ZQ at e;split at e
 ·rename_i dx g q1
  split at e
  ·rename_i dy l M
   unfold Zbd at e;split at e
   ·rename_i i J
    split at e
    ·rename_i j hj
     obtain⟨cx,ms,subs,hG,hl⟩:=Zf4 hj;obtain⟨_,nw,_,V⟩:=K.gl cx _ hG;obtain⟨k,f,fd,pn,Fk,hr,n,hb⟩:=V m j _ hl;refine Zc5 rfl (WN P z) o (thn (B pQ s O H (λv q=>∃ b,Ext ad H b q/\StOk X.K b q g/\Den X.K b q v (.obj i)) I ⟨ad,U,st,.obj i,g,E,S,q1,λv b q w R C=>⟨b,w,R,C⟩⟩) λu s1 ⟨v,q,T,rv,b,w,R,C⟩ pl=>?_)
     obtain⟨a,dx,rfl,ha⟩:=C.ofObj;cases (show u=Value.ref a from rv)
     refine getmeth_ok T ha nw.cl n rfl ?_;cases as with
     |nil=>
      have hc:=hn rfl;subst hc;have M:some (D.tup [],g)=some (.tup J,l):=M;cases M;exact W.callWith_K0 (first:=[.ref a]) T.kIn n.kp (run_fn (us:=[.ref a]) (vs:=[.ref a]) (E:=E0) Fk hr hb .nil pass0 T (.cons rfl .nil) ⟨b,[.obj i],g,d,st',R,.cons C .nil,e,p.later w⟩)
     |cons e0 es=>
      rw[bC,bA7]at P;refine W.callWith_K (first:=[.ref a]) (h₀:=X.base) I.ok.mod.kin n.kp (thn (PAs cp pQ s1 O q _ T ⟨b,U,g,J,l,E.mono w,R,M,λvs c t L Z Y=>(show(λvs t=>∃ c,Ext b q c t/\StOk X.K c t l/\Dens X.K c t vs J) vs t from⟨c,L,Z,Y⟩)⟩) λus s2 ⟨vs,t,I2,r,c,L,Z,Y⟩=>⟨I2.kIn,?_⟩) (Zd P.1) (Yn P.2)
      refine run_fn (us:=.ref a :: us) (vs:=.ref a :: vs) (E:=E0) Fk hr hb .nil pass0 I2 (.cons rfl r) ?_;rw[bH];exact⟨c,.obj i :: J,l,d,st',Z,.cons (C.mono L) Y,e,p.later (w.trans L)⟩
    ·exact Zb e
   ·exact Zb e
  ·exact Zb e
 ·exact Zb e
theorem U0{b:Expr}{p:Ot Expr×Ot Expr}(q:XZ b=some p):∃ a,b=.Slice p.1 p.2 none a:=by
 unfold XZ at q;split at q
 ·cases q;exact⟨_,rfl⟩
 ·exact Zb q
theorem Zhh{op:UnaryOp}{a:Expr}{o:Ot CE}{c:CE}(A:∀ x,o=some x->SE X F a x)(h:unC op o=some c):SE X F (.UnaryOp op a pos) c:=by
 cases op with
 |Not=>exact Wn (P:=SE X F _) (show o.map CE.not=some c from h) λx b=>⟨Zl (pe_not (A x b).pe) ZaL,Wr (pt_not (A x b).pt) ZaK⟩
 |USub=>exact Wn (P:=SE X F _) (show o.map CE.neg=some c from h) λx b=>.of (Zl (pe_un ZdL (A x b).pe) ZaP)
 |Invert=>exact Wn (P:=SE X F _) (show o.map CE.inv=some c from h) λx b=>.of (Zl (pe_un ZdK (A x b).pe) ZaP)
 |_=>exact Zb h
section
variable {X:Cx}{sc:Scope}{N:Li Str}{n:Nat}{c:CE} (K:Cxt X G F sc N) (hf:∀ e c,cE G n sc N e=some c->SE X F e c)
include K hf
theorem ZfH{a:Expr}{d:Li CmpOp}{bs:Li Expr}(h:Zgw G sc (cE G n sc N) (cE G n sc N a) d bs=some c):SE X F (.Compare a d bs pos) c:=by
 cases d with
 |nil=>exact Zb h
 |cons op d=>cases bs with
  |nil=>cases d with
   |nil=>exact Zb h
   |cons _ r=>cases r<;>cases h
  |cons b bs=>cases d with
   |nil=>cases bs with
    |cons _ _=>exact Zb h
    |nil=>
     replace h:(match ZM G sc b with
      |some e=>o3 CE.inR (ZeZ op) (cE G n sc N a) (cE G n sc N e)
      |none=>o2 (CE.cmp op) (cE G n sc N a) (cE G n sc N b))=some c:=h
     cases i:ZM G sc b with
     |some e=>
      rw[i]at h;exact YZ (P:=SE X F _) h λl x y k g f=>ZfK K i k (Ze f) (hf a x g).pe (hf e y f).pe
     |none=>
      rw[i]at h;exact ZO (P:=SE X F _) h λx y g f=>⟨Zl (pe_cmpR (QP K.hu) (hf a x g).pe (hf b y f).pe (XJ (Ze f))) Vc,Wr (pt_cmpR (QP K.hu) (hf a x g).pe (hf b y f).pe (XJ (Ze f))) λO H Q q=>Vc O H _ (ZaO O H Q q)⟩
   |cons j d=>exact Zb h
omit K in
theorem Zdk{op:BoolOp}{vs:Li Expr}{pos:Pos}(h:ZdT (cE G n sc N) op pos vs=some c):SE X F (.BoolOp op vs pos) c:=by
 cases vs with
 |nil=>exact Zb h
 |cons a r=>cases r with
  |nil=>
   have A:=hf a c h;refine⟨pe_one A.pe,?_⟩;cases op with
   |And=>exact(pw_and1 A.pt).pt
   |Or=>exact(pw_or1 A.pt).pt
  |cons b r=>cases op with
   |And=>exact ZO (P:=SE X F _) (show o2 CE.and (cE G n sc N a) (cE G n sc N (.BoolOp .And (b :: r) pos))=some c from h) λx y e d=>⟨Zl (pe_and (hf a x e).pe (hf _ y d).pe) Zaw,Wr (pw_and (hf a x e).pt (Ub (hf _ y d).pt)).pt Zav⟩
   |Or=>exact ZO (P:=SE X F _) (show o2 CE.or (cE G n sc N a) (cE G n sc N (.BoolOp .Or (b :: r) pos))=some c from h) λx y e d=>⟨Zl (pe_or (hf a x e).pe (hf _ y d).pe) ZcQ,Wr (pw_or (hf a x e).pt (Ub (hf _ y d).pt)).pt ZcP⟩
theorem ZfO(d:W2 G F n){a b:Expr}(h:Zf3 G sc (cE G n sc N) (cO G n sc N) a b=some c):SE X F (.Subscript a b pos) c:=by
 unfold Zf3 at h;cases q:XZ b with
 |some p=>
  obtain⟨j,o⟩:=p;rw[q]at h;obtain⟨r,rfl⟩:=U0 q;exact YZ (P:=SE X F _) h λx l u f m k=>.of (Zl (pe_slice ZiQ (hf a x f).pe (d X sc N K j l m) (d X sc N K o u k)) Jy)
 |none=>
  rw[q]at h;dsimp only at h;cases i:Zeg b with
  |some s=>
   cases i
  |none=>
   rw[i]at h;dsimp only at h;cases g:QG G sc a with
   |some p=>
    obtain⟨ks,ds⟩:=p;rw[g]at h;exact Wn (P:=SE X F _) h λy e=>.of (Zdn K g (Ze e) (hf b y e).pe)
   |none=>
    rw[g]at h;exact ZO (P:=SE X F _) h λx y f e=>.of (Zl (pe_ix (ZhM K.hu) (hf a x f).pe (hf b y e).pe (V4 (Ze e))) Vc)
theorem ZbJ{f:Str}{a:Expr}{p:Pos}(i:ZB sc f=true)(d:X.mg f=none)(h:J7 G sc f a (cE G n sc N)=some c):SE X F (.Call (.Name f p) [a] [] pos) c:=by
 unfold J7 at h;cases j:U6 G sc f a with
 |some e=>
  rw[j]at h;exact ZfQ K i d j (λc l=>⟨Ze l,(hf e c l).pe⟩) h
 |none=>
  rw[j]at h;dsimp only at h;cases g:Vj G sc f a with
  |some q=>
   obtain⟨u,v⟩:=q;rw[g]at h;exact ZO (P:=SE X F _) h λx y b k=>.of (Zdo K i d g (Ze b) (Ze k) (hf u x b).pe (hf v y k).pe)
  |none=>
   rw[g]at h;exact j_e h λh=>Wn (P:=λo=>o=some c->SE X F _ c) h (λx b h=>.of (Zdi K i d (Ze b) (hf a x b).pe h)) rfl
theorem ZbK{f:Str}{a b:Expr}{p:Pos}(i:ZB sc f=true)(e:X.mg f=none)(h:J8 G sc f a b (cE G n sc N)=some c):SE X F (.Call (.Name f p) [a,b] [] pos) c:=by
 unfold J8 at h;by_cases k:f = "isinstance"
 ·subst k
  rw[if_pos rfl]at h;cases g:Uz G sc b with
  |some l=>
   rw[g]at h;exact Wn (P:=SE X F _) h λx q=>.of (ZfL K i e (Ze q) (hf a x q).pe g)
  |none=>
   rw[g]at h;exact ZO (P:=SE X F _) h λx T d m=>.of (ZfM K i e (Ze d) (hf a x d).pe m)
 ·rw[if_neg k]at h
  exact j_e h λh=>ZO (P:=λo=>o=some c->SE X F _ c) h (λx y d j h=>.of (Zdj K i e (Ze d) (Ze j) (hf a x d).pe (hf b y j).pe h)) rfl
theorem ZbL(j:Yh G F n){f:Str}{p:Pos}(h:Zab G sc f as (cEs G n sc N as) (cE G n sc N)=some c):SE X F (.Call (.Name f p) as [] pos) c:=by
 unfold Zab at h;cases d:ZB sc f with
 |false=>rw[d]at h;cases h
 |true=>
 rw[d,if_pos rfl]at h;cases e:G.lookup f with
 |none=>rw[e]at h;cases h
 |some g=>
  rw[e]at h;cases g with
  |fn i o ds=>exact Y0 h λm h=>Wn (P:=SE X F _) h λcs k=>.of (Zdl K d e m (j X sc N K as cs k))
  |blt=>
   have l:X.mg f=none:=K.gl f _ e;cases as with
   |nil=>exact Zb h
   |cons a as=>cases as with
    |nil=>exact ZbJ K hf d l h
    |cons b as=>cases as with
     |nil=>exact ZbK K hf d l h
     |cons _ _=>exact Zb h
  |cls i ms subs=>cases as with
   |cons _ _=>exact Zb h
   |nil=>cases h;exact .of (ZfN K d e)
  |_=>exact Zb h
theorem Zdh(j:Yh G F n){o:Expr}(h:ZdS G o m ap as pos (cEs G n sc N as) (cE G n sc N)=some c):SE X F (.Call (.Attribute o m ap) as [] pos) c:=by
 cases o with
 |Dict ks vs t=>cases as with
  |nil=>exact Zb h
  |cons a as=>cases as with
   |nil=>exact Zb h
   |cons b as=>cases as with
    |cons _ _=>exact Zb h
    |nil=>
     refine Y0 h λf h=>YZ (P:=SE X F _) h λx y z d q e=>?_
     obtain⟨rfl,g⟩:=f;exact .of (Zdm K g (Ze q) (Ze e) (hf _ x d).pe (hf a y q).pe (hf b z e).pe)
 |Name y yp=>
  refine Y0 h λf h=>?_
  by_cases k:m = "pop"
  ·subst k
   rw[if_pos rfl]at h;refine Y0 h λp h=>Wn (P:=SE X F _) h λx d=>?_
   cases as with
   |cons _ _=>exact nomatch p
   |nil=>exact .of (Zl (pe_bm0 PySem.F.plainAttrs_list PySem.F.slot_list_pop PySem.F.type_list_pop mt_pop (hf _ x d).pe rfl f.1) ZcR)
  ·rw[if_neg k]at h
   by_cases l:m = "get"
   ·subst l
    rw[if_pos rfl]at h;cases as with
    |nil=>exact Zb h
    |cons a as=>cases as with
     |nil=>exact ZO (P:=SE X F _) h λx z d e=>.of (ZfI K f.1 (Ze e) (hf _ x d).pe (hf a z e).pe)
     |cons b as=>cases as with
      |cons _ _=>exact Zb h
      |nil=>exact YZ (P:=SE X F _) h λx u z d r e=>.of (ZfJ K f.1 (Ze r) (Ze e) (hf _ x d).pe (hf a u r).pe (hf b z e).pe)
   ·rw[if_neg l]at h
    by_cases s:m = "index"
    ·subst s
     rw[if_pos rfl]at h;exact Y0 h λp h=>ZO (P:=SE X F _) h λx cs d i=>.of (ZfP K f.1 p (hf _ x d).pe (j X sc N K as cs i))
    ·rw[if_neg s]at h
     exact ZO (P:=SE X F _) h λx cs d i=>.of (Zdp K f.1 f.2 (hf _ x d).pe (j X sc N K as cs i))
 |_=>exact Zb h
end
theorem U2(H:Zp G F n)(j:Yh G F n)(E:W2 G F n)(u:∀ X sc N,Cxt X G F sc N->∀ o gens i pos c,cE G (n+1) sc N (.ListComp o gens i pos)=some c->SE X F (.ListComp o gens i pos) c):Zp G F (n+1):=by
 intro X sc N K e c h;have g:=H X sc N K;have no:∀ {P:Prop},(none:Ot CE)=some c->P:=λz=>nomatch z
 cases e with
 |Constant v k pos=>exact ZbM h
 |Name x pos=>exact Zdq K h
 |BinOp a op b pos=>exact ZO (P:=SE X F _) (show o2 (CE.bin op) (cE G n sc N a) (cE G n sc N b)=some c from h) λx y s r=>.of (Zl (pe_op Zc8 (g a x s).pe (g b y r).pe) Vc)
 |UnaryOp op a pos=>exact Zhh (g a) h
 |Compare a L bs pos=>exact ZfH K g h
 |BoolOp op vs pos=>exact Zdk g h
 |IfExp t a b pos=>exact YZ (P:=SE X F _) (show o3 CE.ife (cE G n sc N t) (cE G n sc N a) (cE G n sc N b)=some c from h) λz x y l s r=>⟨Zl (pe_ifExp (g t z l).pt (g a x s).pe (g b y r).pe) ZeY,Zfp (g t z l).pt (g a x s).pt (g b y r).pt⟩
 |Tuple es k pos=>
  refine Wn (P:=SE X F _) (show(cEs G n sc N es).map CE.tupE=some c from h) λx q=>?_
  obtain⟨A,C,_,_⟩:=j X sc N K es x q;exact .of (Zl (pe_tup A) (ZcV (λU st ds st' e=>by obtain⟨w,z,l⟩:=XS C e;cases z;exact l) λU st d st' e=>by obtain⟨w,z,l⟩:=XS C e;exact⟨w,z⟩))
 |List es pos=>
  refine Wn (P:=SE X F _) (show(cEs G n sc N es).map CE.lstE=some c from h) λx q=>?_
  obtain⟨A,C,_,_⟩:=j X sc N K es x q;exact .of (Zl (pe_lst A) (ZcN λU st ds st' e=>by obtain⟨w,z,l⟩:=XS C e;cases z;exact l))
 |Dict keys vals pos=>cases keys with
  |nil=>cases vals with
   |nil=>cases h;exact .of (Zl pe_dnewT ZaA)
   |cons _ _=>exact Zb h
  |cons B keys=>
   have h:(match QQ (B :: keys) with
    |some p=>o3 .dd (cE G n sc N p.1) (cE G n sc N p.2) ((Zc7 vals).bind (cE G n sc N))
    |none=>og ((B :: keys).length=vals.length/\(B :: keys)≠[]/\(B :: keys).length<=15) (o2 CE.dict (ZH (B :: keys)) (cVs (cE G n sc N) vals)))=some c:=h
   split at h
   ·rename_i p I
    exact YZ (P:=SE X F _) h λx y z s r l=>.of (Zhg K (λe c h=>(g e c h).pe) I s r l (Ze s) (Ze r))
   ·exact Y0 h λJ h=>ZO (P:=SE X F _) h λks cs I M=>.of (Zby (λe c h=>(g e c h).pe) I M J.1 J.2.1 J.2.2)
 |Subscript a b pos=>exact ZfO K g E h
 |Call f as D pos=>cases D with
  |cons _ _=>exact no h
  |nil=>cases f with
   |Attribute O m ap=>exact Zdh K g j h
   |Name f p=>exact ZbL K g j h
   |_=>exact no h
 |ListComp o gens i pos=>exact u X sc N K o gens i pos c h
 |_=>exact no h
theorem Ud(a:Zp G F n)(b:Yh G F n):Yh G F (n+1):=by
 intro X sc N K es c h;cases es with
 |nil=>
  simp only[cEs]at h;cases h;exact⟨Zbw pa_nil Wd,trivial,rfl,λ_=>rfl⟩
 |cons e es=>
  refine ZO (P:=λc=>PA X _ (tA X.K (ev F c))/\Uj c/\_/\(_->c=.aN)) (show o2 CE.aC (cE G n sc N e) (cEs G n sc N es)=some c from h) λx r d f=>?_
  obtain⟨A,i,g,_⟩:=b X sc N K es r f;exact⟨Zbw (pa_cons (a X sc N K e x d).pe A (Zd (Ze d))) WO,trivial,by rw[bC,g,Ze d];rfl,λz=>nomatch z⟩
theorem Ue(b:Zp G F n):W2 G F (n+1):=by
 intro X sc N K e c h;cases e with
 |none=>
  simp only[cO]at h;cases h;exact ZbA po_none ZcO
 |some e=>
  simp only[cO]at h;cases q:cE G n sc N e with
  |none=>rw[q]at h;cases h
  |some x=>
   rw[q]at h;cases h;refine ZbA (po_some (b X sc N K e x q).pe) λO H Q k=>?_
   obtain⟨ad,U,st,d,st',E,S,a,p⟩:=k;have a:Zq (ev F x) V9 U st=some (d,st'):=a;unfold Zq at a;split at a
   ·rename_i y f g
    cases y with
    |int i=>
     cases a;rcases p with⟨z,_⟩|⟨j,z,p⟩
     ·cases z
     ·cases z
      exact⟨ad,U,st,.int i,_,E,S,g,λv ad' H' x m l=>⟨i,l.ofInt,p ad' H' x m⟩⟩
    |_=>simp[V9]at a
   ·exact Zb a
end
variable [ClsTab]
variable{α β:Type}
theorem b_e{P:Prop}{o:Ot α}{f:α->Ot β}{c:β}(h:o.bind f=some c)(k:∀ x,o=some x->f x=some c->P):P:=by
 cases o with
 |none=>exact Zb h
 |some x=>exact k x rfl h
theorem Zed{s:Stmt}{t u:TS}(b:PS X s t)(a:PS X s u):PS X s (λD O H=>t D O H\/u D O H):=λpQ s O H D I q=>q.elim (b pQ s O H D I) (a pQ s O H D I)
variable{l:Nat}
theorem XQ{a:Ot Expr}(h:YN e=false):swapsWith e a l env=pure false:=by
 cases e<;>first|rfl|cases h
variable{tg:Expr}
theorem YD(h:YN e=false):swapsWithSole [tg] e l env=pure false:=XQ h
theorem X2{o k:Expr}{p:Pos}(h:Zg k=true):∀ v,assign (.Subscript o k p) env v=(do
   let a <-holding [v] (eval o env)
   let b <-holding [v,a] (eval k env)
   standAt p
   holding [v,a,b] (setItem a b v)
   release [v,a,b] []):=by
 cases k<;>first | (intro _;rfl)|cases h
theorem Wu{o k:Expr}{p:Pos}:swappedStores [.Subscript o k p] e env=pure none:=by
 cases e<;>rfl
theorem ZF(h:Zg e=true):∀ x,foldedSetIterable e env x=pure x:=by
 cases e<;>first | (intro _;rfl)|cases h
structure CxtS(X:Cx)(G:Gs)(F:Nat->Fn)(sc:Scope)(N:List Str):Prop extends Cxt X G F sc N where
 nd:N.Nodup
 loc:∀ x∈N,Loc X.env.scope x
 fn:∀ x,X.fn x=true
variable{it elt:Expr}{gens:Li Comprehension}{sc2:Scope}{tp p2 p3:Pos}{ctx t' kk:Nat}{h' h:Heap}{items:Array vL}{E:vL->sH7->Prop}{z:Ad}{elts:Li Expr}
section
def Um(G:Gs)(F:Nat->Fn)(n:Nat):Prop:=∀ X sc N,CxtS X G F sc N->∀ s c,cS G n sc N s=some c->PS X s (tS X.K (ex F c))
def ZN(G:Gs)(F:Nat->Fn)(n:Nat):Prop:=∀ X sc N,CxtS X G F sc N->∀ s c,cSs G n sc N s=some c->PSs X s (tS X.K (ex F c))
theorem Vb{x:Str}(h:N.idxOf? x=some i):x∈N:=aW (Xb h)
theorem ZT{x:Str}{p:Pos}(K:CxtS X G F sc N)(h:N.idxOf? x=some i):PG X (.Name x p) (gName i):=
 pg_name (by rw[K.hN];exact K.nd) (by rw[K.hN];exact Xb h) (K.loc x (Vb h)) (.inl (K.fn x))
theorem Yz(K:CxtS X G F sc N):PassesOwn (model X.prog X.w) X.A X.env X.xe:=by
 rw[K.nx];exact PassesOwn.never
theorem QS{x:Str}{p:Pos}(K:Cxt X G F sc N)(a:Xo sc x=true)(b:N.idxOf? x=some i):PE X (.Name x p) (tVar i):=
 pe_var (by rw[K.hN];exact Xb b) (K.vis _ a) (Vi a).1 (Vi a).2
theorem XM{a:Expr}{x:CE}(K:Cxt X G F sc N)(h:ZM G sc it=some a)(b:Zg a=true)(A:PE X a (tE X.K (ev F x))):Zg it=true/\PI X tg it (iRng1 (tCons (tE X.K (ev F x)) tNil)):=by
 obtain⟨_,_,rfl,d,c⟩:=WD K h;exact⟨rfl,pi_range1 d c (pa1 b A) (Zd b)⟩
def X1(G:Gs)(F:Nat->Fn)(n:Nat):Prop:=∀ X sc N,CxtS X G F sc N->∀ (x:Str) (i:Nat) (p:Pos) elt gens sc2 epos (pos:Pos) c,N.idxOf? x=some i->cE G n sc N (.ListComp elt gens sc2 epos)=some c->
 swapsWith (.ListComp elt gens sc2 epos) (some (.Name x p)) pos.line X.env=pure true->PS X (.Assign [.Name x p] (.ListComp elt gens sc2 epos) pos) (tAsg (tE X.K (ev F c)) (gName i))
theorem U3{epos p:Pos}{x:Str}:∃ b:Bool,swapsWith (.ListComp elt gens sc2 epos) (some (.Name x p)) l env=pure b:=⟨_,rfl⟩
theorem Zbm{c:CE}(h:cE G n sc N e=some c):YN e=false\/∃ elt gens sc2 a,e=.ListComp elt gens sc2 a:=by
 cases n with
 |zero=>exact nomatch (show(none:Ot CE)=some c from h)
 |succ n=>cases e<;>first|exact .inl rfl|exact .inr ⟨_,_,_,_,rfl⟩|exact nomatch (show(none:Ot CE)=some c from h)
theorem ZfT(a:Zp G F n)(o:X1 G F n)(K:CxtS X G F sc N){c:CS}{x:Str}{p:Pos}(h:o2 CS.set (N.idxOf? x) (cE G n sc N e)=some c):PS X (.Assign [.Name x p] e pos) (tS X.K (ex F c)):=by
 refine ZO (P:=λc=>PS X _ (tS X.K (ex F c))) h λi y f d=>?_
 have g:∀ j,PS X (.Assign [.Name x p] e pos) (tAsg (tE X.K (ev F y)) (gName i)):=λj=>ps_set (by rw[K.hN];exact K.nd) (by rw[K.hN];exact Xb f) (K.loc _ (Vb f)) (a X sc N K.toCxt _ y d).pe j (.inl (K.fn _))
 rcases Zbm d with m|⟨elt,gens,sc2,epos,rfl⟩
 ·exact Zw (g (XQ m)) Vd
 ·obtain⟨b,k⟩:=U3 (elt:=elt) (gens:=gens) (sc2:=sc2) (epos:=epos) (p:=p) (x:=x) (l:=pos.line) (env:=X.env)
  cases b with
  |false=>exact Zw (g k) Vd
  |true=>exact Zw (o X sc N K _ i p elt gens sc2 epos pos y f d k) Vd
theorem Wv{a:Li Expr}{k:Nat}(h:V3 e=false):swappedStores [.Tuple a k tp] e env=pure none:=by
 cases e with
 |Tuple=>cases h
 |_=>rfl
theorem ZdB(a:Zp G F n)(K:CxtS X G F sc N){c:CS}{x y:Str}{p:Pos}(h:og ((YN e||V3 e)=false) (o3 (λi j c=>og (i≠j) (some (CS.set2 i j c))) (N.idxOf? x) (N.idxOf? y) (cE G n sc N e)).join=some c):PS X (.Assign [.Tuple [.Name x p,.Name y p2] ctx tp] e pos) (tS X.K (ex F c)):=by
 refine Y0 h λb h=>j_e h λh=>YZ (P:=λo=>o=some c->PS X _ (tS X.K (ex F c))) h (λi j k g f d h=>Y0 h λ_ h=>?_) rfl
 cases h;rw[Bool.or_eq_false_iff]at b;exact Zw (ps_asg (a X sc N K.toCxt _ k d).pe (pg_tup K.calm (pgs_cons (ZT K g) (pgs_cons (ZT K f) pgs_nil))) (YD b.1) (Wv b.2)) ZaM
theorem ZdC(a:Zp G F n)(K:CxtS X G F sc N){c:CS}{x y z:Str}{p:Pos}(h:og ((YN e||V3 e)=false) (o3 (λi j (p:Nat×CE)=>CS.set3 i j p.1 p.2) (N.idxOf? x) (N.idxOf? y) (o2 Prod.mk (N.idxOf? z) (cE G n sc N e)))=some c):PS X (.Assign [.Tuple [.Name x p,.Name y p2,.Name z p3] ctx tp] e pos) (tS X.K (ex F c)):=by
 refine Y0 h λb h=>YZ (P:=λc=>PS X _ (tS X.K (ex F c))) h λi j q m k f=>ZO (P:=λq=>PS X _ (tS X.K (ex F (.set3 i j q.1 q.2)))) f λl o g d=>?_
 rw[Bool.or_eq_false_iff]at b;exact Zw (ps_asg (a X sc N K.toCxt _ o d).pe (pg_tup K.calm (pgs_cons (ZT K m) (pgs_cons (ZT K k) (pgs_cons (ZT K g) pgs_nil)))) (YD b.1) (Wv b.2)) ZaN
theorem ZfR(a:Zp G F n)(K:CxtS X G F sc N){c:CS}{f:Str}{d:Pos}{b:Li Keyword}(h:(cE G n sc N (.Call (.Name f d) as b cp)).map CS.act=some c):PS X (.Expr (.Call (.Name f d) as b cp) pos) (tS X.K (ex F c)):=by
 obtain⟨g,e,rfl⟩:=dH.mp h;exact Zw (ps_expr (a X sc N K.toCxt _ g e).pe rfl) ZcF
theorem Zbx{k a b:Expr}(h:WS k=some (a,b)):∃ c p,k=.Tuple [a,b] c p:=by
 unfold WS at h;split at h
 ·cases h;exact⟨_,_,rfl⟩
 ·exact Zb h
theorem ZfU(d:Zp G F n)(K:CxtS X G F sc N){c:CS}{x:Str}{k:Expr}{p q:Pos}(h:ZgV sc N x k e (cE G n sc N)=some c):PS X (.Assign [.Subscript (.Name x p) k q] e pos) (tS X.K (ex F c)):=
 Y0 h λl h=>by
 cases o:WS k with
 |some u=>
  rw[o]at h;obtain⟨a,b⟩:=u;obtain⟨_,_,rfl⟩:=Zbx o;refine YZ (P:=λc=>PS X _ (tS X.K (ex F c))) h λ_ j y r f m=>?_
  exact ZO (P:=λj:CE×CE=>PS X _ (tS X.K (ex F (.dput _ j.1 j.2 y)))) f λt s i g=>Zw (ps_asg (d X sc N K.toCxt _ y m).pe (pg_sub (QS K.toCxt l.2.2 r) (pe_tup (pa_cons (d X sc N K.toCxt _ t i).pe (pa_cons (d X sc N K.toCxt _ s g).pe pa_nil (Zd (Ze g))) (Zd (Ze i)))) (set_dT (by have:=K.toCxt.hu;omega)) (X2 rfl)) (YD l.1) Wu) ZaB
 |none=>
 rw[o]at h;exact YZ (P:=λc=>PS X _ (tS X.K (ex F c))) h λ_ j y r f m=>Zw (ps_asg (d X sc N K.toCxt _ y m).pe (pg_sub (QS K.toCxt l.2.2 r) (d X sc N K.toCxt _ j f).pe set_list (X2 (Ze f))) (YD l.1) Wu) ZcS
theorem ZfV(a:Zp G F n)(K:CxtS X G F sc N){c:CS}(h:(cE G n sc N e).map CS.ret=some c):PS X (.Return (some e) pos) (tS X.K (ex F c)):=
 Wn (P:=λc=>PS X _ (tS X.K (ex F c))) h λx q=>Zw (ps_ret (a X sc N K.toCxt _ x q).pe) ZcT
theorem Zhi(f:Zp G F n)(d:ZN G F n)(K:CxtS X G F sc N){c:CS}{a b:Li Stmt}(h:o3 CS.ite (cE G n sc N e) (cSs G n sc N a) (cSs G n sc N b)=some c):PS X (.If e a b pos) (tS X.K (ex F c)):=
 YZ (P:=λc=>PS X _ (tS X.K (ex F c))) h λk m l g j i=>Zw (ps_if (f X sc N K.toCxt _ k g).pt (d X sc N K _ m j) (d X sc N K _ l i)) ZcM
theorem Zdw(d:Yh G F n)(a:ZN G F n)(K:CxtS X G F sc N){c:CS}{x:Str}{b:Li Stmt}{p:Pos}(e:XF G sc it=some as)(h:o3 CS.for3 (N.idxOf? x) (cEs G n sc N as) (cSs G n sc N b)=some c):PS X (.For (.Name x p) it b [] pos) (tS X.K (ex F c)):=by cases e
theorem Zdu(e:Zp G F n)(d:ZN G F n)(K:CxtS X G F sc N){c:CS}{x:Str}{b:Li Stmt}{p:Pos}(h:(match ZM G sc it with
   |some a=>o3 (λi c b=>CS.for1 i true c b) (N.idxOf? x) (cE G n sc N a) (cSs G n sc N b)
   |none=>o3 (λi c b=>CS.for1 i false c b) (N.idxOf? x) (cE G n sc N it) (cSs G n sc N b))=some c):PS X (.For (.Name x p) it b [] pos) (tS X.K (ex F c)):=by
 cases k:ZM G sc it with
 |some a=>
  rw[k]at h;refine YZ (P:=λc=>PS X _ (tS X.K (ex F c))) h λi r j f q g=>?_
  obtain⟨o,m⟩:=XM K.toCxt k (Ze q) (e X sc N K.toCxt a _ q).pe;exact Zw (ps_for (Yz K) K.calm m (ZT K f) (d X sc N K _ j g) (ZF o)) ZaH
 |none=>
  rw[k]at h;refine YZ (P:=λc=>PS X _ (tS X.K (ex F c))) h λi r j f q g=>?_
  have A:=(e X sc N K.toCxt _ _ q).pe;have l:=ZF (env:=X.env) (Ze q);exact Zw (Zed (ps_for (Yz K) K.calm (pi_tup A) (ZT K f) (d X sc N K _ j g) l) (ps_for (Yz K) K.calm (pi_list A) (ZT K f) (d X sc N K _ j g) l)) ZaF
theorem XI{s:sH7}{wr:Li Ad}(I:L2.Inv X pQ O H s)(d:∀ b∈wr,FpOk X pQ H b)(k:∀ b o,b∉wr->s.heap.get? b=some o->h'.get? b=some o):L2.Inv X pQ O H { s with heap:=h',toks:=t' }:=by
 have g:∀ b u,H b=some u->b∉wr:=λb u e f=>by have:=(d b f).1;rw[e]at this;cases this
 refine I.step (g':=s.gens) (d':=s.drawn) (ch:=wr) (λb f=>⟨(d b f).2.2.2.1,(d b f).2.1,(d b f).2.2.2.2.1,(d b f).2.2.2.2.2⟩) (λb o _ _ a e _=>k b o a e) (λb o _ _ a e _=>⟨o.slots,k b o a e⟩)
  (λb o _ e n=>n) (λb o a e=>⟨o,k b o a e⟩) (λb ys e=>e) (λb o u e=>e) (λb l e=>⟨#[],by rw[e];simp⟩) (λm i=>?_) (λb u e=>?_) I.bare
 ·obtain⟨o,es,j,h,r⟩:=i
  exact⟨o,es,j,k _ o (λz=>(d _ z).2.1 rfl) h,r⟩
 ·refine(I.hok b u e).stay (λc v a q=>k c v ?_ q) (λc q=>q) λc ys q=>q
  rcases a with z|z
  ·rw[z];exact g b u e
  ·exact g c _ z
theorem Y1{s:sH7}{wr:Li Ad}{T:Ad}{h:Li V}(I:L2.Inv X pQ O H s)(f:∀ b∈wr,FpOk X pQ H b)(k:∀ b o,b∉wr->s.heap.get? b=some o->h'.get? b=some o)(j:s.heap.objs.size<=T)(new:ObjOk X.prog X.w (upd H T (.tup h)) h' T (.tup h)):L2.Inv X pQ O (upd H T (.tup h)) { s with heap:=h',toks:=t' }:=by
 have g:H T=none:=I.hok.fresh j;have l:∀ b u,s.heap.get? b=some u->b≠T:=λb u e=>aY (aT (aJ e) j)
 have i:∀ b u,H b=some u->b∉wr:=λb u e a=>by have:=(f b a).1;rw[e]at this;cases this
 refine I.step (g':=s.gens) (d':=s.drawn) (ch:=wr) (λb a=>⟨(f b a).2.2.2.1,(f b a).2.1,(f b a).2.2.2.2.1,(f b a).2.2.2.2.2⟩) (λb o _ _ d e _=>k b o d e) (λb o _ _ d e _=>⟨o.slots,k b o d e⟩)
  (λb o _ e n=>by rw[upd_ne (l b o e)];exact n) (λb o d e=>⟨o,k b o d e⟩) (λb ys e=>by rw[upd_ne (ne_of_none e g)];exact e) (λb o u e=>by rw[upd_ne (ne_of_none e g)];exact e) (λb y e=>⟨#[],by rw[upd_ne (ne_of_none e g),e];simp⟩) (λm t=>?_) (λb u e=>?_) I.bare
 ·obtain⟨o,es,x,p,r⟩:=t
  exact⟨o,es,x,k _ o (λz=>(f _ z).2.1 rfl) p,r⟩
 ·by_cases a:b=T
  ·subst a;rw[upd_same]at e;cases e;exact new
  ·rw[upd_ne a]at e
   refine(I.hok b u e).stay (λc v d q=>k c v ?_ q) (λc q=>by rw[upd_ne (ne_of_none q g)];exact q) λc ys q=>by rw[upd_ne (ne_of_none q g)];exact q
   rcases d with z|z
   ·rw[z];exact i b u e
   ·exact i c _ z
theorem ZdF{s:sH7}{a:Ad}{b:Li V}(I:L2.Inv X pQ O H s)(j:SqL X.K H a b)(i:SqL X.K H a ys):ys=b:=by
 obtain⟨d,h,⟨l,n,g1,_,_,k⟩,_⟩:=I.list j;obtain⟨c,g,⟨o2,m,g2,_,_,f⟩,_⟩:=I.list i;rw[g1]at g2;cases g2;rw[k]at f;have e:d.toArray=c.toArray:=by injection f
 have e:d=c:=by simpa using e
 subst e;exact Vals.inj g h
theorem Zbj{a b:String}{p:Prop}(h:Value.type a=Value.type b)(n:¬a=b):p:=by
 injection h with h
 exact absurd h n
section
variable{prog:Program}{w:World}{A:Around}{E:vL->sH7->Prop}{s:sH7}
open Sem (wp)
open AutoSeq1 (wpAny_loadPart')
theorem Ys{it l:Ad}{Q:vL->sH7->Prop}(j:A.handled=none)(b:s.heap.IsTupleIter it l i)(k:s.heap.IsTuple l items)(p:∀ x h',items[i]?=some x->h'.IsTupleIter it l (i+1)->Heap.SameBut it s.heap h'->Q x { s with heap:=h' })(q:items[i]?=none->∀ h' e,Heap.ExtBut it s.heap h'->(∃ o,h'.get? e=some o/\o.cls=.type "StopIteration")->E (.ref e) { s with heap:=h' }) :
  wpAny (model prog w) A (Builtin.SmallTypes.nextOf (.ref it)) Q E s:=by
 obtain⟨o,d,n,c⟩:=id b;obtain⟨r,g,_,nl,h⟩:=k;unfold Builtin.SmallTypes.nextOf;refine aA (wpAny_callSpecial?_slot (name:=Str.ofString "__next__") b.typeIs PySem.F.slot_tuple_iterator_next
  (wpAny_call_entry PySem.F.slot_tuple_iterator_next b.typeIs PySem.F.entry_tuple_iterator_next ?_ (PySem.F.args_tuple_iterator_next_1 _)))
 show wpAny _ _ (field (.ref it) 0 >>= _) _ _ s;refine aA (wpAny_field d c (x:=.ref l) rfl ?_);show wpAny _ _ (if (Value.ref l==Value.none)=true then _ else _) _ _ s
 rw[if_neg (show ¬((Value.ref l==Value.none)=true) from bF7)];show wpAny _ _ (field (.ref it) 1 >>= _) _ _ s;refine aA (wpAny_field d c (x:=.int i 0) rfl ?_);show wpAny _ _ (seqItems? (.ref l) >>= _) _ _ s;refine aA (wpAny_seqItems g h ?_);cases f:items[i]? with
 |some x=>
  simp only[aZ,f];refine aA (wpAny_setField d c (by simp) (aE ⟨x,rfl,aE (p _ _ f ?_ (Heap.SameBut.update ..))⟩))
  exact⟨_,Heap.get?_update_self _ d (Obj.isFreed_of_fields (Obj.data_mapFields c _)),(Obj.cls_mapFields ..).trans n,by
   rw[Obj.data_mapFields c];simp[rawInt]⟩
 |none=>
  simp only[aZ,f];refine aA (wpAny_rule (aA (wpAny_setField d c (by simp) ?_)))
  show wpAny _ _ (newExc (.type "StopIteration") [] >>= _) _ _ _;refine aA ?_;simp only[newExc,newTuple];refine aA (wpAny_newObj_type ?_ (by size_fits))
  refine aA (m:=firstArgMember _ _) (wpAny_of_eq (a:=Value.none) (by first|rfl | (simp only[firstArgMember];rfl)) ?_)
  refine wpAny_newObj_type ?_ (by size_fits)
  simp only[raiseNew];refine aA (wpAny_handled ?_)
  first|rw[show A.in1.handled=none from j]|rw[j]
  refine aA (aE (wpAny_throw ?_));exact q f _ _ (((Heap.SameBut.update ..).extBut.push _).push _) ⟨_,aX _ rfl,rfl⟩
end
structure ZD(z TI TO i1 i2:Addr):Prop where
 a:TI≠z
 b:TO≠z
 c:i1≠z
 d:i2≠z
 e:TI≠TO
 f:TI≠i1
 g:TI≠i2
 h:TO≠i1
 i:TO≠i2
 j:i1≠i2
section
variable{prog:Program}{w:World}{A:Around}{s:sH7}{z TI TO i1 i2:Ad}{x y a b:vL}{S1 S2:Heap->Prop}
open Builtin.SmallTypes
def KB(l:Li Ad)(h h':Heap):Prop:=∀ c o,c∉l->h.get? c=some o->h'.get? c=some o
theorem KB.of{l:Li Ad}{p:Ad}(k:Heap.SameBut p h h')(m:p∈l):KB l h h':=λc o n e=>k.extBut c o (λq=>n (q ▸ m)) e
theorem KB.trans{l:Li Ad}{d b a:Heap}(x:KB l d b)(y:KB l b a):KB l d a:=λc o n e=>y c o n (x c o n e)
theorem ZgP{TO:Ad}:z∈[z,TO,i1,i2]/\TO∈[z,TO,i1,i2]/\i1∈[z,TO,i1,i2]/\i2∈[z,TO,i1,i2]:=⟨.head _,.tail _ (.head _),.tail _ (.tail _ (.head _)),.tail _ (.tail _ (.tail _ (.head _)))⟩
def Nx(prog:Program)(w:World)(A:Around)(s:sH7)(l:Li Ad)(i:Ad)(x:vL)(S:Heap->Prop):Prop:=
 ∀ (h:Heap) (Q E:vL->sH7->Prop),KB l s.heap h->(∀ h',S h'->Heap.SameBut i h h'->Q x { s with heap:=h' })->wpAny (model prog w) A (nextOf (.ref i)) Q E { s with heap:=h }
def Nz(prog:Program)(w:World)(A:Around)(s:sH7)(l:Li Ad)(i:Ad):Prop:=
 ∀ (h:Heap) (Q E:vL->sH7->Prop),KB l s.heap h->(∀ h' e,Heap.ExtBut i h h'->(∃ o,h'.get? e=some o/\o.cls=.type "StopIteration")->E (.ref e) { s with heap:=h' })->wpAny (model prog w) A (nextOf (.ref i)) Q E { s with heap:=h }
theorem ZdN{Q:vL->sH7->Prop}(d:ZD z TI TO i1 i2)(r:IsZip s.heap z TI TO .none)(hI:IsPair s.heap TI (.ref i1) (.ref i2))(hO:IsPair s.heap TO a b)(V:Nx prog w A s [z] i1 x S1)(U:Nx prog w A s [z,TO,i1] i2 y S2)(Z:∀ h h',S1 h->(∀ o,h.get? i1=some o->h'.get? i1=some o)->S1 h')(Y:∀ h h',S2 h->(∀ o,h.get? i2=some o->h'.get? i2=some o)->S2 h')(hQ:∀ h',IsZip h' z TI TO (rawInt s.heap.objs.size)->IsPair h' TO x y->S1 h'->S2 h'->IsPair h' s.heap.objs.size x y->KB [z,TO,i1,i2] s.heap h'->Q (.ref s.heap.objs.size) { s with heap:=h' }) :
  wpAny (model prog w) A (Builtin.«zip.__next__» ⟨[.ref z],[]⟩) (λF T=>∃ v,F=.done (.ret v)/\Q v T) E s:=by
 obtain⟨N,M,X,W⟩:=ZgP (z:=z) (TO:=TO) (i1:=i1) (i2:=i2);show wpAny _ _ (field (.ref z) 2 >>= _) _ _ _;refine aA (wpAny_field r rfl (x:=.bool false) rfl (aA (wpAny_field r rfl (x:=.ref TI) rfl (aA (wpAny_seqItems hI rfl ?_)))));show wpAny _ _ (ownedTupleIsFree (.ref z) >>= _) _ _ _;unfold ownedTupleIsFree;refine aA (aA (wpAny_field r rfl (x:=.none) rfl (aE ?_)))
 simp only[if_true];refine aA (wpAny_rule (aA (wpAny_field r rfl (x:=.ref TO) rfl (aA (wpAny_setField_rec r (by simp) λg1 S p=>aA ?_)))))
 simp only[List.zipIdx_cons,List.zipIdx_nil,cZ,List.forIn_nil];refine aA (aA (wpAny_onRaise ?_));show wpAny _ _ (nextOf (.ref i1) >>= _) _ _ _;have K1:KB [z] s.heap g1:=KB.of p (.head _);refine aA (V g1 _ _ K1 λg2 P m=>aE ?_)
 have o2:IsPair g2 TO a b:=m.extBut _ _ d.h (p.extBut _ _ d.b hO);refine aA (wpAny_seqItems o2 rfl (aA (wpAny_updateSeq_pair o2 λD o3 l=>aA (wpAny_letGo (aE ?_)))))
 have o3:IsPair D TO x b:=o3;refine aA (aA (wpAny_onRaise ?_));show wpAny _ _ (nextOf (.ref i2) >>= _) _ _ _;have K3:KB [z,TO,i1] s.heap D:=(KB.of p (.head _)).trans ((KB.of m (.tail _ (.tail _ (.head _)))).trans (KB.of l (.tail _ (.head _))));refine aA (U D _ _ K3 λg4 O k=>aE ?_)
 have L:IsPair g4 TO x b:=k.extBut _ _ d.i o3;refine aA (wpAny_seqItems L rfl (aA (wpAny_updateSeq_pair L λf u g=>aA (wpAny_letGo (aE (aE ?_))))))
 have u:IsPair f TO x y:=u;refine aA (wpAny_seqItems u rfl (aA (wpAny_newTuple ?_)));have K4:KB [z,TO,i1,i2] s.heap f:=((KB.of p N).trans ((KB.of m X).trans ((KB.of l M).trans ((KB.of k W).trans (KB.of g M)))));have sz:f.objs.size=s.heap.objs.size:=by rw[g.1,k.1,l.1,m.1,p.1]
 have H:IsZip f z TI TO .ellipsis:=g.extBut _ _ d.b.symm (k.extBut _ _ d.d.symm (l.extBut _ _ d.b.symm (m.extBut _ _ d.c.symm S)));have G:=aJ H;show wpAny _ _ (ownedTupleHandOut (.ref z) (.ref f.objs.size) >>= _) _ _ _;unfold ownedTupleHandOut;have R:IsZip (f.push { cls:=.type "tuple",data:=.seq #[x,y] }) z TI TO .ellipsis:=aK _ H;refine aA (aA (wpAny_setField_rec R (by simp) λg7 C J=>?_))
 have C:IsZip g7 z TI TO (rawInt f.objs.size):=C;refine wpAny_setField_rec C (by simp) λB t I=>aE ⟨_,rfl,?_⟩
 have t:IsZip B z TI TO (rawInt f.objs.size):=t;have up:∀ c o,c≠z->f.get? c=some o->B.get? c=some o:=λc o n e=>I.extBut _ _ n (J.extBut _ _ n (aK _ e))
 have K:IsPair B f.objs.size x y:=I.extBut _ _ (Nat.ne_of_gt G) (J.extBut _ _ (Nat.ne_of_gt G) (aX _ rfl));show Q (.ref f.objs.size) _;rw[sz]at t K ⊢;exact hQ B t (up _ _ d.b u) (Z _ _ P λo e=>up _ _ d.c (g.extBut _ _ d.h.symm (k.extBut _ _ d.j (l.extBut _ _ d.h.symm e)))) (Y _ _ O λo e=>up _ _ d.d (g.extBut _ _ d.i.symm e)) K (K4.trans λc o n e=>up c o (λq=>n (q ▸ N)) e)
theorem Zca{Q:Fin->sH7->Prop}(d:ZD z TI TO i1 i2)(m:IsZip s.heap z TI TO .none)(T:IsPair s.heap TI (.ref i1) (.ref i2))(R:IsPair s.heap TO a b)(n:Nz prog w A s [z] i1\/∃ x S,Nx prog w A s [z] i1 x S/\Nz prog w A s [z,TO,i1] i2)(U:∀ h' e,KB [z,TO,i1,i2] s.heap h'->(∃ o,h'.get? e=some o/\o.cls=.type "StopIteration")->E (.ref e) { s with heap:=h' }):wpAny (model prog w) A (Builtin.«zip.__next__» ⟨[.ref z],[]⟩) Q E s:=by
 obtain⟨y,P,H,O⟩:=ZgP (z:=z) (TO:=TO) (i1:=i1) (i2:=i2);show wpAny _ _ (field (.ref z) 2 >>= _) _ _ _;refine aA (wpAny_field m rfl (x:=.bool false) rfl (aA (wpAny_field m rfl (x:=.ref TI) rfl (aA (wpAny_seqItems T rfl ?_)))));show wpAny _ _ (ownedTupleIsFree (.ref z) >>= _) _ _ _;unfold ownedTupleIsFree;refine aA (aA (wpAny_field m rfl (x:=.none) rfl (aE ?_)))
 simp only[if_true];refine aA (wpAny_rule (aA (wpAny_field m rfl (x:=.ref TO) rfl (aA (wpAny_setField_rec m (by simp) λg1 p j=>aA ?_)))))
 simp only[List.zipIdx_cons,List.zipIdx_nil,cZ,List.forIn_nil];refine aA (aA (wpAny_onRaise ?_));show wpAny _ _ (nextOf (.ref i1) >>= _) _ _ _;have p:IsZip g1 z TI TO .ellipsis:=p;have J:KB [z] s.heap g1:=KB.of j (.head _);have l:∀ {g:Heap}{e:Ad},IsZip g z TI TO .ellipsis->KB [z,TO,i1,i2] s.heap g->(∃ o,g.get? e=some o/\o.cls=.type "StopIteration")->∀ v,Heap.SameBut z g v->E (.ref e) { s with heap:=v }:=λ{g e} u k ⟨o,B,I⟩ v t=>by
  have L:e≠z:=λq=>by subst q;rw[u]at B;cases B;simp at I
  exact U v e (k.trans (KB.of t y)) ⟨o,t.extBut _ _ L B,I⟩
 rcases n with n|⟨x,S,N,M⟩
 ·refine aA (n g1 _ _ J λg2 e f C=>?_)
  have F:IsZip g2 z TI TO .ellipsis:=f _ _ d.c.symm p;exact wpAny_setField_rec F (by simp) λr _ i=>l F ((KB.of j y).trans λc o n e=>f c o (λq=>n (q ▸ H)) e) C r i
 ·refine aA (N g1 _ _ J λg2 Y f=>aE ?_)
  have o2:IsPair g2 TO a b:=f.extBut _ _ d.h (j.extBut _ _ d.b R);refine aA (wpAny_seqItems o2 rfl (aA (wpAny_updateSeq_pair o2 λr o3 i=>aA (wpAny_letGo (aE ?_)))))
  refine aA (aA (wpAny_onRaise ?_));show wpAny _ _ (nextOf (.ref i2) >>= _) _ _ _;have X:KB [z,TO,i1] s.heap r:=(KB.of j (.head _)).trans ((KB.of f (.tail _ (.tail _ (.head _)))).trans (KB.of i (.tail _ (.head _))));refine aA (M r _ _ X λW e G C=>?_)
  have D:IsZip W z TI TO .ellipsis:=G _ _ d.d.symm (i.extBut _ _ d.b.symm (f.extBut _ _ d.c.symm p));exact wpAny_setField_rec D (by simp) λV _ K=>l D ((KB.of j y).trans ((KB.of f H).trans ((KB.of i P).trans λc o n e=>G c o (λq=>n (q ▸ O)) e))) C V K
end
structure ZSt(z TI TO i1 i2 a b:Addr)(i:Nat)(h:Heap):Prop where
 hz:IsZip h z TI TO .none
 hI:IsPair h TI (.ref i1) (.ref i2)
 hO:∃ u v,IsPair h TO u v
 h1:h.IsTupleIter i1 a i
 h2:h.IsTupleIter i2 b i
theorem Ja{TI TO b a c:Ad}(h:c∈[z,TO,b,a]):c∈[z,TI,TO,b,a]:=by
 rcases aF.mp h with rfl|h
 ·exact .head _
 ·exact .tail _ (.tail _ h)
theorem Jb{TI TO e d a b c:Ad}(st:ZSt z TI TO e d a b i h)(f:c∈[z,TI,TO,e,d]):∃ o,h.get? c=some o/\∀ v,o.data≠.cell v:=by
 obtain⟨g,k,⟨u,v,j⟩,⟨n,g1,_,m⟩,⟨o2,g2,_,l⟩⟩:=st;simp only[aF,aU,or_false]at f;rcases f with rfl|rfl|rfl|rfl|rfl
 ·exact⟨_,g,λv q=>by cases (show Data.fields _=Data.cell v from q)⟩
 ·exact⟨_,k,λv q=>by cases (show Data.seq _ _=Data.cell v from q)⟩
 ·exact⟨_,j,λv q=>by cases (show Data.seq _ _=Data.cell v from q)⟩
 ·exact⟨_,g1,λv q=>by rw[m]at q;cases q⟩
 ·exact⟨_,g2,λv q=>by rw[l]at q;cases q⟩
theorem Zd3{s:sH7}{a c:Ad}(I:L2.Inv X pQ O H s)(f:FpOk X pQ H c)(h:(∃ o,H a=some o)\/∃ o,X.K.lookup a=some o):a≠c:=λq=>by
 subst q;rcases h with⟨o,h⟩|⟨o,h⟩
 ·rw[f.1]at h;cases h
 ·have b:=I.ok.mod.kin a o h
  rcases f.2.2.2.1 with g|g
  ·exact I.ok.noex a o b g
  ·exact absurd (aJ (I.ok.bs a o b).1) (Nat.not_lt.mpr g)
theorem ZbU{K:fG7}{a:Ad}{b:Li V}(h:SqT K H a b):(∃ o,H a=some o)\/∃ o,K.lookup a=some o:=by
 rcases h with(h|⟨o,h⟩)|⟨o,c,n,h,_⟩
 ·exact .inl ⟨_,h⟩
 ·exact .inl ⟨_,h⟩
 ·exact .inr ⟨_,h⟩
theorem Ui{s:sH7}{TI TO:Ad}{Q:Ot vL->sH7->Prop}(g:IsZip s.heap z TI TO .none)(h:∀ {d:Fin->sH7->Prop}{f:vL->sH7->Prop},(∀ v a,Q (some v) a->d (.done (.ret v)) a)->(∀ e a,(∃ o,a.heap.get? e=some o/\o.cls=.type "StopIteration")->Q none a->f (.ref e) a)->wpAny (model prog w) A.in1 (Builtin.«zip.__next__» ⟨[.ref z],[]⟩) d f s):wpAny (model prog w) A (pyNext (.ref z)) Q E s:=by
 have c:s.TypeIs (.ref z) "zip":=⟨_,g,rfl⟩;unfold pyNext;refine aA (wpAny_attempt (wpAny_callSpecial?_slot (name:=Str.ofString "__next__") c F.slot_zip_next (wpAny_call_entry F.slot_zip_next c F.entry_zip_next (h (λv a q=>⟨v,rfl,aE q⟩) λe a j q=>?_) (F.args_zip_next_1 _))))
 obtain⟨o,i,k⟩:=j;exact aA (wpAny_isInstance (T := "StopIteration") (b:=true) ⟨o,i,k⟩ isSubtype_stop (aE q))
section
variable{X:Cx}{z TI TO i1 i2 a b:Ad}{i:Nat}{pQ:Li (Ad×Obj)}{s:sH7}{O:L2.St}{H:Hp}{E:vL->sH7->Prop}
theorem nl{l:Li Ad}{c:Ad}(h:∀ d∈l,c≠d):c∉l:=λm=>h c m rfl
theorem Zcb(d:ZD z TI TO i1 i2)(S:X.calm=true)(I:L2.Inv X pQ O H s)(F:∀ c∈[z,TI,TO,i1,i2],FpOk X pQ H c)(st:ZSt z TI TO i1 i2 a b i s.heap){L:Li V}(C:SqT X.K H a L)(B:SqT X.K H b ys){g f:Li vL}(M:s.heap.IsTuple a g.toArray)(p2:s.heap.IsTuple b f.toArray) :
  (∀ u,g.toArray[i]?=some u->Nx X.prog X.w X.A.in1 s [z] i1 u λh=>h.IsTupleIter i1 a (i+1))/\(g.toArray[i]?=none->Nz X.prog X.w X.A.in1 s [z] i1)/\(∀ u,f.toArray[i]?=some u->Nx X.prog X.w X.A.in1 s [z,TO,i1] i2 u λh=>h.IsTupleIter i2 b (i+1))/\(f.toArray[i]?=none->Nz X.prog X.w X.A.in1 s [z,TO,i1] i2):=by
 have P:∀ {c},c∈[z,TI,TO,i1,i2]->a≠c:=λm=>Zd3 I (F _ m) (ZbU C)
 have N:∀ {c},c∈[z,TI,TO,i1,i2]->b≠c:=λm=>Zd3 I (F _ m) (ZbU B)
 have R:z∈[z,TI,TO,i1,i2]:=.head _;have J:∀ h,KB [z] s.heap h->h.IsTupleIter i1 a i/\h.IsTuple a g.toArray:=λh k=>⟨st.h1.at λo e=>k _ o (nl λc m=>by rw[aR.mp m];exact d.c) e,M.at λo e=>k _ o (nl λc m=>by rw[aR.mp m];exact P R) e⟩
 have G:∀ h,KB [z,TO,i1] s.heap h->h.IsTupleIter i2 b i/\h.IsTuple b f.toArray:=λh k=>⟨st.h2.at λo e=>k _ o (nl λc m=>by
   simp only[aF,aU,or_false]at m;rcases m with rfl|rfl|rfl
   ·exact d.d
   ·exact d.i.symm
   ·exact d.j.symm) e,p2.at λo e=>k _ o (nl λc m=>N (by
   simp only[aF,aU,or_false]at m ⊢;rcases m with rfl|rfl|rfl
   ·exact .inl rfl
   ·exact .inr (.inr (.inl rfl))
   ·exact .inr (.inr (.inr (.inl rfl))))) e⟩
 have y:X.A.in1.handled=none:=I.ok.hd S;refine⟨λu n h Q E k p=>?_,λn h Q E k p=>?_,λu n h Q E k p=>?_,λn h Q E k p=>?_⟩
 ·obtain⟨r,q⟩:=J h k
  exact Ys (s:={ s with heap:=h }) y r q (λx l ex v t=>by rw[n]at ex;cases ex;exact p l v t) λex=>by rw[n]at ex;cases ex
 ·obtain⟨r,q⟩:=J h k
  exact Ys (s:={ s with heap:=h }) y r q (λx l ex v t=>by rw[n]at ex;cases ex) λ_ l e t D=>p l e t D
 ·obtain⟨r,q⟩:=G h k
  exact Ys (s:={ s with heap:=h }) y r q (λx l ex v t=>by rw[n]at ex;cases ex;exact p l v t) λex=>by rw[n]at ex;cases ex
 ·obtain⟨r,q⟩:=G h k
  exact Ys (s:={ s with heap:=h }) y r q (λx l ex v t=>by rw[n]at ex;cases ex) λ_ l e t D=>p l e t D
theorem Zb9(d:ZD z TI TO i1 i2)(hc:X.calm=true)(I:L2.Inv X pQ O H s)(D:∀ c∈[z,TI,TO,i1,i2],FpOk X pQ H c)(st:ZSt z TI TO i1 i2 a b i s.heap)(hg:(Itz X.K a b).go i H) :
  wpAny (model X.prog X.w) X.A (pyNext (.ref z)) (λr s1=>∃ u,r=some u/\wpAny (model X.prog X.w) X.A (letOwnedTupleGo (.Tuple elts kk pos) (.ref z) u) (λ_ L=>∃ x H',L2.Inv X pQ O H' L/\RelV x u/\(Itz X.K a b).yld i H x H'/\ZSt z TI TO i1 i2 a b (i+1) L.heap/\∀ c∈[z,TI,TO,i1,i2],H' c=none) E s1) E s:=by
 obtain⟨xs,ys,x,y,p,l,ex,N⟩:=hg;obtain⟨B,V,W,_⟩:=I.tuple p;obtain⟨t,U,p2,_⟩:=I.tuple l;obtain⟨Z,_,Y,_⟩:=Zcb d hc I D st p l W p2;obtain⟨u,F,T⟩:=V.get ex;obtain⟨v,ev,rv⟩:=U.get N;have F:B.toArray[i]?=some u:=by rw[dM];exact F
 have ev:t.toArray[i]?=some v:=by rw[dM];exact ev
 obtain⟨oa,ob,hO⟩:=st.hO;refine Ui st.hz λ{Qf Ef} hq _=>bG (ZdN d st.hz st.hI hO (Z u F) (Y v ev) (λh h' q k=>q.at k) (λh h' q k=>q.at k) (Q:=λr s1=>Qf (.done (.ret r)) s1) (E:=Ef) λg a1 a2 a3 a4 a5 M=>hq _ _ ⟨_,rfl,?_⟩) (λr s1 ⟨v,e,q⟩=>by rw[e];exact q) λ_ _ e=>e
 refine wpAny_letOwnedTupleGo_zip (s:={ s with heap:=g }) a1 λg2 b1 J=>?_
 have hT:s.heap.objs.size<=s.heap.objs.size:=aD _;have G:∀ c∈[z,TI,TO,i1,i2],c≠s.heap.objs.size:=λc j q=>by
  obtain⟨o,e,_⟩:=Jb st j;exact absurd (aJ e) (by rw[q];exact bO _)
 have C:KB [z,TO,i1,i2] s.heap g2:=M.trans (KB.of J (.head _));have S:s.heap.objs.size≠z:=λq=>G z (.head _) q.symm
 have up:∀ c o,c≠z->g.get? c=some o->g2.get? c=some o:=λc o n e=>J.extBut c o n e
 have I2:L2.Inv X pQ O (upd H s.heap.objs.size (.tup [x,y])) { s with heap:=g2,toks:=s.toks }:=Y1 (wr:=[z,TO,i1,i2]) I (λc j=>D c (Ja j)) (λc o n e=>C c o n e) hT ⟨show 2<=sizeLine by decide,[u,v],.cons T (.cons rv .nil),⟨_,up _ _ S a5,rfl,_,rfl⟩⟩
 have fr:H s.heap.objs.size=none:=I.hok.fresh (aD _);refine⟨.ref s.heap.objs.size,upd H s.heap.objs.size (.tup [x,y]),I2,rfl,⟨_,x,y,rfl,fr,rfl,λR q=>by rw[I.tuple_inj q p];exact ex,λP q=>by rw[I.tuple_inj q l];exact N⟩,⟨b1,up _ _ d.a (M _ _ (nl λc m=>?_) st.hI),⟨_,_,up _ _ d.b a2⟩,a3.at λo e=>up _ o d.c e,a4.at λo e=>up _ o d.d e⟩,λc j=>?_⟩
 ·simp only[aF,aU,or_false]at m
  rcases m with rfl|rfl|rfl|rfl
  ·exact d.a
  ·exact d.e
  ·exact d.f
  ·exact d.g
 ·rw[upd_ne (G c j)]
  exact(D c j).1
theorem Zb8(d:ZD z TI TO i1 i2)(M:X.calm=true)(I:L2.Inv X pQ O H s)(m:∀ c∈[z,TI,TO,i1,i2],FpOk X pQ H c)(st:ZSt z TI TO i1 i2 a b i s.heap)(J:(Itz X.K a b).stop i H) :
  wpAny (model X.prog X.w) X.A (pyNext (.ref z)) (λr s1=>r=none/\L2.Inv X pQ O H s1) E s:=by
 obtain⟨Q,ys,h,f,G⟩:=J;obtain⟨j,y,B,_⟩:=I.tuple h;obtain⟨l,v,p2,_⟩:=I.tuple f;obtain⟨C,t,U,p⟩:=Zcb d M I m st h f B p2;obtain⟨T,R,N⟩:=st.hO;have W:=y.length;have V:=v.length;have P:Nz X.prog X.w X.A.in1 s [z] i1\/∃ x S,Nx X.prog X.w X.A.in1 s [z] i1 x S/\Nz X.prog X.w X.A.in1 s [z,TO,i1] i2:=by
  cases q:j.toArray[i]? with
  |none=>exact .inl (t q)
  |some u=>
   rw[dM,bK]at q;refine .inr ⟨u,_,C u (by rw[dM,bK];exact q),p ?_⟩
   rw[dM,eI];have:=q.1;omega
 exact Ui st.hz λ{Y Z} _ L=>Zca d st.hz st.hI N P λg e D F=>L e _ F ⟨rfl,XI (t':=s.toks) (wr:=[z,TO,i1,i2]) I (λc k=>m c (Ja k)) λc o n e=>D c o n e⟩
end
theorem Zb2{P:Program}{K:fG7}(z TI TO j g a b:Ad)(d:ZD z TI TO j g):Turn P w K (.Tuple elts kk pos) (Itz K a b) [z,TI,TO,j,g] z (ZSt z TI TO j g a b) where
 mem:=.head _
 obj:=λi h st c f=>Jb st f
 keep:=λi h h' st k=>by
  obtain⟨r,x,⟨u,v,t⟩,A,y⟩:=st;exact⟨k z (.head _) _ r,k TI (.tail _ (.head _)) _ x,⟨u,v,k TO (.tail _ (.tail _ (.head _))) _ t⟩,A.at λo e=>k j (.tail _ (.tail _ (.tail _ (.head _)))) o e,y.at λo e=>k g (.tail _ (.tail _ (.tail _ (.tail _ (.head _))))) o e⟩
 item:=λX p l q f i pQ s O H E I n st m=>by
  subst p l q;exact Zb9 d f I n st m
 done:=λX p l q f i pQ s O H E I n st m=>by
  subst p l q;exact Zb8 d f I n st m
 self:=λ_ _ _ _ _ st h=>wpAny_pyIter_zip st.hz h
theorem ZeM:bootBuiltins "zip"=some (.type "zip"):=by decide +kernel
theorem UO(a b:Ad)(k ys:Array vL) :
  Meets (Builtin.«zip.__new__» ⟨[.type "zip",.ref a,.ref b],[]⟩) (λ_ R s=>s.heap.IsTuple a k/\s.heap.IsTuple b ys/\∀ h',h'=((((s.heap.push { cls:=.type "tuple_iterator",data:=.fields #[.ref a,.int 0 0] }).push { cls:=.type "tuple_iterator",data:=.fields #[.ref b,.int 0 0] }).push { cls:=.type "tuple",data:=.seq #[.ref s.heap.objs.size,.ref (s.heap.push { cls:=.type "tuple_iterator",data:=.fields #[.ref a,.int 0 0] }).objs.size] }).push { cls:=.type "tuple",data:=.seq #[.none,.none] })->
   R (.ok (.ret (.ref h'.objs.size))) { s with heap:=h'.push { cls:=.type "zip",data:=.fields #[.none,.bool false,.bool false,.ref ((s.heap.push { cls:=.type "tuple_iterator",data:=.fields #[.ref a,.int 0 0] }).push { cls:=.type "tuple_iterator",data:=.fields #[.ref b,.int 0 0] }).objs.size,.ref (((s.heap.push { cls:=.type "tuple_iterator",data:=.fields #[.ref a,.int 0 0] }).push { cls:=.type "tuple_iterator",data:=.fields #[.ref b,.int 0 0] }).push { cls:=.type "tuple",data:=.seq #[.ref s.heap.objs.size,.ref (s.heap.push { cls:=.type "tuple_iterator",data:=.fields #[.ref a,.int 0 0] }).objs.size] }).objs.size] } }):=
 .of_wp λprog w A R s h=>by
  obtain⟨p,g,d,l,m⟩:=s;obtain⟨f,c,h⟩:=h;have n:=sub_zip;have j:Heap.IsTuple (Shared.heap ⟨p,g,d,l,m⟩) a k:=f;have i:Heap.IsTuple (Shared.heap ⟨p.push { cls:=.type "tuple_iterator",data:=.fields #[.ref a,.int 0 0] },g,d,l,m⟩) b ys:=c.at λo e=>aK _ e
  wp_walk using wpAny_pyIter_tuple j,wpAny_pyIter_tuple i
  exact⟨_,rfl,h _ rfl⟩
theorem Jp{s:sH7}{i f:Ad}{t ys:Array vL}{Q:vL->sH7->Prop}(r:s.heap.IsTuple i t)(q:s.heap.IsTuple f ys)(h:∀ h',ZSt (s.heap.objs.size+4) (s.heap.objs.size+2) (s.heap.objs.size+3) s.heap.objs.size (s.heap.objs.size+1) i f 0 h'->(∀ c o,s.heap.get? c=some o->h'.get? c=some o)->Q (.ref (s.heap.objs.size+4)) { s with heap:=h' }) :
  wpAny (model prog w) A (call (.type "zip") [.ref i,.ref f]) Q E s:=by
 refine callType_new F.called_zip (by decide) (F.typeCall_zip_2 _ _) (F.newCall_zip_2 _ _) (λobj=>F.args_object_init_3 obj _ _) F.entry_zip_new (UO i f t ys) ⟨r,q,λh' e=>?_⟩
 have k:∀ (g:Heap) (o:Obj),(g.push o).objs.size=g.objs.size+1:=λg o=>Heap.size_push ..
 generalize d:s.heap.push { cls:=.type "tuple_iterator",data:=.fields #[.ref i,.int 0 0] }=g1 at e;generalize b:g1.push { cls:=.type "tuple_iterator",data:=.fields #[.ref f,.int 0 0] }=g2 at e;generalize a:g2.push { cls:=.type "tuple",data:=.seq #[.ref s.heap.objs.size,.ref g1.objs.size] }=g3 at e;have s1:g1.objs.size=s.heap.objs.size+1:=by rw[<-d,k]
 have p:g2.objs.size=s.heap.objs.size+2:=by rw[<-b,k,s1]
 have n:g3.objs.size=s.heap.objs.size+3:=by rw[<-a,k,p]
 have v:h'.objs.size=s.heap.objs.size+4:=by rw[e,k,n]
 have H:g1.get? s.heap.objs.size=some { cls:=.type "tuple_iterator",data:=.fields #[.ref i,.int 0 0] }:=by rw[<-d];exact aX _ rfl
 have G:g2.get? (s.heap.objs.size+1)=some { cls:=.type "tuple_iterator",data:=.fields #[.ref f,.int 0 0] }:=by rw[<-b,<-s1];exact aX _ rfl
 have D:IsPair g3 (s.heap.objs.size+2) (.ref s.heap.objs.size) (.ref (s.heap.objs.size+1)):=by rw[<-a,<-p,<-s1];exact aX _ rfl
 have C:IsPair h' (s.heap.objs.size+3) .none .none:=by rw[e,<-n];exact aX _ rfl
 have u:∀ c o,g1.get? c=some o->g2.get? c=some o:=λc o x=>by rw[<-b];exact aK _ x
 have m:∀ c o,g2.get? c=some o->g3.get? c=some o:=λc o x=>by rw[<-a];exact aK _ x
 have l:∀ c o,g3.get? c=some o->h'.get? c=some o:=λc o x=>by rw[e];exact aK _ x
 have j:∀ {c:Ad}{o:Obj} (z:Obj),h'.get? c=some o->(h'.push z).get? c=some o:=λz x=>aK _ x
 have B:∀ c o,s.heap.get? c=some o->g1.get? c=some o:=λc o x=>by rw[<-d];exact aK _ x
 show _/\_;rw[p,n];have y:IsZip (h'.push { cls:=.type "zip",data:=.fields #[.none,.bool false,.bool false,.ref (s.heap.objs.size+2),.ref (s.heap.objs.size+3)] }) (s.heap.objs.size+4) (s.heap.objs.size+2) (s.heap.objs.size+3) .none:=by rw[<-v];exact aX _ rfl
 rw[v];exact⟨⟨_,y,rfl⟩,h _ ⟨y,j _ (l _ _ D),⟨_,_,j _ C⟩,⟨_,j _ (l _ _ (m _ _ (u _ _ H))),rfl,rfl⟩,⟨_,j _ (l _ _ (m _ _ G)),rfl,rfl⟩⟩ λc o x=>j _ (l _ _ (m _ _ (u _ _ (B _ _ x))))⟩
theorem Zfo{x y:Expr}{u:TA}{p:Pos}(G:Gl X "zip")(F:X.mg "zip"=none)(J:PA X [x,y] u)(t:[x,y].all Zg=true):PI X (.Tuple elts kk tp) (.Call (.Name "zip" p) [x,y] [] pos) (ZgH X.K u):=by
 intro pQ s O H R I h;rw[bC,bC,bA7,bA7]at t;have e:starEach [y] X.env=[(false,eval y X.env)]:=Zd t.2.1;have E:starEach [x,y] X.env=[(false,eval x X.env),(false,eval y X.env)]:=by rw[Zd t.1,e]
 refine Call_ (ld_blt I G F ZeM (PyProof.Rows.callWith_type1 (thn (J pos pQ s O H _ I h) λN s1 ⟨vs,L,l,A,C⟩=>?_) (by rw[E,e]) (by rw[e];rfl)))
 obtain⟨a,b,rfl,⟨M,n⟩,⟨ys,m⟩,q⟩:=C;cases A with
 |cons r o=>
  cases o with
  |cons B o=>
   cases o;cases r;cases B;obtain⟨v,_,D,_⟩:=l.tuple n;obtain⟨f,_,p2,_⟩:=l.tuple m;have d:∀ {i j:Nat},i≠j->(s1.heap.objs.size+i:Nat)≠s1.heap.objs.size+j:=λh z=>h (Nat.add_left_cancel z)
   refine Jp D (show s1.heap.IsTuple b f.toArray from p2) λh' st k=>wpAny_pyIter_zip st.hz ?_
   refine⟨s1.heap.objs.size+4,[s1.heap.objs.size+4,s1.heap.objs.size+2,s1.heap.objs.size+3,s1.heap.objs.size,s1.heap.objs.size+1],_,_,L,rfl,l.kept (t':=s1.toks) k,Zb2 _ _ _ _ _ a b ⟨d (i:=2) (j:=4) (by decide),d (i:=3) (j:=4) (by decide),d (i:=0) (j:=4) (by decide),d (i:=1) (j:=4) (by decide),d (i:=2) (j:=3) (by decide),d (i:=2) (j:=0) (by decide),d (i:=2) (j:=1) (by decide),d (i:=3) (j:=0) (by decide),d (i:=3) (j:=1) (by decide),d (i:=0) (j:=1) (by decide)⟩,st,λc g=>?_,q⟩
   have w:s1.heap.objs.size<=c:=by
    simp only[aF,aU,or_false]at g;rcases g with rfl|rfl|rfl|rfl|rfl
    ·exact dN _ _
    ·exact dN _ _
    ·exact dN _ _
    ·exact aD _
    ·exact dN _ _
   exact l.fpOk w (l.hok.fresh w)
section
variable{prog:Program}{w:World}{A:Around}{E:vL->sH7->Prop}{s:sH7}
open Sem (wp)
open AutoSeq1 (wpAny_loadPart')
theorem Ju(f:A.handled=none)(it l:Ad)(c:l≠it)(items:Array vL) :
  Draws prog w A it [it,l] items.size (λi v=>items[i]?=some v) (λi h=>h.IsTupleIter it l i/\h.IsTuple l items) where
 live:=λ_ _ st=>let ⟨o,ho,_⟩:=st.1;⟨o,ho⟩
 frame:=λ_ _ _ st d=>⟨st.1.at λo e=>d it (by simp) o e,st.2.at λo e=>d l (by simp) o e⟩
 item:=λi s Q E g st j=>Ys f st.1 st.2 (λx h' e b a=>j x h' s.toks e ⟨b,st.2.extBut a.extBut c⟩ a) λe=>absurd e (by simp[g])
 done:=λs Q E st k=>Ys f st.1 st.2 (λx h' e=>absurd e (by simp)) λ_=>k
theorem Wl(l:Ad)(items:Array vL)(n:Nat)(dct:Ot Ad)(sl:Array (Ot vL)) :
  Meets (Builtin.«enumerate.__new__» ⟨[.type "enumerate",.ref l],[]⟩) (λ_ R s=>s.heap.get? l=some { cls:=.type "tuple",dict:=dct,data:=.seq items n,slots:=sl } /\
   R (.ok (.ret (.ref (s.heap.push { cls:=.type "tuple_iterator",data:=.fields #[.ref l,.int 0 0] }).objs.size)))
    { s with heap:=(s.heap.push { cls:=.type "tuple_iterator",data:=.fields #[.ref l,.int 0 0] }).push { cls:=.type "enumerate",data:=.fields #[.none,.bool false,.ref s.heap.objs.size,rawInt 0,.none,.none] } }):=
 .of_wp λprog w A R s h=>by
  obtain⟨j,g,d,f,i⟩:=s;obtain⟨a,h⟩:=h;have e:=sub_enumerate;have b:Heap.IsTuple (Shared.heap ⟨j,g,d,f,i⟩) l items:=⟨_,a,rfl,n,rfl⟩
  wp_walk using wpAny_loadPart' a
  refine wpAny_stack_any λst=>aE ?_
  split
  ·rename_i c _ _ _ _ _
   cases (c==Value.type "enumerate")
   ·wp_walk using wpAny_loadPart' a,wpAny_pyIter_tuple b
    exact⟨_,rfl,h⟩
   ·wp_walk using wpAny_loadPart' a,wpAny_pyIter_tuple b
    exact⟨_,rfl,h⟩
  ·wp_walk using wpAny_loadPart' a,wpAny_pyIter_tuple b
   exact⟨_,rfl,h⟩
theorem WA{l:Ad}{Q:vL->sH7->Prop}(i:s.heap.IsTuple l items)(h:∀ h',IsEnum h' (s.heap.objs.size+1) s.heap.objs.size 0 .none->h'.IsTupleIter s.heap.objs.size l 0->h'.objs.size=s.heap.objs.size+2->
   (∀ b o,s.heap.get? b=some o->h'.get? b=some o)->Q (.ref (s.heap.objs.size+1)) { s with heap:=h' }) :
  wpAny (model prog w) A (call (.type "enumerate") [.ref l]) Q E s:=by
 obtain⟨⟨c,dct,j,sl⟩,g,e,n,d⟩:=i;replace e:c=.type "tuple":=e;replace d:j=.seq items n:=d;subst e d;refine callType_new PySem.F.called_enumerate (by decide) (PySem.F.typeCall_enumerate_1 _) (PySem.F.newCall_enumerate_1 _) (λobj=>PySem.F.args_object_init_2 obj _) PySem.F.entry_enumerate_new
  (Wl l items n dct sl) ⟨g,?_⟩
 have a:(s.heap.push { cls:=.type "tuple_iterator",data:=.fields #[.ref l,.int 0 0] }).objs.size=s.heap.objs.size+1:=Heap.size_push ..;show _/\_;rw[a];have f:IsEnum ((s.heap.push { cls:=.type "tuple_iterator",data:=.fields #[.ref l,.int 0 0] }).push
   { cls:=.type "enumerate",data:=.fields #[.none,.bool false,.ref s.heap.objs.size,rawInt 0,.none,.none] }) (s.heap.objs.size+1) s.heap.objs.size 0 .none:=by
  have:=aX (s.heap.push { cls:=.type "tuple_iterator",data:=.fields #[.ref l,.int 0 0] })
   (o:={ cls:=.type "enumerate",data:=.fields #[.none,.bool false,.ref s.heap.objs.size,rawInt 0,.none,.none] }) rfl
  rw[a]at this;exact this
 refine⟨⟨_,f,rfl⟩,h _ f ⟨_,aK _ (aX _ rfl),rfl,rfl⟩ (by rw[Heap.size_push,a]) λb o x=>aK _ (aK _ x)⟩
end
noncomputable def Ite(sq:Hp->Li V->Prop):It:=
 ⟨λi H=>∃ a x,sq H a/\a[i]?=some x,λi H v H'=>∃ T x,v=.ref T/\H T=none/\H'=upd H T (.tup [.int (i:Int),x])/\∀ a,sq H a->a[i]?=some x,λi H=>∃ a,sq H a/\a.length=i⟩
def Qw(K:fG7)(d:TA):TI:=λO H R=>d O H λvs b=>∃ a,vs=[.ref a]/\(((∃ c,SqL K b a c)/\R (Ite λH=>SqL K H a) b)\/((∃ c,SqT K b a c)/\R (Ite λH=>SqT K H a) b))
theorem WW{P:Program}{K:fG7}{sq:Hp->Li V->Prop}{it1:Nat->Heap->Prop}(e it a:Ad)(d:e≠it)(hi:∀ i h,it1 i h->∃ o,h.get? it=some o/\∀ v,o.data≠.cell v)(hk:∀ i h h',it1 i h->(∀ o,h.get? it=some o->h'.get? it=some o)->it1 i h')(hD:∀ (X:Cx),X.prog=P->X.w=w->X.K=K->X.calm=true->∀ (pQ:Li (Ad×Obj)) (s:sH7) (O:L2.St) (H:Hp) (i:Nat) (j:Li V),L2.Inv X pQ O H s->(∃ f,IsEnum s.heap e it i f)->it1 i s.heap->sq H j->
   (∀ ys,sq H ys->ys=j)/\∃ (b:Li vL) (N:Heap->Prop),Vals j b/\a≠e/\N s.heap/\Draws P w X.A.in1 it [it,a] b.toArray.size (λi v=>b.toArray[i]?=some v) (λi h=>it1 i h/\N h)) :
  Turn P w K (.Tuple elts kk pos) (Ite sq) [e,it] e (λi h=>(∃ f,IsEnum h e it i f)/\it1 i h) where
 mem:=by simp
 obj:=λi h st c p=>by
  obtain⟨⟨f,m⟩,M⟩:=st;simp only[aF,aU,or_false]at p;rcases p with rfl|rfl
  ·exact⟨_,m,λv q=>by cases (show Data.fields _=Data.cell v from q)⟩
  ·exact hi i h M
 keep:=λi h h' st k=>by
  obtain⟨⟨f,m⟩,M⟩:=st;exact⟨⟨f,k e (by simp) _ m⟩,hk i h h' M λo g=>k it (by simp) o g⟩
 item:=by
  intro X G C J p i pQ s O H E I Q st Z;obtain⟨j,x,Y,ex⟩:=Z;obtain⟨l,b,N,r,U,S,D⟩:=hD X G C J p pQ s O H i j I st.1 st.2 Y;subst G C J;have W:=WalksT.enumerateD D e d (by simp only[aF,aU,or_false];exact λq=>q.elim d λq=>U q.symm) (by simp)
  have l1:=r.length;have ix:i < j.length:=(bK.mp ex).1;refine W.item i s _ _ (by simp;omega) ⟨st.1,st.2,S⟩ λT vals h' tk hv hT tup B k1=>?_
  obtain⟨t,u,eu,rfl⟩:=hv;refine⟨.ref T,rfl,W.go elts kk pos i T _ _ _ B λL z k2=>?_⟩
  have nT:=W.apart i T h' B;have ru:RelV x u:=by
   obtain⟨u',R,e2⟩:=r.get ex;have:b[i]?=some u:=by simpa using eu
   rw[this]at R;cases R;exact e2
  have y:L.IsTuple T #[.int i t,u]:=tup.at λo g=>k2 T o nT g
  have I2:L2.Inv X pQ O (upd H T (.tup [.int (i:Int),x])) { s with heap:=L,toks:=tk }:=Y1 (wr:=[e,it]) I Q (λc o F g=>k2 c o F (k1 c o F g)) hT ⟨show 2<=sizeLine by decide,[.int i t,u],.cons ⟨t,rfl⟩ (.cons ru .nil),y⟩
  refine⟨.ref T,_,I2,rfl,⟨T,x,rfl,I.hok.fresh hT,rfl,λxs' q=>by rw[l _ q];exact ex⟩,⟨z.1,z.2.1⟩,λc n=>?_⟩
  have:c≠T:=λq=>by
   have lt:∀ {o},s.heap.get? c=some o->False:=λg=>absurd (aJ g) (Nat.not_lt.mpr (by rw[q];exact hT))
   obtain⟨⟨_,m⟩,M⟩:=st;obtain⟨_,g,_⟩:=hi _ _ M;simp only[aF,aU,or_false]at n;rcases n with rfl|rfl
   ·exact lt m
   ·exact lt g
  rw[upd_ne this];exact(Q c n).1
 done:=by
  intro X G C J p i pQ s O H E I Q st Z;obtain⟨j,Y,hle⟩:=Z;obtain⟨l,b,N,r,U,S,D⟩:=hD X G C J p pQ s O H i j I st.1 st.2 Y;subst G C J;have W:=WalksT.enumerateD D e d (by simp only[aF,aU,or_false];exact λq=>q.elim d λq=>U q.symm) (by simp)
  have l1:=r.length;have R:i=b.toArray.size:=by simp;omega
  subst R;exact W.done s _ _ ⟨st.1,st.2,S⟩ λh' tk k=>⟨rfl,XI (wr:=[e,it]) I Q k⟩
 self:=λ_ _ _ _ _ st h=>let ⟨⟨_,m⟩,_⟩:=st;wpAny_pyIter_enum m h
theorem V7{e it:Ad}{i:Int}{d:vL}{a:Ad}{o:Obj}{n:String}(b:IsEnum h e it i d)(g:h.get? a=some o)(c:o.cls=.type n)(f:¬n = "enumerate"):a≠e:=λq=>by
 subst q;have b:h.get? a=some _:=b;rw[g]at b;cases b;exact Zbj c λz=>f z.symm
theorem V8{a b:Ad}{o u:Obj}{n m:String}(g:h.get? a=some o)(c:o.cls=.type n)(g2:h.get? b=some u)(d:u.cls=.type m)(e:¬n=m):a≠b:=λq=>by
 subst q;rw[g]at g2;cases g2;rw[c]at d;exact Zbj d e
theorem Zcs:bootBuiltins "enumerate"=some (.type "enumerate"):=by decide +kernel
theorem Zdb{x:Expr}{E:TA}{p:Pos}(P:Gl X "enumerate")(N:X.mg "enumerate"=none)(Q:PA X [x] E)(M:starEach [x] X.env=[(false,eval x X.env)]):PI X (.Tuple elts kk tp) (.Call (.Name "enumerate" p) [x] [] pos) (Qw X.K E):=by
 intro pQ s O H R I h;refine Call_ (ld_blt I P N Zcs (PyProof.Rows.callWith_type1 (thn (Q pos pQ s O H _ I h) λS s1 ⟨vs,D,l,J,L⟩=>?_) M rfl))
 obtain⟨a,rfl,q⟩:=L;have F:∀ c∈[s1.heap.objs.size+1,s1.heap.objs.size],FpOk X pQ D c:=λc m=>by
  have j:s1.heap.objs.size<=c:=by
   simp only[aF,aU,or_false]at m;rcases m with rfl|rfl
   ·exact dN _ _
   ·exact aD _
  exact l.fpOk j (l.hok.fresh j)
 cases J with
 |cons r G=>
  cases G;cases r;rcases q with⟨⟨n,sq⟩,q⟩|⟨⟨n,sq⟩,q⟩
  ·obtain⟨b,_,t,_⟩:=l.list sq
   refine call_enumerate_list t.isList λh' d e y k=>wpAny_pyIter_enum d ?_
   refine⟨s1.heap.objs.size+1,[s1.heap.objs.size+1,s1.heap.objs.size],_,_,D,rfl,l.kept (t':=s1.toks) k,WW (it1:=λi h=>h.IsListIter _ a i) _ _ a (Nat.succ_ne_self _) (λi h st=>?_) (λi h h' st k=>st.at k) (λX z w B j pQ s O H i n I d e sq=>?_),⟨⟨_,d⟩,e⟩,F,q⟩
   ·obtain⟨o,g,_,f⟩:=st
    exact⟨o,g,λv q=>by rw[f]at q;cases q⟩
   ·rw[<-z,<-w]
    rw[<-B]at sq ⊢;obtain⟨b,r,p,_⟩:=I.list sq;obtain⟨⟨_,d⟩,⟨o2,g2,C,_⟩⟩:=And.intro d e;obtain⟨o,g,c,_⟩:=p.isList;exact⟨λys u=>ZdF I sq u,b,λh=>h.IsList a b.toArray,r,V7 d g c (by decide),p.isList,Draws.list (show X.A.in1.handled=none from I.ok.hd j) _ a (V8 g c g2 C (by decide)) b.toArray⟩
  ·obtain⟨b,_,t,_⟩:=l.tuple sq
   refine WA (show s1.heap.IsTuple a b.toArray from t) λh' d e y k=>wpAny_pyIter_enum d ?_
   refine⟨s1.heap.objs.size+1,[s1.heap.objs.size+1,s1.heap.objs.size],_,_,D,rfl,l.kept (t':=s1.toks) k,WW (it1:=λi h=>h.IsTupleIter _ a i) _ _ a (Nat.succ_ne_self _) (λi h st=>?_) (λi h h' st k=>st.at k) (λX z w B j pQ s O H i n I d e sq=>?_),⟨⟨_,d⟩,e⟩,F,q⟩
   ·obtain⟨o,g,_,f⟩:=st
    exact⟨o,g,λv q=>by rw[f]at q;cases q⟩
   ·rw[<-z,<-w]
    rw[<-B]at sq ⊢;obtain⟨b,r,p,_⟩:=I.tuple sq;have p:s.heap.IsTuple a b.toArray:=p;obtain⟨⟨_,d⟩,⟨o2,g2,C,_⟩⟩:=And.intro d e;obtain⟨o,g,c,_⟩:=id p;exact⟨λys u=>I.tuple_inj u sq,b,λh=>h.IsTuple a b.toArray,r,V7 d g c (by decide),p,Ju (show X.A.in1.handled=none from I.ok.hd j) _ a (V8 g c g2 C (by decide)) b.toArray⟩
theorem WM:∀ {a:Li D}{k i:Nat}{x:D},a[i]?=some x->(Xj k a)[i]?=some (.int ((k+i:Nat):Int),x)
 |[],_,_,_,h=>nomatch h
 |x :: a,k,0,_,h=>by cases h;rfl
 |x :: a,k,i+1,y,h=>by
  show(Xj (k+1) a)[i]?=_;rw[WM (show a[i]?=some y from h),show k+1+i=k+(i+1) by omega]
theorem XA:∀ {a:Li D}{k:Nat},(Xj k a).length=a.length
 |[],_=>rfl
 |x :: a,k=>congrArg (·+1) XA
theorem ZaE{K:fG7}{L:Ev}{f:Ex}(E:Ends)(O:L2.St)(H:Hp)(h:tS K (VR i j L f) E O H):tFor (Qw K (tCons (tE K L) tNil)) (gTup K 2 (gCons (gName i) (gCons (gName j) gNil))) (tS K f) E O H:=by
 obtain⟨ad,U,st,r,st',En,S,e,p⟩:=ZL h;unfold VR at e;split at e
 ·rename_i x d P
  split at e
  ·rename_i C ok n
   have t:∀ {sq:Hp->Li V->Prop}{m:Li Ad}{B:Hp} (b:Li Ad->Hp->Prop),(∀ ad H ad' H',Ext ad H ad' H'->b ad H->b ad' H')->b m B->
     (∀ ad H st,b ad H->StOk K ad H st->ok st->∃ vs,Dens K ad H vs C/\sq H vs)->Ext ad H m B->StOk K m B d->Zgp K f i j (Ite sq) E O B:=λb T g1 I u A=>
    ⟨_,⟨_,.mk (bE _) (En.mono u) A g1 e (p.later u)⟩,Wj T (λad H st g S o=>by
      obtain⟨vs,rv,D⟩:=I ad H st g S o;exact⟨vs,D,by rw[rv.length,XA]⟩) λk ad H st q g S o F=>by
      obtain⟨vs,rv,D⟩:=I ad H st g S o;have R:k < C.length:=by rw[<-XA (k:=0)];exact(bK.mp F).1
      have J:=lG7 R;rw[WM (k:=0) J,bE]at F;cases F;obtain⟨w,M,Z⟩:=rv.get J;exact⟨_,w,⟨vs,w,D,M⟩,.int _,Z,λx H' ⟨pt,y1,Y,X,W,Q⟩=>⟨pt,Y,X,by have z:=Q vs D;rw[M]at z;cases z;exact W⟩⟩⟩
   refine⟨ad,U,st,x,d,En,S,P,λv m B u A N=>?_⟩
   cases x with
   |tup ys=>
    cases n;obtain⟨a,vs,rfl,y,rv⟩:=N.ofTup;exact⟨a,rfl,.inr ⟨⟨vs,y.sq⟩,t (λad H=>TupAt K H a vs/\Dens K ad H vs C) (λ_ _ _ _ x g=>⟨g.1.mono x,g.2.mono x⟩) ⟨y,rv⟩ (λad H st g _ _=>⟨vs,g.2,g.1.sq⟩) u A⟩⟩
   |lst l=>
    have n:(match d[l]? with
     |some c=>some (c.2,λs=>s[l]?=some c)
     |none=>none)=some (C,ok):=n
    cases G:d[l]? with
    |none=>rw[G]at n;cases n
    |some c=>
     rw[G]at n;cases n;obtain⟨a,rfl,y⟩:=N.ofLst;obtain⟨vs,rv,sq⟩:=A.list y (show d[l]?=some (c.1,c.2) from G);exact⟨a,rfl,.inl ⟨⟨vs,sq⟩,t (λad H=>LA ad H l a) (λ_ _ _ _ x g=>g.mono x) y (λad H st g S e=>S.list g (show st[l]?=some (c.1,c.2) from e)) u A⟩⟩
   |_=>exact Zb n
  ·exact Zb e
 ·exact Zb e
theorem Wb{a:Expr}{x:CE}(K:Cxt X G F sc N)(h:YV G sc it=some a)(b:Zg a=true)(A:PE X a (tE X.K (ev F x))):Zg it=true/\PI X (.Tuple elts kk tp) it (Qw X.K (tCons (tE X.K (ev F x)) tNil)):=by
 obtain⟨as,c,f⟩:=dA.mp h;rw[QO f]at c;obtain⟨_,_,rfl,e,d⟩:=W9 K c;exact⟨rfl,Zdb e d (pa1 b A) (Zd b)⟩
theorem WF(K:Cxt X G F sc N)(h:Xt G sc it=some as):∃ p pos a b,it=.Call (.Name "zip" p) [a,b] [] pos/\as=[a,b]/\Gl X "zip"/\X.mg "zip"=none:=by
 obtain⟨bs,i,g⟩:=dA.mp h;obtain⟨p,pos,rfl,e,d⟩:=W9 K i;refine Y0 g λc f=>?_
 cases f;cases as with
 |nil=>cases c
 |cons a as=>cases as with
  |nil=>cases c
  |cons b as=>cases as with
   |nil=>exact⟨p,pos,_,_,rfl,rfl,e,d⟩
   |cons _ _=>cases c
theorem ZbN(d:Zp G F n)(a:ZN G F n)(K:CxtS X G F sc N){c:CS}{b:Li Stmt}(h:o2 CS.whl (cE G n sc N e) (cSs G n sc N b)=some c):PS X (.While e b [] pos) (tS X.K (ex F c)):=
 ZO (P:=λc=>PS X _ (tS X.K (ex F c))) h λi j f g=>Zw (ps_while (Yz K) (d X sc N K.toCxt _ i f).pt (a X sc N K _ j g)) Jz
theorem ZdA(e:Yh G F n)(d:ZN G F n)(K:CxtS X G F sc N){c:CS}{x y:Str}{b:Li Stmt}{p:Pos}(m:N.idxOf? x=some i)(l:N.idxOf? y=some j)(g:Xt G sc it=some as)(h:o2 (CS.forP i j) (cEs G n sc N as) (cSs G n sc N b)=some c):PS X (.For (.Tuple [.Name x p,.Name y p2] ctx tp) it b [] pos) (tS X.K (ex F c)):=by
 refine ZO (P:=λc=>PS X _ (tS X.K (ex F c))) h λs t q r=>?_
 obtain⟨u,p3,a,v,rfl,rfl,o,k⟩:=WF K.toCxt g;obtain⟨A,_,f,_⟩:=e X sc N K.toCxt _ s q;exact Zw (ps_for (Yz K) K.calm (Zfo o k A f) (pg_tup K.calm (pgs_cons (ZT K m) (pgs_cons (ZT K l) pgs_nil))) (d X sc N K _ t r) (ZF rfl)) ZaG
theorem Zdz(d:Zp G F n)(a:ZN G F n)(K:CxtS X G F sc N){c:CS}{x y:Str}{b:Li Stmt}{p:Pos}(m:N.idxOf? x=some i)(l:N.idxOf? y=some j)(k:XU G sc it=some e)(h:o2 (CS.forE i j) (cE G n sc N e) (cSs G n sc N b)=some c):PS X (.For (.Tuple [.Name x p,.Name y p2] ctx tp) it b [] pos) (tS X.K (ex F c)):=by
 refine ZO (P:=λc=>PS X _ (tS X.K (ex F c))) h λq r f o=>?_
 obtain⟨g,A⟩:=Wb (elts:=[.Name x p,.Name y p2]) (kk:=ctx) (tp:=tp) K.toCxt k (Ze f) (d X sc N K.toCxt _ q f).pe;exact Zw (ps_for (Yz K) K.calm A (pg_tup K.calm (pgs_cons (ZT K m) (pgs_cons (ZT K l) pgs_nil))) (a X sc N K _ r o) (ZF g)) ZaE
theorem Zdx(d:Zp G F n)(a:ZN G F n)(K:CxtS X G F sc N){c:CS}{x y z:Str}{b:Li Stmt}{p:Pos}(h:o3 (λ(p:Nat×Nat) (q:Nat×CE) b=>CS.for4 p.1 p.2 q.1 q.2 b) (o2 Prod.mk (N.idxOf? x) (N.idxOf? y)) (o2 Prod.mk (N.idxOf? z) (cE G n sc N it)) (cSs G n sc N b)=some c):PS X (.For (.Tuple [.Name x p,.Name y p2,.Name z p3] ctx tp) it b [] pos) (tS X.K (ex F c)):=
 YZ (P:=λc=>PS X _ (tS X.K (ex F c))) h λu v e k g s=>ZO (P:=λu:Nat×Nat=>PS X _ (tS X.K (ex F (.for4 u.1 u.2 v.1 v.2 e)))) k λi j r o=>ZO (P:=λv:Nat×CE=>PS X _ (tS X.K (ex F (.for4 i j v.1 v.2 e)))) g λl t m f=>
  Zw (ps_for (Yz K) K.calm (pi_tup (d X sc N K.toCxt _ t f).pe) (pg_tup K.calm (pgs_cons (ZT K r) (pgs_cons (ZT K o) (pgs_cons (ZT K m) pgs_nil)))) (a X sc N K _ e s) (ZF (Ze f))) ZaD
theorem Zdv(d:Zp G F n)(a:ZN G F n)(K:CxtS X G F sc N){c:CS}{x y:Str}{b:Li Stmt}{p:Pos}(f:N.idxOf? x=some i)(e:N.idxOf? y=some j)(h:o2 (CS.for2 i j) (cE G n sc N it) (cSs G n sc N b)=some c):PS X (.For (.Tuple [.Name x p,.Name y p2] ctx tp) it b [] pos) (tS X.K (ex F c)):=by
 refine ZO (P:=λc=>PS X _ (tS X.K (ex F c))) h λo m k l=>?_
 have A:=(d X sc N K.toCxt _ o k).pe;have g:=ZF (env:=X.env) (Ze k);exact Zw (Zed (ps_for (Yz K) K.calm (pi_tup A) (pg_tup K.calm (pgs_cons (ZT K f) (pgs_cons (ZT K e) pgs_nil))) (a X sc N K _ m l) g) (ps_for (Yz K) K.calm (pi_list A) (pg_tup K.calm (pgs_cons (ZT K f) (pgs_cons (ZT K e) pgs_nil))) (a X sc N K _ m l) g)) ZaC
theorem ZfS(b:Zp G F n)(K:CxtS X G F sc N){c:CS}{x:Str}{p:Pos}(h:Zgs sc N x m ap cp (cE G n sc N e)=some c):PS X (.Expr (.Call (.Attribute (.Name x p) m ap) [e] [] cp) pos) (tS X.K (ex F c)):=by
 refine Y0 h λd h=>?_
 by_cases j:m = "append"
 ·subst j
  rw[if_pos rfl]at h;exact ZO (P:=λc=>PS X _ (tS X.K (ex F c))) h λi y f a=>Zw (ps_expr (pe_bm PySem.F.plainAttrs_list PySem.F.slot_list_append PySem.F.type_list_append mt_append (QS K.toCxt d.1 f) (pa1 (Ze a) (b X sc N K.toCxt _ y a).pe) rfl (by rw[Zd (Ze a)];rfl) d.2 (Zd (Ze a)) rfl) rfl) ZcG
 ·rw[if_neg j]at h
  by_cases g:m = "extend"
  ·subst g
   rw[if_pos rfl]at h;exact ZO (P:=λc=>PS X _ (tS X.K (ex F c))) h λi y f a=>Zw (ps_expr (pe_bm PySem.F.plainAttrs_list PySem.F.slot_list_extend PySem.F.type_list_extend mt_extend (QS K.toCxt d.1 f) (pa1 (Ze a) (b X sc N K.toCxt _ y a).pe) rfl (by rw[Zd (Ze a)];rfl) d.2 (Zd (Ze a)) rfl) rfl) ZcI
  ·rw[if_neg g]at h;cases h
theorem Zdt(d:Zp G F n)(f:X1 G F n)(K:CxtS X G F sc N){c:CS}(h:Zgt N tg e (cE G n sc N e)=some c):PS X (.Assign [tg] e pos) (tS X.K (ex F c)):=by
 have no:∀ {P:Prop},(none:Ot CS)=some c->P:=λz=>nomatch z
 cases tg with
 |Name x p=>exact ZfT d f K h
 |Tuple es ctx tp=>cases es with
  |nil=>exact no h
  |cons a es=>cases a with
   |Name _ _=>cases es with
    |nil=>exact no h
    |cons b es=>cases b with
     |Name _ _=>cases es with
      |nil=>exact ZdB d K h
      |cons g es=>cases g with
       |Name _ _=>cases es with
        |nil=>exact ZdC d K h
        |cons _ _=>exact no h
       |_=>exact no h
     |_=>exact no h
   |_=>exact no h
 |_=>exact no h
theorem Zdy(f:Zp G F n)(g:Yh G F n)(d:ZN G F n)(K:CxtS X G F sc N){c:CS}{b:Li Stmt}(h:ZeW G sc N (cE G n sc N) (cEs G n sc N) tg it (cSs G n sc N b)=some c):PS X (.For tg it b [] pos) (tS X.K (ex F c)):=by
 have no:∀ {P:Prop},(none:Ot CS)=some c->P:=λz=>nomatch z
 cases tg with
 |Name x p=>
  unfold ZeW at h;cases l:XF G sc it with
  |some as=>
   rw[l]at h;exact Zdw g d K l h
  |none=>
   rw[l]at h;exact Zdu f d K h
 |Tuple es ctx tp=>cases es with
  |nil=>exact no h
  |cons a es=>cases a with
   |Name x p=>cases es with
    |nil=>exact no h
    |cons v es=>cases v with
     |Name y p2=>cases es with
      |nil=>
       replace h:((o2 (λi j=>og (i≠j) (some (i,j))) (N.idxOf? x) (N.idxOf? y)).join.bind λp=>(match Xt G sc it with
        |some as=>o2 (CS.forP p.1 p.2) (cEs G n sc N as) (cSs G n sc N b)
        |none=>match XU G sc it with
         |some e=>o2 (CS.forE p.1 p.2) (cE G n sc N e) (cSs G n sc N b)
         |none=>o2 (CS.for2 p.1 p.2) (cE G n sc N it) (cSs G n sc N b)))=some c:=h
       refine b_e h λq m h=>j_e m λm=>ZO (P:=λo=>o=some q->PS X _ (tS X.K (ex F c))) m (λi j s r e=>Y0 e λ_ e=>?_) rfl
       cases e;cases k:Xt G sc it with
       |some as=>
        rw[k]at h;exact ZdA g d K s r k h
       |none=>
        rw[k]at h;dsimp only at h;cases t:XU G sc it with
        |some e=>
         rw[t]at h;exact Zdz f d K s r t h
        |none=>
         rw[t]at h;exact Zdv f d K s r h
      |cons u es=>cases u with
       |Name _ _=>cases es with
        |nil=>exact Zdx f d K h
        |cons _ _=>exact no h
       |_=>exact no h
     |_=>exact no h
   |_=>exact no h
 |_=>exact no h
theorem Zds(a:Zp G F n)(K:CxtS X G F sc N){c:CS}{o k:Expr}{p:Pos}(h:og (m = "append"/\(ap.endLine==cp.line)=true) (o2 CS.app2 (cE G n sc N (.Subscript o k p)) (cE G n sc N e))=some c):PS X (.Expr (.Call (.Attribute (.Subscript o k p) m ap) [e] [] cp) pos) (tS X.K (ex F c)):=by
 refine Y0 h λg h'=>?_
 obtain⟨i,f⟩:=g;subst i;exact ZO (P:=λc=>PS X _ (tS X.K (ex F c))) h' λz y d b=>Zw (ps_expr (pe_bm PySem.F.plainAttrs_list PySem.F.slot_list_append PySem.F.type_list_append mt_append (a X sc N K.toCxt _ z d).pe (pa1 (Ze b) (a X sc N K.toCxt _ y b).pe) rfl (by rw[Zd (Ze b)];rfl) f (Zd (Ze b)) rfl) rfl) Zax
theorem Zdr(a:Zp G F n)(K:CxtS X G F sc N){c:CS}{v:Expr}(h:Zgq sc N (cE G n sc N) v=some c):PS X (.Expr v pos) (tS X.K (ex F c)):=by
 have no:∀ {P:Prop},(none:Ot CS)=some c->P:=λz=>nomatch z
 cases v with
 |Call f as b cp=>cases f with
  |Attribute o m ap=>cases o with
   |Name x p=>cases as with
    |nil=>exact no h
    |cons e es=>cases es with
     |nil=>cases b with
      |nil=>exact ZfS a K h
      |cons _ _=>exact no h
     |cons _ _=>exact no h
   |Subscript o k p=>cases as with
    |nil=>exact no h
    |cons e es=>cases es with
     |nil=>cases b with
      |nil=>exact Zds a K h
      |cons _ _=>exact no h
     |cons _ _=>exact no h
   |_=>exact no h
  |Name f d=>exact ZfR a K h
  |_=>exact no h
 |_=>exact no h
theorem Uf(d:Zp G F n)(j:Yh G F n)(f:ZN G F n)(m:X1 G F n):Um G F (n+1):=by
 intro X sc N K s c h;have no:∀ {P:Prop},(none:Ot CS)=some c->P:=λz=>nomatch z
 cases s with
 |Assign g e pos=>cases g with
  |nil=>exact no h
  |cons t l=>cases l with
   |cons _ _=>cases t with
    |Subscript o k p=>cases o<;>exact no h
    |_=>exact no h
   |nil=>cases t with
    |Subscript o k p=>cases o with
     |Name x q=>exact ZfU d K h
     |_=>exact no h
    |_=>exact Zdt d m K h
 |Return e pos=>cases e with
  |none=>exact no h
  |some e=>exact ZfV d K h
 |If e a b pos=>exact Zhi d f K h
 |While e b i pos=>cases i with
  |cons _ _=>exact no h
  |nil=>exact ZbN d f K h
 |For t it b i pos=>cases i with
  |cons _ _=>exact no h
  |nil=>exact Zdy d j f K h
 |Expr v pos=>exact Zdr d K h
 |Pass pos=>
  cases (show some CS.skip=some c from h)
  exact Zw ps_pass VZ
 |Break pos=>
  cases (show some CS.brk=some c from h)
  exact Zw ps_break ZcH
 |Raise a b pos=>
  cases (show some CS.stop=some c from h)
  exact λpQ s O H D I q=>by
   obtain⟨_,_,_,_,_,_,_,e,_⟩:=ZL q;cases e
 |Continue pos=>
  cases (show some CS.cont=some c from h)
  exact Zw ps_continue Zay
 |_=>exact no h
theorem Vw(e:Um G F n)(d:ZN G F n):ZN G F (n+1):=by
 intro X sc N K s c h;cases s with
 |nil=>
  simp only[cSs]at h;cases h;exact QT pss_nil VZ
 |cons s r=>
  exact ZO (P:=λc=>PSs X _ (tS X.K (ex F c))) (show o2 CS.seq (cS G n sc N s) (cSs G n sc N r)=some c from h) λa b g f=>QT (pss_cons (e X sc N K s a g) (d X sc N K r b f)) ZcU
end
variable [ClsTab]
def YI(G:Gs)(F:Nat->Fn):Prop:=∀ n,Zp G F n->(∀ X sc N,Cxt X G F sc N->∀ elt gens sc2 pos c,cE G (n+1) sc N (.ListComp elt gens sc2 pos)=some c->SE X F (.ListComp elt gens sc2 pos) c)/\X1 G F (n+1)
theorem WU{G:Gs}{F:Nat->Fn}(d:YI G F):∀ n,(Zp G F n/\Yh G F n/\W2 G F n)/\Um G F n/\ZN G F n/\X1 G F n
 |0=>⟨⟨λX sc N K e c h=>(nomatch (show(none:Ot CE)=some c from h)),λX sc N K e c h=>(nomatch (show(none:Ot CE)=some c from h)),λX sc N K e c h=>(nomatch (show(none:Ot CE)=some c from h))⟩,λX sc N K e c h=>(nomatch (show(none:Ot CS)=some c from h)),λX sc N K e c h=>(nomatch (show(none:Ot CS)=some c from h)),λX sc N K x i p elt gens sc2 j pos c _ h=>(nomatch (show(none:Ot CE)=some c from h))⟩
 |n+1=>by
  obtain⟨⟨a,g,l⟩,k,b,f⟩:=WU d n;exact⟨⟨U2 a g l (d n a).1,Ud a g,Ue a⟩,Uf a g b f,Vw k b,(d n a).2⟩
def Jh(K:fG7)(G:Gs)(T:Nat->Ot FD)(x y:Str)(i:Nat)(f:Ad)(fd:FuncData)(pn N:Li Str):Prop:=∃ (st:Stmt) (oc:vL) (od:Ot Ad) (dV kV doc pm:vL) (an:Ot Ad) (cdv ct:vL) (osl:Array (Ot vL)) (code:CS),
  fd=W.fnOf x y (defArgs st) (defBody st) (defScope st) dV kV doc pm an cdv ct/\K.lookup f=some ⟨oc,od,.func fd,osl⟩/\W.codeIn K cdv y=true/\FnScope N pn (defScope st)/\(∀ y∈N,Loc (defScope st) y) /\
  cSs G 60 (defScope st) N (defBody st)=some code/\T i=some ⟨pn.length,N.length,code⟩
def Zcn(K:fG7)(mg:Str->Ot vL)(G:Gs)(T:Nat->Ot FD)(i:Nat)(f:Ad)(fd:FuncData)(pn:Li Str):Prop:=∀ (P:Program) (w:World) (base:Heap) (n:Nat),(∀ m,m<=n->∀ A,Room m A->∀ y g,G.lookup y=some g->GOk P w K mg base A (run T m) y g)->FnOk P w K mg base CX0 (n+1) f fd pn (spD K (run T (n+1) i))
structure DefOk(K:fG7)(mg:Str->Option Value)(G:Gs)(T:Nat->Option FD)(x:Str)(i:Nat)(ds:List D)(f:Addr)(fd:FuncData)(pn N:List Str):Prop where
 ob:Jh K G T x x i f fd pn N\/Zcn K mg G T i f fd pn
 kp:W.keepIn K (.ref f)=true
 at_:mg x=some (.ref f)
 bn:∀ m,m<=ds.length->∃ dvs us,(∀ ad H,Dens K ad H dvs (ds.drop m))/\Vals dvs us/\Binds K fd pn us
structure MethOk(K:fG7)(G:Gs)(T:Nat->Option FD)(C:Addr)(x y:Str)(i:Nat)(f:Addr)(fd:FuncData)(pn N:List Str):Prop where
 ob:Jh K G T x y i f fd pn N
 mt:Meth K C x f
 bn:Binds K fd pn []
structure Text(Pm:Params)(K:fG7)(mg:Str->Option Value)(G:Gs)(T:Nat->Option FD):Prop where
 cst:∀ x d,G.lookup x=some (.c d)->∃ v u,mg x=some u/\RelV v u/\∀ ad H,Den K ad H v d
 blt:∀ x,G.lookup x=some .blt->mg x=none
 dct:∀ x ks ds,G.lookup x=some (.dct ks ds)->Qe Pm K mg x ks ds
 fn:∀ x i ps ds,G.lookup x=some (.fn i ps ds)->∃ f fd pn N,DefOk K mg G T x i ds f fd pn N
 cls:∀ x i ms subs,G.lookup x=some (.cls i ms subs)->(mg x=some (.ref (ClsTab.ca i))/\NewOk K (ClsTab.ca i)/\∀ i',subs.contains i'=true->SubOk K (ClsTab.ca i') (ClsTab.ca i)) /\
  ∀ m j ps,ms.lookup m=some (j,ps)->∃ y f fd pn N,MethOk K G T (ClsTab.ca i) m y j f fd pn N
variable{pn:Li Str}
variable{P:Program}{w:World}{K:fG7}{mg:Str->Ot vL}{base:Heap}{T:Nat->Ot FD}
theorem Zb5{x:Str}(h:Xo sc x=true):Vis sc x:=by
 unfold Xo at h;rw[bA7]at h;have h:=h.2;split at h
 ·rename_i q;exact .inl q
 ·rename_i q;exact .inr (.inl q)
 ·rename_i q;exact .inr (.inr q)
 ·cases h
theorem Qu{x:Str}(h:ZB sc x=true):sc.names.lookup x=some .globalImplicit:=by
 unfold ZB at h;rw[bA7]at h;have h:=h.2;split at h
 ·rename_i q;exact q
 ·cases h
theorem Ql{x:Str}(h:Wf sc x=true):sc.names.lookup x=some .cell\/sc.names.lookup x=some .free:=by
 unfold Wf at h;split at h
 ·rename_i q;exact .inl q
 ·rename_i q;exact .inr q
 ·cases h
theorem Jx(h:Dens K ad H vs ds)(j:ds.length<=N.length):EnvOk K ad H (L2.start N vs) (ds.map some++List.replicate (N.length - ds.length) none):=by
 have e:=h.length;refine⟨by unfold L2.start;simp[e],λi d q=>?_⟩
 by_cases a:i < ds.length
 ·rw[bY (by simpa using a),aV,lG7 a]at q
  have b:ds[i]=d:=by simpa using q
  have g:ds[i]?=some d:=by rw[lG7 a,b]
  obtain⟨v,f,c⟩:=h.get g;refine⟨v,?_,c⟩;unfold L2.start;rw[bY (by simpa[e] using a),aV,f]
  rfl
 ·rw[cC (by simpa using a),eC]at q
  split at q<;>cases q
theorem Zfl{n:Nat}(M:∀ n,YI G (run T n))(gl:∀ A,Room n A->∀ y g,G.lookup y=some g->GOk P w K mg base A (run T n) y g){x y:Str}{f:Ad}{fd:FuncData}(L:Jh K G T x y i f fd pn N):FnOk P w K mg base CX0 (n+1) f fd pn (spD K (run T (n+1) i)):=by
 obtain⟨st,oc,Z,dV,kV,R,Y,an,z,ct,J,l,rfl,lk,v,S,k,c,O⟩:=L;have a:run T (n+1) i=fnD (run T n) ⟨pn.length,N.length,l⟩:=by
  show(match T i with|some f=>fnD (run T n) f|none=>λ_ _=>none)=_
  rw[O]
 refine fn_of lk v S (λvs H Q E h=>?_) (λA b s H vs Q E D h=>?_)
 ·obtain⟨ad,es,st,d,st',_,u,e,_⟩:=h
  rw[a]at e;unfold fnD at e;split at e
  ·rename_i t
   rw[u.length];exact t
  ·exact Zb e
 ·obtain⟨ad,es,X,d,st',S0,u,e,p⟩:=h
  rw[a]at e;unfold fnD at e;split at e
  ·rename_i t
   have C:CxtS (cxOf CX0 P w K mg base N y (defScope st) f z A b s H E).nox G (run T n) (defScope st) N:={
    hN:=rfl
    vis:=λy j=>Zb5 j
    glb:=λy j=>Qu j
    calm:=rfl
    hu:=D.units
    gl:=gl _ D
    cel:=λy j=>Ql j
    nx:=rfl
    nd:=S.nd
    loc:=k
    fn:=λ_=>rfl }
   have B:=(WU (M n) 60).2.2.1 _ _ _ C _ _ c;have r:pn.length<=N.length:=by have:=congrArg List.length S.pre;rw[cK]at this;omega
   have m:=Jx (N:=N) u (by rw[show es.length=pn.length from t];exact r)
   refine⟨_,B.nox,?_⟩;split at e
   ·rename_i d' o q
    cases e;exact ZI m S0 q p
   ·rename_i U o q
    cases e;exact ZI m S0 q λF V H1 I W E1=>(p.later I).at W .non
   ·exact Zb e
  ·exact Zb e
theorem ZdM{f:Ad}{fd:FuncData}:FnOk P w K mg base CX0 0 f fd pn (spD K (run T 0 i)):=by
 refine⟨λvs H Q E h=>?_,λA a s H b c vs Q E _ _ _ _ h=>?_⟩
 ·obtain⟨_,_,_,_,_,_,_,e,_⟩:=h;cases e
 ·obtain⟨_,_,_,_,_,_,_,e,_⟩:=h;cases e
theorem Zd4(X:Text w.params K mg G T)(h:∀ {x y:Str}{i:Nat}{f:Ad}{fd:FuncData}{pn N:Li Str},Jh K G T x y i f fd pn N\/Zcn K mg G T i f fd pn->FnOk P w K mg base CX0 n f fd pn (spD K (run T n i)))(A:Around)(e:Room n A):∀ y g,G.lookup y=some g->GOk P w K mg base A (run T n) y g:=λy g a=>by
 cases g with
 |c d=>exact X.cst y d a
 |blt=>exact X.blt y a
 |dct ks ds=>exact X.dct y ks ds a
 |fn j k es=>
  obtain⟨f,fd,pn,N,b⟩:=X.fn y j k es a;exact⟨n,f,fd,pn,h b.ob,e,b.at_,b.kp,b.bn⟩
 |cls i ms subs=>
  obtain⟨⟨s,r,q⟩,p⟩:=X.cls y i ms subs a;refine⟨s,r,q,λm j l o=>?_⟩
  obtain⟨z,f,fd,pn,N,Mk⟩:=p m j l o;exact⟨n,f,fd,pn,h (.inl Mk.ob),e,Mk.mt,Mk.bn⟩
theorem Up(c:∀ n,YI G (run T n))(X:Text w.params K mg G T):∀ (n m:Nat),m<=n->∀ {x y:Str}{i:Nat}{f:Ad}{fd:FuncData}{pn N:Li Str},Jh K G T x y i f fd pn N\/Zcn K mg G T i f fd pn->FnOk P w K mg base CX0 m f fd pn (spD K (run T m i))
 |n,0,_,_,_,_,_,_,_,_,_=>ZdM
 |n+1,m+1,h,_,_,_,_,_,_,_,.inl a=>Zfl c (λA b=>Zd4 X (λa=>Up c X n m (Nat.le_of_succ_le_succ h) a) A b) a
 |n+1,m+1,h,_,_,_,_,_,_,_,.inr e=>e P w base m λl d A b=>Zd4 X (λa=>Up c X n l (aP d (Nat.le_of_succ_le_succ h)) a) A b
theorem ZeC(a:∀ n,YI G (run T n))(X:Text w.params K mg G T)(n:Nat){x y:Str}{f:Ad}{fd:FuncData}(h:Jh K G T x y i f fd pn N\/Zcn K mg G T i f fd pn):FnOk P w K mg base CX0 n f fd pn (spD K (run T n i)):=Up a X n n (aD _) h
variable [ClsTab]
variable{ys:Li V}
section
variable{xs:Li V}
theorem Vk(b:H p=some (.lst xs)){a:Ad}:Z6 H a↔Z6 (upd H p (.lst ys)) a:=Wx (Wm b λ_ z=>nomatch z) λ_ z=>nomatch z
theorem UG{K:fG7}(a:H p=some (.lst xs)):Keeps K ad ad H (upd H p (.lst ys)):=⟨λh=>h.upd a (by intro xs z;cases z),λh=>⟨h,Vk a⟩,λ_ h=>by rw[upd_ne (ne_of h a (by intro z;cases z))];exact h,λh n=>⟨by rw[upd_ne (ne_of h a (by intro z;cases z))];exact h,n⟩⟩
theorem Den.wr{K:fG7}(a:H p=some (.lst xs)){v:V}(h:Den K ad H v d):Den K ad (upd H p (.lst ys)) v d:=h.map (UG a)
theorem Dens.wr{K:fG7}(a:H p=some (.lst xs))(h:Dens K ad H vs ds):Dens K ad (upd H p (.lst ys)) vs ds:=h.map (UG a)
theorem EnvOk.wr{K:fG7}(a:H p=some (.lst xs))(h:EnvOk K ad H O U):EnvOk K ad (upd H p (.lst ys)) O U:=⟨h.len,λi d e=>let ⟨v,e1,e2⟩:=h.at_ i d e;⟨v,e1,e2.wr a⟩⟩
theorem StOk.wr{K:fG7}(S:StOk K ad H st)(a:H p=some (.lst xs))(b:p∉ad):StOk K ad (upd H p (.lst ys)) st:=
 S.wrG (UG a) b
theorem Ext.wr{e:Hp}(x:Ext ad0 e ad H)(f:H p=some (.lst xs))(d:e p=none):Ext ad0 e ad (upd H p (.lst ys)):=by
 refine⟨x.pre,λb c h=>?_,λb c h=>?_,λb o h n=>?_,x.new,λi a h=>(x.kd i a h).trans (Vk f)⟩
 ·rw[upd_ne (ne_of_none h d)];exact x.tup b c h
 ·rw[upd_ne (ne_of_none h d)];exact x.dk b c h
 ·rw[upd_ne (ne_of_none h d)];exact x.keep b o h n
end
theorem Wi{c:Str->NameKind->Bool}:∀ {l:Li (Str×NameKind)}{y:Str},(l.map λ(n,k)=>if c n k=true then (n,NameKind.cell) else (n,k)).lookup y=(l.lookup y).map λk=>if c y k=true then NameKind.cell else k
 |[],_=>rfl
 | (n,k) :: r,y=>by
  have a:=@Wi c r y;rw[aO];have e:(if c n k=true then (n,NameKind.cell) else (n,k))=(n,if c n k=true then NameKind.cell else k):=by split<;>rfl
  show List.lookup y ((if c n k=true then (n,NameKind.cell) else (n,k)) :: _)=_
  rw[e,bZ,bZ];cases q:y==n with
  |true=>rw[beq_iff_eq.mp q];rfl
  |false=>exact a
theorem Yc{env:PySem.Env}{y:Str}:(relabel sc env).names.lookup y=(sc.names.lookup y).map λk=>if (k==NameKind.free&&env.scope.kind==.function&&env.kindOf y==some .cell)=true then NameKind.cell else k:=
 Wi (c:=λn k=>k==NameKind.free&&env.scope.kind==.function&&env.kindOf n==some .cell)
theorem Yk{y:Str}{k:NameKind}(h:sc.names.lookup y=some k)(a:k≠.free):(relabel sc env).names.lookup y=some k:=by
 rw[Yc,h];have:(k==NameKind.free)=false:=by simpa using a
 show some (if (k==NameKind.free&&_&&_)=true then NameKind.cell else k)=some k
 rw[this,Bool.false_and,Bool.false_and,if_neg bF7]
theorem YA{y:Str}(h:sc.names.lookup y=some .free):(relabel sc env).names.lookup y=some .cell\/(relabel sc env).names.lookup y=some .free:=by
 rw[Yc,h];show(some (if _ then NameKind.cell else NameKind.free))=_\/(some (if _ then NameKind.cell else NameKind.free))=_
 split
 ·exact .inl rfl
 ·exact .inr rfl
theorem Vp{sc:Scope}{y:Str}(d:∀ p∈sc.names,p.2≠.cell)(h:(relabel sc env).names.lookup y=some .cell\/(relabel sc env).names.lookup y=some .free):sc.names.lookup y=some .free:=by
 rw[Yc]at h;cases q:sc.names.lookup y with
 |none=>rw[q]at h;rcases h with h|h<;>cases h
 |some k=>
  rw[q]at h;cases k with
  |free=>rfl
  |cell=>
   have:∀ {l:Li (Str×NameKind)},l.lookup y=some .cell->∃ p∈l,p.2=.cell:=λ{l} e=>by
    induction l with
    |nil=>exact Zb e
    |cons a l c=>
     obtain⟨n,k⟩:=a;rw[bZ]at e;split at e
     ·cases e;exact⟨_,lQ7,rfl⟩
     ·obtain⟨p,b,f⟩:=c e;exact⟨p,lM7 _ b,f⟩
   obtain⟨p,b,e⟩:=this q;exact absurd e (d p b)
  |_=>rcases h with h|h<;>simp at h
theorem Xa{env:PySem.Env}:∀ (l:Li (Str×NameKind)) (b:Li (Str×Ad)),(∀ p∈l,p.2=.free->∃ c,env.cells.lookup p.1=some c)->
  ∃ d,(forIn l b λ(x:Str×NameKind) (r:Li (Str×Ad))=>(do
   if (x.2==NameKind.free)=true then
    let a <-cellOf env x.1
    pure (ForInStep.yield ((x.1,a) :: r))
   else pure (ForInStep.yield r):Sem (ForInStep (Li (Str×Ad)))))=pure d /\
   (∀ y c,d.lookup y=some c->b.lookup y=some c\/((y,NameKind.free)∈l/\env.cells.lookup y=some c))/\(∀ y,(y,NameKind.free)∈l\/(b.lookup y).isSome->(d.lookup y).isSome)
 |[],b,_=>⟨b,by simp only[List.forIn_nil],λy c h=>.inl h,λy h=>by simpa using h⟩
 | (n,k) :: l,b,h=>by
  by_cases m:k=.free
  ·subst m
   obtain⟨t,f⟩:=h (n,.free) lQ7 rfl;obtain⟨d,e,s,o⟩:=Xa (env:=env) l ((n,t) :: b) λp j=>h p (lM7 _ j)
   refine⟨d,?_,λy c q=>?_,λy q=>?_⟩
   ·rw[cZ]
    simp only[beq_self_eq_true,if_true];have:cellOf env n=pure t:=by unfold cellOf;rw[f]
    simp only[this,pure_bind];exact e
   ·rcases s y c q with z|⟨i,g⟩
    ·rw[bZ]at z
     split at z
     ·rename_i u
      cases z;rw[beq_iff_eq.mp u];exact .inr ⟨lQ7,f⟩
     ·exact .inl z
    ·exact .inr ⟨lM7 _ i,g⟩
   ·refine o y ?_
    rcases q with q|q
    ·rcases aF.mp q with z|z
     ·cases z
      exact .inr (by rw[bZ];simp)
     ·exact .inl z
    ·refine .inr ?_
     rw[bZ];split
     ·rfl
     ·exact q
  ·obtain⟨d,e,s,o⟩:=Xa (env:=env) l b λp j=>h p (lM7 _ j)
   refine⟨d,?_,λy c q=>?_,λy q=>?_⟩
   ·rw[cZ]
    have:(k==NameKind.free)=false:=by simpa using m
    simp only[this,dI,if_false,pure_bind];exact e
   ·rcases s y c q with z|⟨i,g⟩
    ·exact .inl z
    ·exact .inr ⟨lM7 _ i,g⟩
   ·refine o y ?_
    rcases q with q|q
    ·rcases aF.mp q with z|z
     ·cases z;exact absurd rfl m
     ·exact .inl z
    ·exact .inr q
theorem VJ{sc:Scope}(h:∀ p∈sc.names,p.2=.free->∃ c,env.cells.lookup p.1=some c):∃ a,closureFor sc env=pure a/\(∀ y c,a.lookup y=some c->env.cells.lookup y=some c)/\∀ y,(y,NameKind.free)∈sc.names->(a.lookup y).isSome:=by
 obtain⟨a,e,d,b⟩:=Xa (env:=env) sc.names [] h;refine⟨a,?_,λy c q=>?_,λy q=>b y (.inl q)⟩
 ·unfold closureFor
  rw[show(λ(x:Str×NameKind) (r:Li (Str×Ad))=>_)=_ from rfl]at e
  first|exact(by simp only[e,pure_bind]) | (simp only[bind_pure]at *;exact e)|exact e
 ·rcases d y c q with z|⟨_,z⟩
  ·exact Zb z
  ·exact z
variable [ClsTab]
variable{iter:Expr}{ifs:Li Expr}
theorem VL{R:Result->sH7->Prop}{s:sH7}{a:Expr}{scope:Scope}{it p:vL}(I:Nat->sH7->Prop)(turn:∀ n s,I n s->wpAny (model prog w) A (pyNext it) (λr g=>match r with
   |none=>R (.ok .next) g
   |some v=>wpAny (model prog w) A (letOwnedTupleGo a it v) (λ_ f=>wpAny (model prog w) A (assign a env v) (λ_ l=>
     wpAny (model prog w) A (forIn ifs true λc r=>if r=true then do let ok <-isTrue c env (eval c env);pure (ForInStep.yield ok) else pure (ForInStep.yield r)) (λok d=>
      if ok=true then wpAny (model prog w) A (eval elt env) (λx k=>
       wpAny (model prog w) A (call (.builtin "list.append") [p,x]) (λ_ j=>∃ m,m < n/\I m j) (notedBy (model prog w) A env λe i=>R (.error e) i) k) (notedBy (model prog w) A env λe i=>R (.error e) i) d
      else ∃ m,m < n/\I m d) (notedBy (model prog w) A env λe i=>R (.error e) i) l) (notedBy (model prog w) A env λe i=>R (.error e) i) f) (notedBy (model prog w) A env λe i=>R (.error e) i) g) (notedBy (model prog w) A env λe i=>R (.error e) i) s)(n:Nat)(h:I n s):codeAny (model prog w) A (.compLoop (.ListComp elt [⟨a,iter,ifs,0⟩] scope pos) 0 it p env) R s:=by
 refine codeAny_loop rfl I (λn s y=>?_) n h
 show wpAny _ A ((compTurn (.ListComp elt [⟨a,iter,ifs,0⟩] scope pos) 0 it p env).onRaise (λx=>do noteFrame x env;theTreesLotGoes x)) _ _ s
 refine wpAny_noted ?_;rw[compTurn_list];refine aA (wpAny_standAt (aA (bG (turn n s y) (λr g b=>?_) λ_ _ h'=>h')))
 cases r with
 |none=>exact aE b
 |some v=>
  refine aA (bG b (λ_ f b=>?_) λ_ _ h'=>h')
  refine aA (bG b (λ_ l u=>aA (bG u (λok d o=>?_) λ_ _ h'=>h')) λ_ _ h'=>h')
  cases ok with
  |false=>exact aE ⟨rfl,o⟩
  |true=>
   exact aA (aA (bG o (λx k t=>aA (bG t (λ_ j q=>aE (aE ⟨rfl,q⟩)) λ_ _ h'=>h')) λ_ _ h'=>h'))
noncomputable def cxC(X:Cx)(N:Li Str)(env:PySem.Env)(a:sH7)(c:Hp)(b:Li Ad)(pQ:Li (Ad×Obj)):Cx:=
 { X with N:=N,s₀:=a,H₀:=c,env:=env,outer:=X.stack,ex:=b,fn:=λ_=>false,pn:=X.pn++pQ,xe:=λ_ _=>False }
variable{m0:Str->Ot vL}{tk:Nat}{O':L2.St}
variable{pQ:Li (Ad×Obj)}{O:L2.St}{s3:sH7}{sc2:Scope}{cl:Li (Str×Ad)}{N:Li Str}
section
variable{H3:Hp}{fp:Li Ad}
theorem ZaS(a:L2.Inv X pQ O H3 s3){G:Heap}(R:sc2.kind=.function)(f:∀ p∈sc2.names,p.2≠.cell)(E:G.Ns s3.heap.objs.size m0)(up:∀ b u,s3.heap.get? b=some u->G.get? b=some u)(k:∀ y c,cl.lookup y=some c->X.env.cells.lookup y=some c)(J:∀ y,sc2.names.lookup y=some .free->(cl.lookup y).isSome)(s:∀ b∈fp,FpOk X pQ H3 b)(S:∀ b∈fp,b < s3.heap.objs.size)(A:∀ (i:Nat) (y:Str) (v:V),N[i]?=some y->O'[i]?=some (some v)->∃ j:Nat,X.N[j]?=some y/\O[j]?=some (some v)/\sc2.names.lookup y=some .free/\(X.env.scope.names.lookup y=some .cell\/X.env.scope.names.lookup y=some .free))(Q:O'.length=N.length) :
  L2.Inv (cxC X N (compEnvC sc2 cl s3.heap.objs.size X.env) s3 H3 fp pQ) [] O' H3 { s3 with heap:=G,toks:=tk } where
 ok:={
  mod:=a.ok.mod
  kind:=R
  glob:=a.ok.glob
  blt:=a.ok.blt
  above:=aD _
  inj:=λx y c e W=>a.ok.inj x y c (k _ _ e) (k _ _ W)
  has:=λx h=>by
   have e:=Vp (env:=X.env) f h;have:=J x e;cases q:cl.lookup x with
   |none=>rw[q]at this;cases this
   |some c=>exact⟨c,q⟩
  cab:=λx c h=>nomatch h
  hd:=a.ok.hd
  frames:=a.ok.frames
  stk:=.inl rfl
  exf:=λb g=>⟨aY (S b g),λx c e=>(s b g).2.2.2.2.1 x c (k _ _ e)⟩
  bs:=a.bs
  bsz:=aP a.ok.bsz a.sz
  noex:=λb o e g=>by
   rcases (s b g).2.2.2.1 with z|z
   ·exact a.ok.noex b o e z
   ·exact absurd (aT (aJ e) (aP a.ok.bsz z)) (bO _)
  exfs:=λb g B=>by
   rcases aF.mp (a.stkSub b B) with z|z
   ·exact(s b g).2.1 z
   ·exact(s b g).2.2.1 z
  funs:=a.stack
  frf:=a.stkFree }
 os:=rfl
 bare:=a.bare
 base:=Un.kept up
 loc:=⟨m0,E,λi y v U T Z=>by
  obtain⟨j,g1,g2,I,H⟩:=A i y v U T;obtain⟨m,Y,F⟩:=a.loc;obtain⟨u,r,l⟩:=F j y v g1 g2 (.inr H);refine⟨u,r,.inr ⟨YA I,?_⟩⟩;rcases l with⟨z,_⟩|⟨_,c,e,z⟩
  ·have K:X.env.scope.names.lookup y=some .local:=z
   rcases H with w|w<;>(rw[K]at w;cases w)
  ·have q:=J y I
   cases t:cl.lookup y with
   |none=>rw[t]at q;cases q
   |some c'=>
    have:=k _ _ t;rw[e]at this;cases this
    obtain⟨o,D,hd⟩:=z;exact⟨c,t,o,up c o D,hd⟩⟩
 cell:=λy c e=>by
  obtain⟨v,o,D,hd⟩:=a.cell y c (k _ _ e);exact⟨v,o,up c o D,hd⟩
 free:=a.hok.fresh (aD _)
 freeC:=λy c e=>a.freeC y c (k _ _ e)
 pin:=λp P=>by
  have C:p∈X.pn++pQ:=by simpa[cxC] using P
  obtain⟨e,n,M,L,d⟩:=a.pin p C;refine⟨up _ _ e,n,aY (aJ e),λB=>?_,d⟩
  rcases aF.mp (a.stkSub _ B) with z|z
  ·exact M z
  ·exact L z
 hok:=a.hok.kept up
 len:=Q
theorem ZaR(r:L2.Inv X pQ O H3 s3){d:Li (Ad×Obj)}{H':Hp}{s':sH7}(p:env.locals=s3.heap.objs.size)(g:L2.Inv (cxC X N env s3 H3 fp pQ) d O' H' s')(sb:Heap.SameBut s3.heap.objs.size s'.heap h')(h:∀ b∈fp,FpOk X pQ H3 b):L2.Inv X pQ O H' { s' with heap:=h' }:=by
 have u:Un (frs X.stack) fp H3 H' s3.heap s'.heap:=g.base;have i:∀ b o,s3.heap.get? b=some o->b≠s3.heap.objs.size:=λb o e=>aY (aJ e)
 have k:H' s3.heap.objs.size=none:=by have:=g.free;rw[show(cxC X N env s3 H3 fp pQ).env.locals=s3.heap.objs.size from p]at this;exact this
 refine r.call' (s':={ s' with heap:=h' }) (ch:=fp) g.os ⟨λb o e n a f=>?_,λb o e n a f=>?_,u.free,λb o e f=>?_,u.tups,u.frzs,u.tbls⟩ (λb l e=>?_) g.bare (λb a=>?_)
 ·exact(sb.2 b (i b o e)).trans (u.keep b o e n a f)
 ·obtain⟨sl,j⟩:=u.slot b o e n a f
  exact⟨sl,(sb.2 b (i b o e)).trans j⟩
 ·obtain⟨m,j⟩:=u.there b o e f
  exact⟨m,(sb.2 b (i b o e)).trans j⟩
 ·refine(g.hok b l e).stay (λc s hc q=>(sb.2 c ?_).trans q) (λ_ q=>q) λ_ _ q=>q
  rintro rfl
  rcases hc with rfl|hc
  ·rw[k]at e;cases e
  ·rw[k]at hc;cases hc
 ·exact⟨(h b a).2.2.2.1,(h b a).2.1,(h b a).2.2.2.2.1,(h b a).2.2.2.2.2⟩
end
variable [ClsTab]
theorem Wo{N:Li Str}:∀ {l:Li Str}{b:Li Nat},YQ N l=some b->b.length=l.length/\∀ (i:Nat) (k:Nat),b[i]?=some k->∃ y,l[i]?=some y/\N[k]?=some y
 |[],b,h=>by cases h;exact⟨rfl,λi k e=>by simp at e⟩
 |x :: r,b,h=>by
  unfold YQ at h;split at h
  ·rename_i a as g f
   cases h;obtain⟨d,c⟩:=Wo f;refine⟨by simp[d],λi k e=>?_⟩
   cases i with
   |zero=>simp at e;subst e;exact⟨x,rfl,Xb g⟩
   |succ i=>exact c i k (by simpa using e)
  ·exact Zb h
theorem StOk.lt{s:sH7}{a:Ad}(I:L2.Inv X pQ O H s)(S:StOk X.K ad H st)(h:a∈ad):a < s.heap.objs.size:=by
 obtain⟨i,b,e⟩:=List.getElem_of_mem h;rcases S.has (show ad[i]?=some a by rw[lG7 b,e]) with⟨o,q⟩|⟨o,q⟩
 ·exact I.hok.lt q
 ·exact aJ (I.kIn a o q)
variable{fr:Li Nat}
theorem Zam{K:fG7}{bs:L2.St}{b:D->Li (Ot D)}(E:EnvOk K ad H O U)(hd:EnvOk K ad H bs (b d)):EnvOk K ad H (bs++fr.map λi=>(O[i]?).join) (ZU b U fr d):=by
 refine⟨by simp[ZU,hd.len],λi e h=>?_⟩
 unfold ZU at h;by_cases a:i < (b d).length
 ·rw[bY a]at h
  rw[bY (by rw[hd.len];exact a)]
  exact hd.at_ i e h
 ·have a:(b d).length<=i:=dW a
  rw[cC a,aV]at h;rw[cC (by rw[hd.len];exact a),aV,hd.len]
  cases q:fr[i - (b d).length]? with
  |none=>rw[q]at h;cases h
  |some k=>
   rw[q]at h;have h:(U[k]?).join=some e:=by simpa using h
   have c:U[k]?=some (some e):=by
    cases z:U[k]? with
    |none=>rw[z]at h;cases h
    |some o=>rw[z]at h;rw[show o=some e from h]
   obtain⟨w,g,f⟩:=E.at_ k e c;exact⟨w,by simp[g],f⟩
def Y4(K:fG7)(tg:Expr)(a:Li Str)(b:D->Li (Ot D))(ds:Li D):Prop:=
 ∀ X:Cx,X.K=K->X.calm=true->X.N.Nodup->(∀ (i:Nat) x,a[i]?=some x->X.N[i]?=some x)->(∀ y∈a,X.env.scope.names.lookup y=some .local)->∀ (pQ:Li (Ad×Obj)) (s:sH7) (os fv:L2.St) (H:Hp) (ad:Li Ad) (v:V) (u:vL) (d:D),os.length=a.length->L2.Inv X pQ (os++fv) H s->RelV v u->Den K ad H v d->d∈ds->
  wpAny (model X.prog X.w) X.A (assign tg X.env u) (λ_ c=>∃ bs,bs.length=a.length/\EnvOk K ad H bs (b d)/\L2.Inv X pQ (bs++fv) H c) X.xe s
variable{px:Pos}
theorem VE{K:fG7}{x:Str}:Y4 K (.Name x px) [x] one ds:=by
 intro X w t k f j pQ s a l H ad v u d g I r n _;obtain⟨o,rfl⟩:∃ o,a=[o]:=by match a,g with|[o],_=>exact⟨o,rfl⟩
 have b:=j x lQ7;have c:PG X (.Name x px) (gName 0):=pg_name k (f 0 x rfl) (.inl b) (.inr b);refine thn (c pQ s _ H v u (λO' H'=>O'=[some v]++l/\H'=H) I r ⟨rfl,rfl⟩) λ_ q ⟨O',H',p,e,m⟩=>?_
 subst e;subst m
 exact⟨[some v],rfl,⟨rfl,λi e h=>by
  cases i with
  |zero=>cases h;exact⟨v,rfl,n⟩
  |succ i=>exact nomatch (show(none:Ot (Ot D))=some (some e) from h)⟩,p⟩
variable{py:Pos}
theorem X6{K:fG7}{x y:Str}{k:Nat}{ds:Li D}(j:∀ d∈ds,∃ a b,d=.tup [a,b]):Y4 K (.Tuple [.Name x px,.Name y py] k tp) [x,y] two ds:=by
 intro X F C w q t pQ s l G H ad v u d A I r L B;obtain⟨o,g,rfl⟩:∃ o g,l=[o,g]:=by match l,A with|[o,g],_=>exact⟨o,g,rfl⟩
 obtain⟨a,b,rfl⟩:=j d B;have n:=t x lQ7;have m:=t y (lM7 _ lQ7);have g1:PG X (.Name x px) (gName 0):=pg_name w (q 0 x rfl) (.inl n) (.inr n);have g2:PG X (.Name y py) (gName 1):=pg_name w (q 1 y rfl) (.inl m) (.inr m);have z:PG X (.Tuple [.Name x px,.Name y py] k tp) _:=pg_tup C (pgs_cons g1 (pgs_cons g2 pgs_nil))
 obtain⟨p,vs,rfl,E,rv⟩:=L.ofTup;cases rv with
 |cons N rv=>cases rv with
  |cons M rv=>
   cases rv;rename_i f c;refine thn (z pQ s _ H _ u (λO' H'=>O'=[some f,some c]++G/\H'=H) I r ⟨p,[f,c],rfl,by rw[F];exact E.sq,rfl,f,[c],rfl,c,[],rfl,rfl,rfl,rfl⟩) λ_ P ⟨O',H',O,e,J⟩=>?_
   subst e;subst J
   exact⟨[some f,some c],rfl,⟨rfl,λi e h=>by
    cases i with
    |zero=>cases h;exact⟨f,rfl,N⟩
    |succ i=>cases i with
     |zero=>cases h;exact⟨c,rfl,M⟩
     |succ i=>exact nomatch (show(none:Ot (Ot D))=some (some e) from h)⟩,O⟩
theorem Uw{K:fG7}{x y z:Str}{m:Pos}{k:Nat}{ds:Li D}(t:∀ d∈ds,∃ a b c,d=.tup [a,b,c]):Y4 K (.Tuple [.Name x px,.Name y py,.Name z m] k tp) [x,y,z] Q5 ds:=by
 intro X N L w n q pQ s A P H ad v u d G I r R J;obtain⟨o,l,o2,rfl⟩:∃ o l o2,A=[o,l,o2]:=by match A,G with|[o,l,o2],_=>exact⟨o,l,o2,rfl⟩
 obtain⟨a,b,c,rfl⟩:=t d J;have E:=q x lQ7;have C:=q y (lM7 _ lQ7);have B:=q z (lM7 _ (lM7 _ lQ7));have g1:PG X (.Name x px) (gName 0):=pg_name w (n 0 x rfl) (.inl E) (.inr E);have g2:PG X (.Name y py) (gName 1):=pg_name w (n 1 y rfl) (.inl C) (.inr C);have O:PG X (.Name z m) (gName 2):=pg_name w (n 2 z rfl) (.inl B) (.inr B)
 have F:PG X (.Tuple [.Name x px,.Name y py,.Name z m] k tp) _:=pg_tup L (pgs_cons g1 (pgs_cons g2 (pgs_cons O pgs_nil)));obtain⟨p,vs,rfl,M,rv⟩:=R.ofTup;cases rv with
 |cons U rv=>cases rv with
  |cons T rv=>cases rv with
   |cons S rv=>
    cases rv;rename_i j g f;refine thn (F pQ s _ H _ u (λO' H'=>O'=[some j,some g,some f]++P/\H'=H) I r ⟨p,[j,g,f],rfl,by rw[N];exact M.sq,rfl,j,[g,f],rfl,g,[f],rfl,f,[],rfl,rfl,rfl,rfl⟩) λ_ W ⟨O',H',V,e,Q⟩=>?_
    subst e;subst Q
    exact⟨[some j,some g,some f],rfl,⟨rfl,λi e h=>by
     cases i with
     |zero=>cases h;exact⟨j,rfl,U⟩
     |succ i=>cases i with
      |zero=>cases h;exact⟨g,rfl,T⟩
      |succ i=>cases i with
       |zero=>cases h;exact⟨f,rfl,S⟩
       |succ i=>exact nomatch (show(none:Ot (Ot D))=some (some e) from h)⟩,V⟩
variable{cl:Li (Str×Ad)}{s3 s2:sH7}{ce cc:CE}{bd:D->Li (Ot D)}{J:It}{tn:Nat->Heap->Prop}{Good:Li Ad->Hp->Prop}{ad2:Li Ad}{H2:Hp}{use:Ot (vL->Sem Unit)}{R0:vL->sH7->Prop}{st1:Za}
variable{sc:Scope}
section
variable{xs:Li Str}
theorem Ya(h:YK sc sc2 xs=true):sc2.kind=.function/\(∀ p∈sc2.names,p.2≠.cell)/\(∀ x∈xs,sc2.names.lookup x=some .local)/\(∀ p∈sc2.names,p.2=.local->sc2.names.lookup p.1=some .local)/\(xs++ZG sc2).Nodup/\∀ y∈ZG sc2,Wf sc y=true/\sc2.names.lookup y=some .free:=by
 unfold YK at h;simp only[bA7,bA,cR,bT,dZ,decide_eq_false_iff_not]at h;obtain⟨⟨⟨⟨⟨i,g⟩,f⟩,d⟩,c⟩,b⟩:=h;exact⟨i,g,f,λp a e=>(d p a).elim (λz=>absurd e z) id,c,b⟩
theorem mem_frees{y:Str}:y∈ZG sc2↔(y,NameKind.free)∈sc2.names:=by
 unfold ZG;rw[aS];constructor
 ·rintro⟨⟨n,k⟩,h,rfl⟩
  rw[dR]at h;have:k=.free:=of_decide_eq_true h.2;rw[<-this];exact h.1
 ·intro h
  exact⟨(y,.free),dR.mpr ⟨h,by simp⟩,rfl⟩
theorem mem_of_lookup{y:Str}{k:NameKind}:∀ {l:Li (Str×NameKind)},l.lookup y=some k->(y,k)∈l
 |[],h=>by cases h
 | (n,q) :: l,h=>by
  rw[bZ]at h;split at h
  ·rename_i e
   cases h;rw[beq_iff_eq.mp e];exact lQ7
  ·exact lM7 _ (mem_of_lookup h)
theorem Zai(c:Cxt X G F sc N)(b:YK sc sc2 xs=true){C:Ad}{H3:Hp}{fp:Li Ad}:Cxt (cxC X (xs++ZG sc2) (compEnvC sc2 cl C X.env) s3 H3 fp pQ) G F sc2 (xs++ZG sc2):=by
 obtain⟨i,d,h,g,f,e⟩:=Ya b;exact {
  hN:=rfl
  vis:=λy a=>by
   rcases Zb5 a with z|z|z
   ·exact .inl (Yk z (by intro q;cases q))
   ·exact absurd rfl (d _ (mem_of_lookup z))
   ·rcases YA (env:=X.env) z with w|w
    ·exact .inr (.inl w)
    ·exact .inr (.inr w)
  glb:=λy a=>Yk (Qu a) (by intro q;cases q)
  calm:=c.calm
  hu:=c.hu
  gl:=c.gl
  cel:=λy a=>by
   rcases Ql a with z|z
   ·exact absurd rfl (d _ (mem_of_lookup z))
   ·exact YA z
  nx:=rfl }
theorem Zae{ok:Za->Prop}{f c:D->Za->Res}{xs:Li D}{r:Li D×Za}(h:ZX ok f c xs st=some r):ok st:=by
 unfold ZX at h;split at h
 ·split at h
  ·assumption
  ·exact Zb h
 ·split at h
  ·assumption
  ·exact Zb h
noncomputable def evB(F:Nat->Fn)(c:CE)(b:D->Li (Ot D))(U:Env)(fr:Li Nat):D->Za->Res:=λd s=>ev F c (ZU b U fr d) s
inductive CI(X:Cx)(tn:Nat->Heap->Prop)(fp:List Addr)(fv O:L2.St)(U:Env)(w:Nat)(ds:List D)(go:List D->Za->Option (List D×Za))(Good:List Addr->Hp->Prop)(dd:Addr)(ad2:List Addr)(H2:Hp)(st':Za)(ys:List D)(m:Nat)(s:Shared):Prop
 |mk (i:Nat) (o0:L2.St) (H:Hp) (ad:List Addr) (st:Za) (vs:List V) (es zs:List D) (him:i+m=ds.length) (hol:o0.length=w) (I:L2.Inv X [] (o0++fv) H s) (ti:tn i s.heap) (fi:∀ b∈fp,H b=none) (En:EnvOk X.K ad H O U) (S:StOk X.K ad H st) (Gd:Good ad H) (nd:dd∉ad) (hv:H dd=some (.lst vs)) (rv:Dens X.K ad H vs es) (hel:es.length<=i)
  (hcp:go (ds.drop i) st=some (zs,st')) (hys:es++zs=ys) (ex:Ext ad2 H2 ad H):CI X tn fp fv O U w ds go Good dd ad2 H2 st' ys m s
theorem Jt(Kx:Cxt X G F sc2 N)(ihE:Zp G F n)(hce:cE G n sc2 N elt=some ce)(hcc:(ifs=[]/\cc=.c (.bl true))\/∃ e,ifs=[e]/\cE G n sc2 N e=some cc){fp:Li Ad}{it:Ad}{ok:Za->Prop}(gm:∀ ad H ad' H',Ext ad H ad' H'->Good ad H->Good ad' H')(gw:∀ ad H p xs ys,H p=some (.lst xs)->Good ad H->Good ad (upd H p (.lst ys)))(go:∀ i ad H st,Good ad H->StOk X.K ad H st->ok st->i < ds.length->J.go i H)(stop:∀ i ad H st,Good ad H->StOk X.K ad H st->ok st->ds.length=i->J.stop i H)(yl:∀ i ad H st v H',Good ad H->StOk X.K ad H st->ok st->J.yld i H v H'->i < ds.length->Ext ad H ad H'/\StOk X.K ad H' st/\∃ d,ds[i]?=some d/\Den X.K ad H' v d)(T:Turn X.prog X.w X.K tg J fp it tn)(B:Y4 X.K tg xs bd ds)(hN:X.N.Nodup)(hx:∀ (i:Nat) x,xs[i]?=some x->X.N[i]?=some x)(hl:∀ y∈xs,X.env.scope.names.lookup y=some .local)(exx:X.xe=λ_ _=>False)(fpk:∀ {H:Hp},(∀ b∈fp,H b=none)->∀ b∈fp,FpOk X [] H b){fv:L2.St}(ec:∀ {ad H bs d},EnvOk X.K ad H O U->EnvOk X.K ad H bs (bd d)->EnvOk X.K ad H (bs++fv) (ZU bd U fr d)){dd:Ad}{ys:Li D}(D0:H2 dd=none)(hz:ds.length<=1000){R:Result->sH7->Prop}(done:∀ s5 σ5 H ad vs,L2.Inv X [] σ5 H s5->StOk X.K ad H st'->dd∉ad->H dd=some (.lst vs)->Dens X.K ad H vs ys->Ext ad2 H2 ad H->R (.ok .next) s5){s:sH7}{m:Nat}(h0:CI X tn fp fv O U xs.length ds (ZX ok (evB F ce bd U fr) (evB F cc bd U fr)) Good dd ad2 H2 st' ys m s) :
  codeAny (model X.prog X.w) X.A (.compLoop (.ListComp elt [⟨tg,iter,ifs,0⟩] sc2 pos) 0 (.ref it) (.ref dd) X.env) R s:=by
 refine VL _ (λm s h=>?_) m h0
 cases h with
 |mk i o0 H ad st vs es zs him hol I ti fi En S Gd nd hv rv hel a Z ex=>
 have W:=Zae a;have none_of:∀ {E:vL->sH7->Prop}{α:Type}{t:Sem α}{R:α->sH7->Prop}{s0:sH7},wpAny (model X.prog X.w) X.A t R X.xe s0->wpAny (model X.prog X.w) X.A t R E s0:=λh=>by
  rw[exx]at h;exact bG h (λ_ _ q=>q) λ_ _ q=>q.elim
 by_cases hi:i < ds.length
 ·refine thn (T.item X rfl rfl rfl Kx.calm i [] s _ H _ I (fpk fi) ti (go i ad H st Gd S W hi)) λr s5 ⟨u,hr,h5'⟩=>?_
  subst hr;refine thn h5' λ_ s6 ⟨v,H',I6,r6,y6,t6,f6⟩=>?_
  obtain⟨x6,S6,d,ed,dv⟩:=yl i ad H st v H' Gd S W y6 hi;have hd:ds.drop i=d :: ds.drop (i+1):=by
   rw[bQ hi];rw[lG7 hi]at ed;cases ed;rfl
  refine thn (none_of (B X rfl Kx.calm hN hx hl _ s6 o0 _ H' ad v u _ hol (I6.pinned (fpk f6) (T.obj _ _ t6)) r6 dv (aW ed))) λ_ s7 ⟨bs,lb,Eb,I7⟩=>?_
  have En6:=En.mono x6;have En7:=ec En6 Eb
  -- behind the item's turn
  have Y:∀ {M:Hp}{s9:sH7}{g:Li Ad}{st9:Za}{vs9:Li V}{es9 zs9:Li D},L2.Inv X ([]++pinsAt fp s6.heap) (bs++fv) M s9->StOk X.K g M st9->Good g M->dd∉g->M dd=some (.lst vs9)->Dens X.K g M vs9 es9->es9.length<=i+1->
    ZX ok (evB F ce bd U fr) (evB F cc bd U fr) (ds.drop (i+1)) st9=some (zs9,st')->es9++zs9=ys->Ext ad2 H2 g M->EnvOk X.K g M O U->
    ∃ m',m' < m/\CI X tn fp fv O U xs.length ds (ZX ok (evB F ce bd U fr) (evB F cc bd U fr)) Good dd ad2 H2 st' ys m' s9:=
   λI9 S9 G9 n9 v9 r9 l9 c9 y9 x9 e9=>
    have pk:=λb hb o e=>I9.pin (b,o) (cB _ (cB _ (mem_pinsAt hb e)))
    ⟨m - 1,by omega,.mk (i+1) bs _ _ _ _ _ _ (by omega) lb I9.unpinned (T.keep _ _ _ t6 λb hb o e=>(pk b hb o e).1) (λb hb=>let ⟨o,e,_⟩:=T.obj _ _ t6 b hb;(pk b hb o e).2.1) e9 S9 G9 n9 v9 r9 l9 c9 y9 x9⟩
  -- the L
  have L:∀ {k:Bool}{j:Za},evB F cc bd U fr d st=some (.bl k,j)->∀ {R:Bool->sH7->Prop}{E:vL->sH7->Prop},(∀ s8 l f,L2.Inv X ([]++pinsAt fp s6.heap) (bs++fv) l s8->Ext ad H' f l->StOk X.K f l j->R k s8)->
    wpAny (model X.prog X.w) X.A (forIn ifs true λc r=>if r=true then do let ok <-isTrue c X.env (eval c X.env);pure (ForInStep.yield ok) else pure (ForInStep.yield r)) R E s7:=λ{k j} q {R E} hR=>by
   rcases hcc with⟨rfl,rfl⟩|⟨e,rfl,he⟩
   ·cases q
    exact wpAny_tests_nil (hR s7 H' ad I7 (Ext.refl _ _) S6)
   ·refine wpAny_tests_one (thn (none_of ((ihE X sc2 _ Kx e cc he).pt _ s7 _ H' (λk' l=>k'=k/\∃ f,Ext ad H' f l/\StOk X.K f l j) I7 ⟨ad,ZU bd U fr d,st,k,j,En7,S6,q,λad' H' x S'=>⟨rfl,ad',x,S'⟩⟩)) λk' s8 ⟨l,I8,e8,f,C,S8⟩=>?_)
    subst e8;exact hR s8 l f I8 C S8
  have n8:∀ {f l},Ext ad H' f l->dd∉f:=λC z=>((x6.trans C).new dd z).elim nd λw=>by rw[hv]at w;cases w
  have v8:∀ {f l},Ext ad H' f l->l dd=some (.lst vs):=λC=>(x6.trans C).keep dd _ hv nd
  have rv6:=rv.mono x6;have ex6:=ex.trans x6;have G6:=gm _ _ _ _ x6 Gd;clear x6 En Eb ex Gd S I hv rv;rw[hd]at a;unfold ZX at a;rw[if_pos W]at a;split at a
  ·rename_i j q1
   split at a
   ·rename_i y st3 q2
    split at a
    ·rename_i zs' st4 q3
     cases a;refine L q1 λs8 l f I8 C S8=>?_
     rw[if_pos rfl];refine thn (none_of ((ihE X sc2 _ Kx elt ce hce).pe _ s8 _ l (λv8 M=>∃ g,Ext f l g M/\StOk X.K g M st3/\Den X.K g M v8 y) I8 ⟨f,ZU bd U fr d,j,y,st3,En7.mono C,S8,q2,λv8 ad' H' x S' dn=>⟨ad',x,S',dn⟩⟩)) λu9 s9 ⟨v9,M,I9,r9,g,x9,S9,d9⟩=>?_
     have P:=C.trans x9;have Q:=v8 P;have hlen:vs.length=es.length:=rv6.length;refine thn (none_of (mt_append (X:=X) _ s9 _ M (.ref dd) [v9] (.ref dd) [u9] (λ_ H10=>H10=upd M dd (.lst (vs++[v9]))) I9 rfl (.cons r9 .nil) ⟨dd,vs,v9,rfl,rfl,Q,Nat.lt_of_le_of_lt (show vs.length<=1000 by omega) (by decide),rfl⟩)) λu10 s10 ⟨v10,H10,I10,r10,e10⟩=>?_
     subst e10;have nd9:=n8 P;exact Y (vs9:=vs++[v9]) (es9:=es++[y]) (zs9:=zs') I10 (S9.wr Q nd9) (gw _ _ _ _ _ Q (gm _ _ _ _ P G6)) nd9 upd_same (((rv6.mono P).append (.cons d9 .nil)).wr Q) (by rw[aI,eD];omega) q3 (by rw[<-Z,bD];rfl) ((ex6.trans P).wr Q D0) ((En6.mono P).wr Q)
    ·exact Zb a
   ·exact Zb a
  ·rename_i j q1
   refine L q1 λs8 l f I8 C S8=>?_
   rw[if_neg bF7];exact Y I8 S8 (gm _ _ _ _ C G6) (n8 C) (v8 C) (rv6.mono C) (by omega) a Z (ex6.trans C) (En6.mono C)
  ·exact Zb a
 ·refine thn (T.done X rfl rfl rfl Kx.calm i [] s _ H _ I (fpk fi) ti (stop i ad H st Gd S W (by omega))) λr s5 ⟨hr,I5⟩=>?_
  subst hr;rw[List.drop_eq_nil_of_le (dW hi)]at a;unfold ZX at a;rw[if_pos W]at a;cases a;rw[bH]at Z;subst Z;exact done s5 _ H ad vs I5 S nd hv rv ex
theorem UA(Kx:Cxt X G F sc N)(ihE:Zp G F n)(P:YK sc sc2 xs=true)(hfr:YQ N (ZG sc2)=some fr)(hce:cE G n sc2 (xs++ZG sc2) elt=some ce)(hcc:(ifs=[]/\cc=.c (.bl true))\/∃ e,ifs=[e]/\cE G n sc2 (xs++ZG sc2) e=some cc)(c1:∀ y c,cl.lookup y=some c->X.env.cells.lookup y=some c)(c2:∀ y,(y,NameKind.free)∈sc2.names->(cl.lookup y).isSome){fp:Li Ad}{it:Ad}{ok:Za->Prop}(gm:∀ ad H ad' H',Ext ad H ad' H'->Good ad H->Good ad' H')(gw:∀ ad H p xs ys,H p=some (.lst xs)->Good ad H->Good ad (upd H p (.lst ys)))(go:∀ i ad H st,Good ad H->StOk X.K ad H st->ok st->i < ds.length->J.go i H)(stop:∀ i ad H st,Good ad H->StOk X.K ad H st->ok st->ds.length=i->J.stop i H)(yl:∀ i ad H st v H',Good ad H->StOk X.K ad H st->ok st->J.yld i H v H'->i < ds.length->Ext ad H ad H'/\StOk X.K ad H' st/\∃ d,ds[i]?=some d/\Den X.K ad H' v d){dd:Ad}{h:Heap}{ys:Li D}(B:Y4 X.K tg xs bd ds)(T:Turn X.prog X.w X.K tg J fp it tn)(t2:tn 0 s2.heap)(I:∀ b∈fp,FpOk X pQ H2 b)(fb:∀ b∈fp,b < dd)(E2:EnvOk X.K ad2 H2 O U)(S2:StOk X.K ad2 H2 st1)(g2:Good ad2 H2)(r:ZX ok (λd s=>ev F ce (ZU bd U fr d) s) (λd s=>ev F cc (ZU bd U fr d) s) ds st1=some (ys,st'))(hz:ds.length<=1000)(hp:Post X.K ad2 H2 (.lst st'.length) (st'++[(true,ys)]) Q)(V:∀ C dd t H5 Z,t.heap.Ns C Z->(∀ h',Heap.SameBut C t.heap h'->L2.Inv X pQ O H5 { t with heap:=h' })->FpOk X pQ H5 C->Q (.ref dd) H5->compPost (model X.prog X.w) X.A X.xe use R0 (.ref dd) C (.ok .next) t)  (L:H2 dd=none) (W:L2.Inv X pQ O (upd H2 dd (.lst [])) s3) (z3:s3.heap.objs.size=dd+1) (Y:dd∉ad2) (l:h.Ns s3.heap.objs.size m0) (up:∀ b u,s3.heap.get? b=some u->h.get? b=some u) (M:∀ b u,s2.heap.get? b=some u->s3.heap.get? b=some u) :
  codeAny (model X.prog X.w) X.A (.compStart (.ListComp elt [⟨tg,iter,ifs,0⟩] sc2 pos) 0 (.ref it) (.ref dd) (compEnvC sc2 cl s3.heap.objs.size X.env)) (compPost (model X.prog X.w) X.A X.xe use R0 (.ref dd) s3.heap.objs.size) { s3 with heap:=h,toks:=tk }:=by
 obtain⟨h1,h2,h3,h4,h5,h6⟩:=Ya P;have f3:∀ b∈fp,FpOk X pQ (upd H2 dd (.lst [])) b:=λb f=>⟨by rw[upd_ne (aY (fb b f))];exact(I b f).1,(I b f).2⟩
 obtain⟨fl,fg⟩:=Wo hfr;have I4:=ZaS (N:=xs++ZG sc2) (cl:=cl) (fp:=fp) (tk:=tk) (O':=List.replicate xs.length none++fr.map λi=>(O[i]?).join) W h1 h2 l up c1 (λy e=>c2 y (mem_of_lookup e)) f3 (λb f=>by rw[z3];exact Nat.lt_succ_of_lt (fb b f)) (λi y v e1 g=>by
  by_cases E:i < xs.length
  ·rw[bY (by simpa using E),eC,if_pos E]at g;cases g
  ·have E:xs.length<=i:=dW E
   rw[cC (by simpa using E),aV,bS]at g
   rw[cC E]at e1;cases q:fr[i - xs.length]? with
   |none=>rw[q]at g;cases g
   |some k=>
    rw[q]at g;have g:(O[k]?).join=some v:=by simpa using g
    have e3:O[k]?=some (some v):=by
     cases w:O[k]? with
     |none=>rw[w]at g;cases g
     |some o=>rw[w]at g;rw[show o=some v from g]
    obtain⟨y',g1,g2⟩:=fg _ k q;rw[e1]at g1;cases g1
    obtain⟨k1,k2⟩:=h6 y (aW e1);exact⟨k,by rw[Kx.hN];exact g2,e3,k2,Kx.cel y k1⟩) (by simp[fl])
 have K':=Zai (cl:=cl) (C:=s3.heap.objs.size) (s3:=s3) (H3:=upd H2 dd (.lst [])) (fp:=fp) (pQ:=pQ) Kx P;have m:=Jt (R:=compPost (model X.prog X.w) X.A X.xe use R0 (.ref dd) s3.heap.objs.size) (pos:=pos) (iter:=iter) K' ihE hce hcc gm gw go stop yl T B h5 (λi x e=>by show(xs++ZG sc2)[i]?=some x;rw[bY (bK.mp e).1];exact e) (λy hy=>Yk (h3 y hy) (by intro q;cases q)) rfl (λ{H} hn b f=>⟨hn b f,by
  show b≠s3.heap.objs.size;rw[z3];exact aY (Nat.lt_succ_of_lt (fb b f)),λhs=>(aF.mp (W.stkSub b hs)).elim (I b f).2.1 (I b f).2.2.1,.inl f,λy c e=>(I b f).2.2.2.2.1 y c (c1 _ _ e),λp hp=>(I b f).2.2.2.2.2 p (by simpa[cxC] using hp)⟩) (O:=O) (U:=U) (fr:=fr) (λa b=>Zam a b) (dd:=dd) (ad2:=ad2) (H2:=H2) (st':=st') (ys:=ys) L hz (λt σ5 H ad vs I5 S nd hv rv ex=>by
   obtain⟨Z,hn,_⟩:=I5.loc;refine V s3.heap.objs.size dd t H Z hn (λh' sb=>ZaR W rfl I5 sb f3) (W.fpOk (aD _) I5.free) (hp (.ref dd) (ad++[dd]) H ⟨λj a e=>YT (ex.pre j a e),ex.tup,ex.dk,ex.keep,λb f=>?_,ex.kd⟩ (S.adopt hv nd rv) (.lst ⟨by rw[<-S.len];exact Zs,Wm hv λ_ z=>nomatch z⟩))
   rcases bP.mp f with z|z
   ·exact ex.new b z
   ·rw[aR.mp z];exact .inr L)
  (.mk 0 (List.replicate xs.length none) (upd H2 dd (.lst [])) ad2 st1 [] [] ys (bE _) (bS ..) I4 (T.keep _ _ _ t2 λb _ o e=>up b o (M b o e)) (λb f=>(f3 b f).1) (E2.mono (Ext.laid L)) (S2.laid L) (gm _ _ _ _ (Ext.laid L) g2) Y upd_same .nil (aD _) r rfl (Ext.laid L))
 exact codeAny_compStart_list m (T.self X.A 0 _ _ _ (T.keep _ _ _ t2 λb _ o e=>up b o (M b o e)) m)
theorem Js(Kx:Cxt X G F sc N)(t:Zp G F n)(l:YK sc sc2 xs=true)(x:YQ N (ZG sc2)=some fr)(E:cE G n sc2 (xs++ZG sc2) elt=some ce)(I:(ifs=[]/\cc=.c (.bl true))\/∃ e,ifs=[e]/\cE G n sc2 (xs++ZG sc2) e=some cc)(c1:∀ y c,cl.lookup y=some c->X.env.cells.lookup y=some c)(c2:∀ y,(y,NameKind.free)∈sc2.names->(cl.lookup y).isSome){L:Li Ad}{it:Ad}{ok:Za->Prop}(Good:Li Ad->Hp->Prop)(gm:∀ ad H ad' H',Ext ad H ad' H'->Good ad H->Good ad' H')(gw:∀ ad H p xs ys,H p=some (.lst xs)->Good ad H->Good ad (upd H p (.lst ys)))(go:∀ i ad H st,Good ad H->StOk X.K ad H st->ok st->i < ds.length->J.go i H)(stop:∀ i ad H st,Good ad H->StOk X.K ad H st->ok st->ds.length=i->J.stop i H)(W:∀ i ad H st v H',Good ad H->StOk X.K ad H st->ok st->J.yld i H v H'->i < ds.length->Ext ad H ad H'/\StOk X.K ad H' st/\∃ d,ds[i]?=some d/\Den X.K ad H' v d){ys:Li D}(M:L2.Inv X pQ O H2 s2)(B:Y4 X.K tg xs bd ds)(T:Turn X.prog X.w X.K tg J L it tn)(R:tn 0 s2.heap)(f2:∀ b∈L,FpOk X pQ H2 b)(E2:EnvOk X.K ad2 H2 O U)(V:StOk X.K ad2 H2 st1)(g2:Good ad2 H2)(h:ZX ok (λd s=>ev F ce (ZU bd U fr d) s) (λd s=>ev F cc (ZU bd U fr d) s) ds st1=some (ys,st'))(Z:ds.length<=1000)(hp:Post X.K ad2 H2 (.lst st'.length) (st'++[(true,ys)]) Q)(m:∀ C dd r P Y,r.heap.Ns C Y->(∀ h',Heap.SameBut C r.heap h'->L2.Inv X pQ O P { r with heap:=h' })->FpOk X pQ P C->Q (.ref dd) P->compPost (model X.prog X.w) X.A X.xe use R0 (.ref dd) C (.ok .next) r) :
  wpAny (model X.prog X.w) X.A (newList []) (λq k=>wpAny (model X.prog X.w) X.A (newFunctionEnv sc2 X.env.globals cl [] X.env.qual none .none (some X.env)) (λg j=>
   codeAny (model X.prog X.w) X.A (.compStart (.ListComp elt [⟨tg,iter,ifs,0⟩] sc2 pos) 0 (.ref it) q { g with scope:=relabel sc2 X.env }) (compPost (model X.prog X.w) X.A X.xe use R0 q g.locals) j) X.xe k) X.xe s2:=by
 obtain⟨h1,h2,h3,h4,h5,h6⟩:=Ya l;have fb:∀ b∈L,b < s2.heap.objs.size:=λb hb=>let ⟨o,e,_⟩:=T.obj 0 _ R b hb;aJ e
 refine wpAny_newObj_type (wpAny_newFunctionEnv h2 (by intro y hy;simp at hy) (λS f a=>?_) h1)
 dsimp only at f a ⊢;have I3:L2.Inv X pQ O (upd H2 s2.heap.objs.size (.lst [])) { s2 with heap:=s2.heap.push { cls:=.type "list",dict:=none,data:=.seq ([]:Li vL).toArray } }:=M.lnew (its:=[]) (t':=s2.toks) .nil (aM _)
 have e3:s2.heap.push { cls:=.type "list",dict:=none,data:=.seq ([]:Li vL).toArray }=({ s2 with heap:=s2.heap.push { cls:=.type "list",dict:=none,data:=.seq ([]:Li vL).toArray } }:sH7).heap:=rfl
 exact UA Kx t l x E I c1 c2 gm gw go stop W B T R f2 fb E2 V g2 h Z hp m (M.hok.fresh (aD _)) I3 (Heap.size_push ..) (λz=>absurd (V.lt M z) (bO _)) f (λb u e=>a.extBut b u (aY (aJ e)) (aK _ e)) (λb u e=>aK _ e)
end
variable [ClsTab]
def Jc(X:Cx)(O:L2.St)(U:Env)(ds:Li D)(ok:Za->Prop)(st1 a:Za)(ys:Li D)(Q:VK)(J:It)(b:Hp):Prop:=
 ∃ (ad1:Li Ad) (Good:Li Ad->Hp->Prop),(∀ ad H ad' H',Ext ad H ad' H'->Good ad H->Good ad' H')/\(∀ ad H p c ys,H p=some (.lst c)->Good ad H->Good ad (upd H p (.lst ys))) /\
  (∀ i ad H st,Good ad H->StOk X.K ad H st->ok st->i < ds.length->J.go i H)/\(∀ i ad H st,Good ad H->StOk X.K ad H st->ok st->ds.length=i->J.stop i H)/\(∀ i ad H st v H',Good ad H->StOk X.K ad H st->ok st->J.yld i H v H'->i < ds.length->Ext ad H ad H'/\StOk X.K ad H' st/\∃ d,ds[i]?=some d/\Den X.K ad H' v d) /\
  EnvOk X.K ad1 b O U/\StOk X.K ad1 b st1/\Good ad1 b/\Post X.K ad1 b (.lst a.length) (a++[(true,ys)]) Q
variable{st2:Za}
theorem X8{ys:Li D}{f:Ev}(E:EnvOk X.K ad H O U)(S:StOk X.K ad H st)(q:f U st=some (.tup ds,st1))(p:Post X.K ad H (.lst st2.length) (st2++[(true,ys)]) Q) :
  iTup X.K (tE X.K f) O H (Jc X O U ds (λ_=>True) st1 st2 ys Q):=by
 refine⟨ad,U,st,.tup ds,st1,E,S,q,λv c o d n m=>?_⟩
 obtain⟨a,vs,rfl,j,rv⟩:=m.ofTup;refine⟨a,rfl,⟨vs,(j).sq⟩,c,λad H=>TupAt X.K H a vs/\Dens X.K ad H vs ds,λ_ _ _ _ x g=>⟨g.1.mono x,g.2.mono x⟩,λ_ H p k ys h g=>⟨g.1.upd h (by intro k z;cases z),g.2.wr h⟩,λi ad H st g _ _ b=>?_,λi ad H st g _ _ b=>⟨vs,(g.1).sq,by rw[g.2.length];exact cJ b⟩,
  λi ad H st v H' g S _ y b=>?_,E.mono d,n,⟨j,rv⟩,p.later d⟩
 ·obtain⟨v,e,_⟩:=g.2.get (lG7 b)
  exact⟨vs,v,(g.1).sq,e⟩
 ·obtain⟨w,e,l⟩:=g.2.get (lG7 b)
  have:=y.2 vs ((g.1).sq);rw[e]at this;cases this
  cases y.1;exact⟨Ext.refl _ _,S,_,lG7 b,l⟩
theorem Zad{n:Int}{ys:Li D}{f:Ev}(e:n < 2 ^ 62/\-(2 ^ 62)<=n)(E:EnvOk X.K ad H O U)(S:StOk X.K ad H st)(q:f U st=some (.int n,st1))(p:Post X.K ad H (.lst st2.length) (st2++[(true,ys)]) Q) :
  iRng1 (tCons (tE X.K f) tNil) O H (Jc X O U ((List.range n.toNat).map λ(k:Nat)=>D.int (k:Int)) (λ_=>True) st1 st2 ys Q):=by
 refine⟨ad,U,st,.int n,st1,E,S,q,λv c j d h g=>?_⟩
 cases g.ofInt;refine⟨n,rfl,e.2,e.1,c,λ_ _=>True,λ_ _ _ _ _ _=>trivial,λ_ _ _ _ _ _ _=>trivial,λi ad H st _ _ _ a=>(show i < n.toNat by simpa using a),λi ad H st _ _ _ a=>(show n.toNat<=i by simpa using cJ a),λi ad H st v H' _ S _ y a=>?_,E.mono d,h,trivial,p.later d⟩
 cases y.1;have b:i < n.toNat:=by simpa using a
 refine⟨Ext.refl _ _,S,.int (i:Int),?_,?_⟩
 ·rw[aV,List.getElem?_range b];rfl
 ·rw[y.2,Int.zero_add];exact .int _
theorem VI{c:Y5}{ys:Li D}{f:Ev}(E:EnvOk X.K ad H O U)(S:StOk X.K ad H st)(q:f U st=some (.lst l,st1))(m:st1[l]?=some c)(p:Post X.K ad H (.lst st2.length) (st2++[(true,ys)]) Q) :
  iList X.K (tE X.K f) O H (Jc X O U c.2 (λs=>s[l]?=some c) st1 st2 ys Q):=by
 refine⟨ad,U,st,.lst l,st1,E,S,q,λv d r h k o=>?_⟩
 obtain⟨a,rfl,j⟩:=o.ofLst;obtain⟨vs,rv,sq⟩:=k.list j (show st1[l]?=some (c.1,c.2) from m);refine⟨a,rfl,⟨vs,sq⟩,d,λad H=>LA ad H l a,λ_ _ _ _ x g=>g.mono x,λ_ _ _ _ _ e g=>⟨g.1,λz=>g.2 ((Vk e).mpr z)⟩,λi ad H st g S e b=>?_,λi ad H st g S e b=>?_,λi ad H st v H' g S e y b=>?_,E.mono h,k,j,p.later h⟩
 ·obtain⟨vs,rv,sq⟩:=S.list g (show st[l]?=some (c.1,c.2) from e)
  obtain⟨v,e,_⟩:=rv.get (lG7 b);exact⟨vs,v,sq,e⟩
 ·obtain⟨vs,rv,sq⟩:=S.list g (show st[l]?=some (c.1,c.2) from e)
  exact⟨vs,sq,by rw[rv.length];exact cJ b⟩
 ·obtain⟨vs,rv,sq⟩:=S.list g (show st[l]?=some (c.1,c.2) from e)
  obtain⟨w,e,n⟩:=rv.get (lG7 b);have:=y.2 vs sq;rw[e]at this;cases this
  cases y.1;exact⟨Ext.refl _ _,S,_,lG7 b,n⟩
theorem WL:∀ {a:Li D}{k i:Nat},(YG k a)[i]?=(a[i]?).map λx=>.tup [.int ((k+i:Nat):Int),x]
 |[],_,_=>rfl
 |x :: a,k,0=>rfl
 |x :: a,k,i+1=>by
  show(YG (k+1) a)[i]?=_;rw[WL,show k+1+i=k+(i+1) by omega]
  rfl
theorem YW:∀ {a:Li D}{k:Nat},(YG k a).length=a.length
 |[],_=>rfl
 |x :: a,k=>congrArg (·+1) YW
theorem Xz:∀ {c:Li D}{k:Nat},∀ d∈YG k c,∃ a b,d=.tup [a,b]
 |[],_,_,h=>nomatch h
 |x :: c,k,d,h=>by
  rcases aF.mp h with rfl|h
  ·exact⟨_,_,rfl⟩
  ·exact Xz d h
theorem Jq{x:D}{ok:Za->Prop}{ys:Li D}{f:Ev}(E:EnvOk X.K ad H O U)(S:StOk X.K ad H st)(q:f U st=some (x,st1))(j:Uh x st1=some (ds,ok))(p:Post X.K ad H (.lst st2.length) (st2++[(true,ys)]) Q) :
  Qw X.K (tCons (tE X.K f) tNil) O H (Jc X O U ds ok st1 st2 ys Q):=by
 have k:∀ {sq:Hp->Li V->Prop}{d:Li D}{ok:Za->Prop}{b:Li Ad}{m:Hp} (Good:Li Ad->Hp->Prop),(∀ ad H ad' H',Ext ad H ad' H'->Good ad H->Good ad' H')->(∀ ad H p d ys,H p=some (.lst d)->Good ad H->Good ad (upd H p (.lst ys)))->Good b m->
   (∀ ad H st,Good ad H->StOk X.K ad H st->ok st->∃ vs,Dens X.K ad H vs d/\sq H vs)->EnvOk X.K b m O U->StOk X.K b m st1->Post X.K b m (.lst st2.length) (st2++[(true,ys)]) Q->Jc X O U (YG 0 d) ok st1 st2 ys Q (Ite sq) m:=
  λ{sq d ok b m} Good J I g1 t M o F=>by
   refine⟨b,Good,J,I,λi ad H st g S e h=>?_,λi ad H st g S e h=>?_,λi ad H st v H' g S e y h=>?_,M,o,g1,F⟩
   ·rw[YW]at h
    obtain⟨vs,rv,sq⟩:=t ad H st g S e;obtain⟨v,e,_⟩:=rv.get (lG7 h);exact⟨vs,v,sq,e⟩
   ·rw[YW]at h
    obtain⟨vs,rv,sq⟩:=t ad H st g S e;exact⟨vs,sq,by rw[rv.length];exact h⟩
   ·rw[YW]at h
    obtain⟨vs,rv,sq⟩:=t ad H st g S e;obtain⟨w,e,L⟩:=rv.get (lG7 h);obtain⟨T,x,rfl,A,rfl,G⟩:=y;have:=G vs sq;rw[e]at this;cases this
    refine⟨Ext.laid A,S.laid A,_,by rw[WL,lG7 h];rfl,.tup (.inl upd_same) (.cons ?_ (.cons (L.mono (Ext.laid A)) .nil))⟩
    rw[bE];exact .int _
 refine⟨ad,U,st,x,st1,E,S,q,λv b m r o C=>?_⟩
 cases x with
 |tup d=>
  cases j;obtain⟨a,vs,rfl,n,rv⟩:=C.ofTup;exact⟨a,rfl,.inr ⟨⟨vs,n.sq⟩,k (λad H=>TupAt X.K H a vs/\Dens X.K ad H vs d) (λ_ _ _ _ x g=>⟨g.1.mono x,g.2.mono x⟩) (λ_ H p d ys B g=>⟨g.1.upd B (by intro d z;cases z),g.2.wr B⟩) ⟨n,rv⟩ (λad H st g _ _=>⟨vs,g.2,g.1.sq⟩) (E.mono r) o (p.later r)⟩⟩
 |lst l=>
  have j:(match st1[l]? with
   |some c=>some (YG 0 c.2,λs=>s[l]?=some c)
   |none=>none)=some (ds,ok):=j
  cases u:st1[l]? with
  |none=>rw[u]at j;cases j
  |some c=>
   rw[u]at j;cases j;obtain⟨a,rfl,n⟩:=C.ofLst;obtain⟨vs,rv,sq⟩:=o.list n (show st1[l]?=some (c.1,c.2) from u);exact⟨a,rfl,.inl ⟨⟨vs,sq⟩,k (λad H=>LA ad H l a) (λ_ _ _ _ x g=>g.mono x) (λ_ _ _ _ _ e g=>⟨g.1,λz=>g.2 ((Vk e).mpr z)⟩) n (λad H st g S e=>S.list g (show st[l]?=some (c.1,c.2) from e)) (E.mono r) o (p.later r)⟩⟩
 |_=>exact Zb j
theorem JF{x:D}{ds:Li D}{ok:Za->Prop}(h:Uh x st=some (ds,ok)):∀ d∈ds,∃ a b,d=.tup [a,b]:=by
 cases x with
 |tup c=>cases h;exact Xz
 |lst l=>
  unfold Uh at h;simp only at h;split at h
  ·cases h;exact Xz
  ·exact Zb h
 |_=>exact Zb h
theorem ZbC{ds:Li D}(e:ds.all ZaU=true):∀ d∈ds,∃ a b,d=.tup [a,b]:=λd c=>by
 have:=cR.mp e d c;unfold ZaU at this;split at this
 ·exact⟨_,_,rfl⟩
 ·cases this
theorem JG{x:D}{ds:Li D}{ok:Za->Prop}(h:Wy x st=some (ds,ok)):((x=.tup ds/\ok=λ_=>True)\/∃ l c,x=.lst l/\st[l]?=some c/\ds=c.2/\ok=λs=>s[l]?=some c)/\∀ d∈ds,∃ a b,d=.tup [a,b]:=by
 unfold Wy at h;split at h
 ·split at h
  ·rename_i e
   cases h;exact⟨.inl ⟨rfl,rfl⟩,ZbC e⟩
  ·exact Zb h
 ·split at h
  ·rename_i c f
   split at h
   ·rename_i e
    cases h;exact⟨.inr ⟨_,c,rfl,f,rfl,rfl⟩,ZbC e⟩
   ·exact Zb h
  ·exact Zb h
 ·exact Zb h
theorem JE{d:Li Str}(h:tgN tg=some d):(∃ x px,tg=.Name x px/\d=[x])\/(∃ x y px py k tp,tg=.Tuple [.Name x px,.Name y py] k tp/\d=[x,y])\/∃ x y z px py g k tp,tg=.Tuple [.Name x px,.Name y py,.Name z g] k tp/\d=[x,y,z]:=by
 unfold tgN at h;split at h
 ·cases h;exact .inl ⟨_,_,rfl,rfl⟩
 ·rename_i es k tp
  have nm:∀ {e:Expr}{x:Str},nmE e=some x->∃ p,e=.Name x p:=λ{e x} h=>by
   unfold nmE at h;split at h
   ·cases h;exact⟨_,rfl⟩
   ·exact Zb h
  cases es with
  |nil=>exact Zb h
  |cons a es=>cases es with
   |nil=>exact Zb h
   |cons b es=>cases es with
    |cons c es=>cases es with
     |cons _ _=>exact Zb h
     |nil=>
      refine YZ (P:=λd=>_\/_\/∃ x y z px py g i f,Expr.Tuple [a,b,c] k tp=.Tuple [.Name x px,.Name y py,.Name z g] i f/\d=[x,y,z]) h λx y z l j m=>?_
      obtain⟨px,rfl⟩:=nm l;obtain⟨py,rfl⟩:=nm j;obtain⟨g,rfl⟩:=nm m;exact .inr (.inr ⟨x,y,z,px,py,g,k,tp,rfl,rfl⟩)
    |nil=>
     refine ZO (P:=λd=>_\/(∃ x y px py i f,Expr.Tuple [a,b] k tp=.Tuple [.Name x px,.Name y py] i f/\d=[x,y])\/_) h λx y l j=>?_
     obtain⟨px,rfl⟩:=nm l;obtain⟨py,rfl⟩:=nm j;exact .inr (.inl ⟨x,y,px,py,k,tp,rfl,rfl⟩)
 ·exact Zb h
inductive CSh(G:Gs)(n:Nat)(sc:Scope)(N:List Str)(elt:Expr)(sc2:Scope):List Comprehension->CE->Prop
 |mk {tg it:Expr}{ifs:List Expr}{xs:List Str}{fr:List Nat}{r:Option (Option Bool)}{ci ce cc:CE} (htg:tgN tg=some xs) (hsc:YK sc sc2 xs=true) (hfr:YQ N (ZG sc2)=some fr) (hi:itC G sc it (cE G n sc N) xs=some (r,ci)) (hce:cE G n sc2 (xs++ZG sc2) elt=some ce) (hcc:(ifs=[]/\cc=.c (.bl true))\/∃ e,ifs=[e]/\cE G n sc2 (xs++ZG sc2) e=some cc):CSh G n sc N elt sc2 [⟨tg,it,ifs,0⟩] (mkC xs.length r fr ci ce cc)
theorem Zcz{G:Gs}{c:CE}(h:cE G (n+1) sc N (.ListComp elt gens sc2 pos)=some c):CSh G n sc N elt sc2 gens c:=by
 replace h:ZdV G sc sc2 N (cE G n sc N) (cE G n sc2) elt gens=some c:=h;have no:∀ {P:Prop},(none:Ot CE)=some c->P:=λz=>nomatch z
 cases gens with
 |nil=>exact no h
 |cons g gs=>
  obtain⟨tg,it,ifs,k⟩:=g;cases k with
  |negSucc _=>cases gs<;>exact no h
  |ofNat m=>cases m with
   |succ _=>cases gs<;>exact no h
   |zero=>cases gs with
    |cons _ _=>exact no h
    |nil=>
     replace h:(match tgN tg with
      |none=>none
      |some b=>og (YK sc sc2 b=true) (o3 (λfr p (q:CE×CE)=>mkC b.length p.1 fr p.2 q.1 q.2) (YQ N (ZG sc2)) (itC G sc it (cE G n sc N) b) (o2 Prod.mk (cE G n sc2 (b++ZG sc2) elt) (ifC (cE G n sc2 (b++ZG sc2)) ifs))))=some c:=h
     cases d:tgN tg with
     |none=>rw[d]at h;cases h
     |some b=>
      rw[d]at h;refine Y0 h λf h=>YZ (P:=CSh G n sc N elt sc2 _) h λfr p q i r o=>ZO (P:=λq:CE×CE=>CSh G n sc N elt sc2 _ (mkC b.length p.1 fr p.2 q.1 q.2)) o λce cc j e=>.mk d f i r j ?_
      cases ifs with
      |nil=>cases e;exact .inl ⟨rfl,rfl⟩
      |cons a l=>cases l with
       |nil=>exact .inr ⟨a,rfl,e⟩
       |cons _ _=>exact Zb e
inductive CR(b:D->List (Option D))(w:D->Za->Option (List D×(Za->Prop)))(fr:List Nat)(fi fe fc:Ev)(U:Env)(st:Za):D->Za->Prop
 |mk {x:D}{st1 st2:Za}{ds ys:List D}{ok:Za->Prop} (q1:fi U st=some (x,st1)) (q2:w x st1=some (ds,ok)) (hz:ds.length<=1000) (q3:ZX ok (λd s=>fe (ZU b U fr d) s) (λd s=>fc (ZU b U fr d) s) ds st1=some (ys,st2)):CR b w fr fi fe fc U st (.lst st2.length) (st2++[(true,ys)])
theorem Yp{b:D->Li (Ot D)}{w:D->Za->Ot (Li D×(Za->Prop))}{a c f:Ev}(e:Ye b w fr a c f U st=some (d,st')):CR b w fr a c f U st d st':=by
 unfold Ye at e;split at e
 ·split at e
  ·split at e
   ·split at e
    ·cases e;exact .mk ‹_› ‹_› ‹_› ‹_›
    ·exact Zb e
   ·exact Zb e
  ·exact Zb e
 ·exact Zb e
inductive CIt(X:Cx)(pQ:List (Addr×Obj))(s:Shared)(O:L2.St)(U:Env)(tg it:Expr)(xs:List Str)(F:Nat->Fn)(fr:List Nat)(ce cc:CE)(Q:VK):Prop
 |mk {bd:D->List (Option D)}{ds:List D}{ok:Za->Prop}{st1 st2:Za}{ys:List D} (B:Y4 X.K tg xs bd ds) (hz:ds.length<=1000) (q3:ZX ok (λd s=>ev F ce (ZU bd U fr d) s) (λd s=>ev F cc (ZU bd U fr d) s) ds st1=some (ys,st2)) (hp:Zg it=true) (pi:wpAny (model X.prog X.w) X.A (eval it X.env) (λv s1=>wpAny (model X.prog X.w) X.A (pyIter v) (PIE X pQ O tg (Jc X O U ds ok st1 st2 ys Q)) X.xe s1) X.xe s):CIt X pQ s O U tg it xs F fr ce cc Q
theorem Xr{f:α->β}{o:Ot α}{b:β}(h:o.map f=some b):∃ a,o=some a/\f a=b:=by
 cases o with
 |none=>exact Zb h
 |some a=>exact⟨a,rfl,by cases h;rfl⟩
variable{F:Nat->Fn}
theorem Zcx{G:Gs}(h:Zp G F n)(t:Cxt X G F sc N){j:Li Str}{r:Ot (Ot Bool)}{C:CE}(P:tgN tg=some j)(g:itC G sc it (cE G n sc N) j=some (r,C)){s:sH7}(I:L2.Inv X pQ O H s)(E:EnvOk X.K ad H O U)(S:StOk X.K ad H st)(e:ev F (mkC j.length r fr C ce cc) U st=some (d,st'))(p:Post X.K ad H d st' Q):CIt X pQ s O U tg it j F fr ce cc Q:=by
 rcases JE P with⟨x,px,rfl,rfl⟩|⟨x,y,px,py,k,tp,rfl,rfl⟩|⟨x,y,z,px,py,pz,k,tp,rfl,rfl⟩
 ·replace g:(match ZM G sc it with
   |some a=>(cE G n sc N a).map λc=>(some (some true),c)
   |none=>(cE G n sc N it).map λc=>(some (some false),c))=some (r,C):=g
  split at g
  ·rename_i a W
   obtain⟨J,q,g⟩:=Xr g;cases g;obtain⟨R,M⟩:=XM (tg:=.Name x px) t W (Ze q) (h X sc N t a _ q).pe;cases Yp e with
   |@mk A st1 st2 ds ys ok i f o m=>
    refine .mk VE o m R (M pQ s O H _ I ?_);cases A with
    |int k=>
     have f:(match (if k < 2 ^ 62/\-(2 ^ 62)<=k then some ((List.range k.toNat).map λ(k:Nat)=>D.int (k:Int)) else none) with
      |some j=>some (j,λ_=>True)
      |none=>none)=some (ds,ok):=f
     by_cases T:k < 2 ^ 62/\-(2 ^ 62)<=k
     ·rw[if_pos T]at f
      cases f;exact Zad T E S i p
     ·rw[if_neg T]at f
      cases f
    |_=>exact Zb f
  ·obtain⟨J,q,g⟩:=Xr g
   cases g;cases Yp e with
   |@mk A st1 st2 ds ys ok i f o m=>
    refine .mk VE o m (Ze q) ?_;cases A with
    |tup j=>cases f;exact pi_tup (h X sc N t it _ q).pe pQ s O H _ I (X8 E S i p)
    |lst l=>
     have f:(match st1[l]? with
      |some c=>some (c.2,λs=>s[l]?=some c)
      |none=>none)=some (ds,ok):=f
     cases B:st1[l]? with
     |none=>rw[B]at f;cases f
     |some c0=>
      rw[B]at f;cases f;exact pi_list (h X sc N t it _ q).pe pQ s O H _ I (VI E S i B p)
    |str z=>exact Zb f
    |dct ks vs=>
     have no:∀ {v:V}{u:Li Ad}{L:Hp},Den X.K u L v (.dct ks vs)->False:=λ{v u L} Y=>by
      obtain⟨a,ws,_,_,hl,r⟩:=Y.ofDct;cases ks with
      |cons _ _=>exact Zb f
      |nil=>
       cases ws with
       |cons _ _=>cases hl
       |nil=>cases r;cases f
     exact thn ((h X sc N t it _ q).pe pQ s O H (λ_ _=>False) I ⟨ad,U,st,_,st1,E,S,i,λv u L x1 S1 Y=>no Y⟩) λv s1 ⟨x,L,I1,r1,z⟩=>z.elim
    |_=>exact Zb f
 ·replace g:(match YV G sc it with
   |some a=>(cE G n sc N a).map λc=>(some none,c)
   |none=>(cE G n sc N it).map λc=>(none,c))=some (r,C):=g
  split at g
  ·rename_i a W
   obtain⟨J,q,g⟩:=Xr g;cases g;cases Yp e with
   |mk i f o m=>
    obtain⟨R,M⟩:=Wb (elts:=[.Name x px,.Name y py]) (kk:=k) (tp:=tp) t W (Ze q) (h X sc N t a _ q).pe;exact .mk (X6 (JF f)) o m R (M pQ s O H _ I (Jq E S i f p))
  ·obtain⟨J,q,g⟩:=Xr g
   cases g;cases Yp e with
   |mk i f o m=>
    obtain⟨hw,Z⟩:=JG f;rcases hw with⟨rfl,rfl⟩|⟨l,c0,rfl,B,rfl,rfl⟩
    ·exact .mk (X6 Z) o m (Ze q) (pi_tup (h X sc N t it _ q).pe pQ s O H _ I (X8 E S i p))
    ·exact .mk (X6 Z) o m (Ze q) (pi_list (h X sc N t it _ q).pe pQ s O H _ I (VI E S i B p))
 ·replace g:(match YV G sc it with
   |some _=>none
   |none=>(cE G n sc N it).map λc=>(none,c))=some (r,C):=g
  split at g
  ·exact Zb g
  ·obtain⟨J,q,g⟩:=Xr g
   cases g;cases Yp (b:=Q5) (w:=Zb6) e with
   |@mk A st1 st2 ds ys ok i f o m=>
    cases A with
    |tup j=>
     have f:(if j.all Ze4=true then some (j,λ(_:Za)=>True) else none)=some (ds,ok):=f
     split at f
     ·rename_i ht
      cases f;exact .mk (Uw λd hd=>by
       have:=cR.mp ht d hd;unfold Ze4 at this;split at this
       ·exact⟨_,_,_,rfl⟩
       ·cases this) o m (Ze q) (pi_tup (h X sc N t it _ q).pe pQ s O H _ I (X8 E S i p))
     ·exact Zb f
    |_=>exact Zb f
theorem Qm{G:Gs}(b:Zp G F n)(t:Cxt X G F sc N){c:CE}(h:cE G (n+1) sc N (.ListComp elt gens sc2 pos)=some c){s:sH7}(I:L2.Inv X pQ O H s)(Y:tE X.K (ev F c) O H Q)(g:∀ C dd i u M,i.heap.Ns C M->(∀ h',Heap.SameBut C i.heap h'->L2.Inv X pQ O u { i with heap:=h' })->FpOk X pQ u C->Q (.ref dd) u->compPost (model X.prog X.w) X.A X.xe use R0 (.ref dd) C (.ok .next) i) :
  ∃ tg it ifs,gens=[⟨tg,it,ifs,0⟩]/\∀ a,wpAny (model X.prog X.w) X.A (comprehension (.ListComp elt [⟨tg,it,ifs,0⟩] sc2 pos) sc2 X.env a (newList []) false (eval it X.env) use) R0 X.xe s:=by
 cases Zcz h with
 |@mk tg it ifs xs fr r ci ce cc j f k hi l m=>
  obtain⟨h1,h2,h3,h4,h5,h6⟩:=Ya f;obtain⟨ad,U,st,d,st',E,S,e,p⟩:=Y;obtain⟨cl,ec,c1,c2⟩:=VJ (env:=X.env) (sc:=sc2) (λy W hf=>by
   have hm:(y.1,NameKind.free)∈sc2.names:=by rw[<-hf];exact W
   exact I.ok.has y.1 (t.cel y.1 (h6 y.1 (mem_frees.mpr hm)).1))
  refine⟨tg,it,ifs,rfl,λa=>?_⟩
  cases Zcx b t j hi I E S e p with
  |mk B V D Z L=>
   refine wpAny_comprehension_free (use:=use) rfl (ZF Z) ec h1 h4 (thn L λv s1 q=>thn q λP s2 o=>?_)
   obtain⟨R,fp,tn,J,H2,rfl,I2,T,z,f2,ad1,Good,gm,gw,go,stop,x,E2,S2,g2,p2⟩:=o;exact Js t b f k l m c1 c2 Good gm gw go stop x I2 B T z f2 E2 S2 g2 D V p2 g
theorem Zcy{G:Gs}:YI G F:=by
 intro n f;refine⟨λX sc N R elt gens sc2 pos c h=>SE.of ?_,λX sc N K y i p elt gens sc2 j pos c E h r=>?_⟩
 ·intro pQ s O H Q I g
  obtain⟨tg,it,ifs,rfl,go⟩:=Qm f R h I g (use:=none) (R0:=EP X pQ O Q) λC dd l x m t u _ q=>⟨m,t,λh' sb=>⟨.ref dd,x,u h' sb,rfl,q⟩⟩
  rw[eval_ListComp];exact go _
 ·intro pQ s O H D I g
  obtain⟨tg,it,ifs,rfl,go⟩:=Qm f K.toCxt h I g (use:=some (assign (.Name y p) X.env)) (R0:=λ_ B=>SP X pQ D .next B) λC dd l x m t u d q=>by
   have T:=u l.heap (Heap.SameBut.refl _ _);show wpAny _ X.A (assign (.Name y p) X.env (.ref dd)) _ _ l;refine wpAny_assign_Name (store_ok2 (v:=.ref dd) T (by rw[K.hN];exact K.nd) (by rw[K.hN];exact Xb E) (K.loc _ (Vb E)) rfl (λJ S ⟨a,sb,P⟩=>?_) (.inl (K.fn _)))
   have L:C≠a:=by
    rcases P with z|z
    ·rw[z];exact d.2.1
    ·exact λw=>d.2.2.2.2.1 _ _ z w.symm
   exact⟨m,t.sameBut sb L,λU k=>⟨_,x,S.turned (t':=J.toks) (λb o M e=>k.extBut b o M e) d.1 d.2.1 d.2.2.2.1 d.2.2.2.2.1 d.2.2.2.2.2,q⟩⟩
  rw[exec_Assign_Name_used _ _ _ _ r];refine aA (wpAny_standAt (aA ?_));show wpAny _ X.A (do let _ <-comprehension (.ListComp elt [⟨tg,it,ifs,0⟩] sc2 j) sc2 X.env _ (newList []) false (eval it X.env) (some (assign (.Name y p) X.env))) _ _ s
  exact aA (bG (go _) (λ_ B g=>aE (aE g)) λ_ _ e=>e)
variable [ClsTab]
theorem ZhN{α:Type}:∀ {us:Li α},us.length=0->us=[]
 |[],_=>rfl
theorem ZgM{α:Type}:∀ {us:Li α},us.length=1->∃ a,us=[a]
 |[a],_=>⟨a,rfl⟩
theorem Za3{α:Type}:∀ {us:Li α},us.length=2->∃ a b,us=[a,b]
 |[a,b],_=>⟨a,b,rfl⟩
theorem UJ{α:Type}:∀ {us:Li α},us.length=3->∃ a b c,us=[a,b,c]
 |[a,b,c],_=>⟨a,b,c,rfl⟩
theorem Ze9{α:Type}:∀ {us:Li α},us.length=4->∃ a b c d,us=[a,b,c,d]
 |[a,b,c,d],_=>⟨a,b,c,d,rfl⟩
theorem ZhO{α:Type}:∀ {us:Li α},us.length=5->∃ a b c d e,us=[a,b,c,d,e]
 |[a,b,c,d,e],_=>⟨a,b,c,d,e,rfl⟩
theorem ZhP{α:Type}:∀ {us:Li α},us.length=6->∃ a b c d e f,us=[a,b,c,d,e,f]
 |[a,b,c,d,e,f],_=>⟨a,b,c,d,e,f,rfl⟩
def Y6(K:fG7)(G:Gs)(T:Nat->Ot FD)(C:Ad):Li (Str×Nat×Nat)->Prop
 |[]=>True
 | (m,j,_) :: r=>(∃ y f fd pn N,MethOk K G T C m y j f fd pn N)/\Y6 K G T C r
def Y8(K:fG7)(B:Ad):Li Nat->Prop
 |[]=>True
 |i :: r=>SubOk K (ClsTab.ca i) B/\Y8 K B r
def YH(a:Params)(K:fG7)(mg:Str->Ot vL)(G:Gs)(T:Nat->Ot FD):Gs->Prop
 |[]=>True
 | (x,.c d) :: r=>(∃ v u,mg x=some u/\RelV v u/\∀ ad H,Den K ad H v d)/\YH a K mg G T r
 | (x,.blt) :: r=>mg x=none/\YH a K mg G T r
 | (x,.dct ks ds) :: r=>Qe a K mg x ks ds/\YH a K mg G T r
 | (x,.fn i _ ds) :: r=>(∃ f fd pn N,DefOk K mg G T x i ds f fd pn N)/\YH a K mg G T r
 | (x,.cls i ms subs) :: r=>((mg x=some (.ref (ClsTab.ca i))/\NewOk K (ClsTab.ca i)/\Y8 K (ClsTab.ca i) subs)/\Y6 K G T (ClsTab.ca i) ms)/\YH a K mg G T r
def Zey(a:Params)(K:fG7)(mg:Str->Ot vL)(G:Gs)(T:Nat->Ot FD)(x:Str):GV->Prop
 |.c d=>∃ v u,mg x=some u/\RelV v u/\∀ ad H,Den K ad H v d
 |.blt=>mg x=none
 |.dct ks ds=>Qe a K mg x ks ds
 |.fn i _ ds=>∃ f fd pn N,DefOk K mg G T x i ds f fd pn N
 |.cls i ms subs=>(mg x=some (.ref (ClsTab.ca i))/\NewOk K (ClsTab.ca i)/\Y8 K (ClsTab.ca i) subs)/\Y6 K G T (ClsTab.ca i) ms
theorem Yr{b:Params}:∀ {l:Gs}{x:Str}{g:GV},YH b K mg G T l->l.lookup x=some g->Zey b K mg G T x g
 |[],_,_,_,h=>by cases h
 | (y,v) :: r,x,g,a,h=>by
  have tl:YH b K mg G T r/\Zey b K mg G T y v:=by
   cases v with
   |c d=>exact⟨a.2,a.1⟩
   |blt=>exact⟨a.2,a.1⟩
   |dct ks ds=>exact⟨a.2,a.1⟩
   |fn i f ds=>exact⟨a.2,a.1⟩
   |cls i ms subs=>exact⟨a.2,a.1⟩
  rw[bZ]at h;cases e:x==y with
  |true=>
   rw[e]at h;cases h;rw[beq_iff_eq.mp e];exact tl.2
  |false=>
   rw[e]at h;exact Yr tl.1 h
theorem Q3{B:Ad}:∀ {l:Li Nat},Y8 K B l->∀ i,l.contains i=true->SubOk K (ClsTab.ca i) B
 |[],_,_,h=>by cases h
 |j :: r,a,i,h=>by
  rw[List.contains_cons,bT]at h;rcases h with h|h
  ·rw[beq_iff_eq.mp h];exact a.1
  ·exact Q3 a.2 i h
theorem V6{C:Ad}:∀ {l:Li (Str×Nat×Nat)},Y6 K G T C l->∀ m j b,l.lookup m=some (j,b)->∃ y f fd pn N,MethOk K G T C m y j f fd pn N
 |[],_,_,_,_,h=>by cases h
 | (d,g,c) :: r,a,m,j,b,h=>by
  rw[bZ]at h;cases e:m==d with
  |true=>
   rw[e]at h;cases h;rw[beq_iff_eq.mp e];exact a.1
  |false=>
   rw[e]at h;exact V6 a.2 m j b h
theorem ZdG{a:Params}(h:YH a K mg G T G):Text a K mg G T:=
 ⟨λ_ _ e=>Yr h e,λ_ e=>Yr h e,λ_ _ _ e=>Yr h e,λ_ _ _ _ e=>Yr h e,λx i ms subs e=>by
  have g:Zey a K mg G T x (.cls i ms subs):=Yr h e;exact⟨⟨g.1.1,g.1.2.1,Q3 g.1.2.2⟩,V6 g.2⟩⟩
theorem ZeQ(a:∀ n,YI G (run T n))(X:Text w.params K mg G T)(n:Nat){x:Str}{f:Ad}{fd:FuncData}(b:DefOk K mg G T x i ds f fd pn N):FnOk P w K mg base CX0 n f fd pn (spD K (run T n i)):=ZeC a X n b.ob
theorem Zf0{a:Ad}{f:Li Int}(r:Only H)(u:SqL K H a (f.map V.int))(h:∃ st',run T n i [.lst 0] [(false,f.map .int)]=some (.bl true,st')):spD K (run T n i) [.ref a] H (λv _=>v=.bl true) λ_ _ _=>False:=by
 obtain⟨st',e⟩:=h;have ds:∀ f:Li Int,Dens K [a] H (f.map V.int) (f.map D.int):=λf=>by
  induction f with
  |nil=>exact .nil
  |cons n l t=>exact .cons (.int n) t
 have p:¬Z6 H a:=λ⟨kvs,q⟩=>by
  rcases r a with z|⟨o,s,z⟩<;>(rw[q]at z;cases z)
 refine⟨[a],[.lst 0],[(false,f.map .int)],.bl true,st',⟨rfl,λi j b c d _ _ k _=>?_,λi c g=>?_⟩,.cons (.lst ⟨rfl,p⟩) .nil,e,λv ad' H' x S h=>h.ofBl⟩
 ·cases i with
  |zero=>simp at k
  |succ i=>simp at k
 ·cases i with
  |succ i=>simp at g
  |zero=>
   have g:(false,f.map D.int)=c:=by simpa using g
   subst g;refine⟨a,rfl,.l p (ds f) (.inr ⟨rfl,?_⟩)⟩;rcases u with(h|⟨o,h⟩)|⟨o,m,n,C,B,k,A,y,w⟩
   ·rcases r a with z|⟨o,s,z⟩
    ·rw[h]at z;cases z
    ·rw[h]at z;cases z
   ·exact .inl ⟨o,h⟩
   ·exact .inr ⟨o,m,n,⟨C,B⟩,⟨k,A⟩,y,w⟩
noncomputable abbrev fnS(x y:Str)(s:Stmt)(c kV b a:vL)(e:Ot Ad)(d ct:vL):FuncData:=W.fnOf x y (defArgs s) (defBody s) (defScope s) c kV b a e d ct
inductive FnAt(K:fG7)(x:Str)(s:Stmt):Prop
 |mk {f:Addr}{oc kV dc pm cd ct:Value}{od an:Option Addr}{sl:Array (Option Value)} (a:W.nsIn K mainGlobals x=some (some (.ref f))) (l:K.lookup f=some ⟨oc,od,.func (W.fnOf x x (defArgs s) (defBody s) (defScope s) .none kV dc pm an cd ct),sl⟩) (e:W.codeIn K cd x=true) (k:W.keepIn K (.ref f)=true):FnAt K x s
inductive FnAtE(K:fG7)(x:Str)(s:Stmt)(v:Int):Prop
 |mk {f E:Addr}{eo:Obj}{en:Nat}{et:Tok}{oc kV dc pm cd ct:Value}{od an:Option Addr}{sl:Array (Option Value)} (a:W.nsIn K mainGlobals x=some (some (.ref f))) (l:K.lookup f=some ⟨oc,od,.func (W.fnOf x x (defArgs s) (defBody s) (defScope s) (.ref E) kV dc pm an cd ct),sl⟩) (e:W.codeIn K cd x=true) (k:W.keepIn K (.ref f)=true) (d:K.lookup E=some eo) (g:eo.data=.seq #[.int v et] en):FnAtE K x s v
inductive MtAt(K:fG7)(C:Addr)(x y:Str)(s:Stmt):Prop
 |mk {f:Addr}{oc kV dc pm cd ct:Value}{od an:Option Addr}{sl:Array (Option Value)} (m:W.findIn K (.ref C) x=some (some (.ref f))) (l:K.lookup f=some ⟨oc,od,.func (W.fnOf x y (defArgs s) (defBody s) (defScope s) .none kV dc pm an cd ct),sl⟩) (e:W.codeIn K cd y=true) (k:W.keepIn K (.ref f)=true) (i:W.isFn K (.ref f)=true):MtAt K C x y s
structure ClsAt(K:fG7)(x:Str)(C:Addr):Prop where
 ya:W.nsIn K mainGlobals x=some (some (.ref C))
 yb:W.makesIn K C=true
 yc:W.findIn K (.ref C) "__init__"=some (some (.builtin "object.__init__"))
 yd:W.keepIn K (.ref C)=true
 ye:W.plainGet K C Str.empty=true
 yf:W.hasDictIn K C=true
 yg:W.plainOver K C=true
 yh:W.findIn K (.ref C) "__setattr__"=some (some (.builtin "object.__setattr__"))
 yi:W.findIn K (.ref C) "__class__"=some (some (.builtin "object.__class__"))
 yj:W.mroIn K C (.type "object")=some true
 yk:W.specialIn K (.builtin "object.__class__") "__get__"=some (some (.builtin "getset_descriptor.__get__"))
 yl:W.takesIn K (.builtin "object.__class__")=some true
abbrev Yv(G:Gs)(s:Stmt)(N a:Li Str)(c:CS):Prop:=FnScope N a (defScope s)/\(∀ y∈N,L2.Loc (defScope s) y)/\cSs G 60 (defScope s) N (defBody s)=some c
variable{ps:Li Str}
section
variable{fd:FuncData}
theorem bd1(b:ps.length=1)(h:∀ a,bindArgs fd ⟨[a],[]⟩=pure (ps.zip [a])):Binds K fd ps []:=.all λc e=>by obtain⟨_,rfl⟩:=ZgM (e.trans b);exact h _
theorem bd2(c:ps.length=2)(h:∀ a b,bindArgs fd ⟨[a,b],[]⟩=pure (ps.zip [a,b])):Binds K fd ps []:=.all λd e=>by obtain⟨_,_,rfl⟩:=Za3 (e.trans c);exact h _ _
theorem bd3(d:ps.length=3)(h:∀ a b c,bindArgs fd ⟨[a,b,c],[]⟩=pure (ps.zip [a,b,c])):Binds K fd ps []:=.all λf e=>by obtain⟨_,_,_,rfl⟩:=UJ (e.trans d);exact h _ _ _
theorem bd4(f:ps.length=4)(h:∀ a b c d,bindArgs fd ⟨[a,b,c,d],[]⟩=pure (ps.zip [a,b,c,d])):Binds K fd ps []:=.all λg e=>by obtain⟨_,_,_,_,rfl⟩:=Ze9 (e.trans f);exact h _ _ _ _
theorem bd5(f:ps.length=5)(h:∀ a b c d k,bindArgs fd ⟨[a,b,c,d,k],[]⟩=pure (ps.zip [a,b,c,d,k])):Binds K fd ps []:=.all λg e=>by obtain⟨_,_,_,_,_,rfl⟩:=ZhO (e.trans f);exact h _ _ _ _ _
theorem bd6(f:ps.length=6)(h:∀ a b c d k l,bindArgs fd ⟨[a,b,c,d,k,l],[]⟩=pure (ps.zip [a,b,c,d,k,l])):Binds K fd ps []:=.all λg e=>by obtain⟨_,_,_,_,_,_,rfl⟩:=ZhP (e.trans f);exact h _ _ _ _ _ _
theorem bd0(a:ps.length=0)(h:bindArgs fd ⟨[],[]⟩=pure []):Binds K fd ps []:=.all λb e=>by rw[ZhN (e.trans a),List.zip_nil_right];exact h
end
variable{h:Heap}{i:Nat}
section
variable{Pm:Params}{x y:Str}{p:Nat}{s:Stmt}{c:CS}{r:Gs}
theorem gD(X:K.In h)(o:h.Ns mainGlobals mg)(F:FnAt K x s)(q:Yv G s N ps c)(f:T i=some ⟨ps.length,N.length,c⟩)(t:YH Pm K mg G T r)(d:∀ kV g b n j ct,Binds K (fnS x x s .none kV g b n j ct) ps []:=by first|exact λ_ _ _ _ _ _=>bd1 rfl λ_=>rfl|exact λ_ _ _ _ _ _=>bd2 rfl λ_ _=>rfl|exact λ_ _ _ _ _ _=>bd3 rfl λ_ _ _=>rfl|exact λ_ _ _ _ _ _=>bd4 rfl λ_ _ _ _=>rfl|exact λ_ _ _ _ _ _=>bd5 rfl λ_ _ _ _ _=>rfl|exact λ_ _ _ _ _ _=>bd6 rfl λ_ _ _ _ _ _=>rfl|exact λ_ _ _ _ _ _=>bd0 rfl rfl):YH Pm K mg G T ((x,.fn i p []) :: r):=by
 cases F with
 |mk a l e k=>exact⟨⟨_,_,ps,N,.inl ⟨s,_,_,_,_,_,_,_,_,_,_,c,rfl,l,e,q.1,q.2.1,q.2.2,f⟩,k,W.mg_of X o a,λm u=>⟨[],[],λ_ _=>by rw[List.drop_nil];exact .nil,.nil,d _ _ _ _ _ _⟩⟩,t⟩
theorem gE{v:Int}(X:K.In h)(B:h.Ns mainGlobals mg)(F:FnAtE K x s v)(q:Yv G s N ps c)(z:T i=some ⟨ps.length,N.length,c⟩)(f:∀ E kV o b w u ct n j A,K.lookup E=some n->n.data=.seq #[.int v j] A->Binds K (fnS x x s (.ref E) kV o b w u ct) ps []/\Binds K (fnS x x s (.ref E) kV o b w u ct) ps [.int v j])(t:YH Pm K mg G T r):YH Pm K mg G T ((x,.fn i p [.int v]) :: r):=by
 cases F with
 |mk a l e k d g=>
  refine⟨⟨_,_,ps,N,.inl ⟨s,_,_,_,_,_,_,_,_,_,_,c,rfl,l,e,q.1,q.2.1,q.2.2,z⟩,k,W.mg_of X B a,λm y=>?_⟩,t⟩
  match m,y with
  |0,_=>exact⟨[.int v],[.int v _],λ_ _=>.cons (.int _) .nil,.cons ⟨_,rfl⟩ .nil,(f _ _ _ _ _ _ _ _ _ _ d g).2⟩
  |1,_=>exact⟨[],[],λ_ _=>.nil,.nil,(f _ _ _ _ _ _ _ _ _ _ d g).1⟩
theorem gM{C:Ad}{r:Li (Str×Nat×Nat)}(F:MtAt K C x y s)(q:Yv G s N ps c)(d:T i=some ⟨ps.length,N.length,c⟩)(t:Y6 K G T C r)(b:∀ kV f a h g ct,Binds K (fnS x y s .none kV f a h g ct) ps []:=by first|exact λ_ _ _ _ _ _=>bd1 rfl λ_=>rfl|exact λ_ _ _ _ _ _=>bd2 rfl λ_ _=>rfl|exact λ_ _ _ _ _ _=>bd3 rfl λ_ _ _=>rfl|exact λ_ _ _ _ _ _=>bd4 rfl λ_ _ _ _=>rfl|exact λ_ _ _ _ _ _=>bd5 rfl λ_ _ _ _ _=>rfl|exact λ_ _ _ _ _ _=>bd6 rfl λ_ _ _ _ _ _=>rfl|exact λ_ _ _ _ _ _=>bd0 rfl rfl):Y6 K G T C ((x,i,p) :: r):=by
 cases F with
 |mk m l e k j=>exact⟨⟨y,_,_,ps,N,⟨s,_,_,_,_,_,_,_,_,_,_,c,rfl,l,e,q.1,q.2.1,q.2.2,d⟩,⟨m,j,k⟩,b _ _ _ _ _ _⟩,t⟩
theorem gS{C B:Ad}{l:Li Nat}(a:ClsTab.ca i=C)(F:ClsAt K x C)(m:W.kitOne K (.ref C) (.ref B)=some true)(t:Y8 K B l):Y8 K B (i :: l):=by
 subst a;exact⟨⟨⟨F.ye,F.yf,F.yg,F.yh⟩,F.yi,F.yk,F.yl,F.yj,m⟩,t⟩
theorem gC{C:Ad}(X:K.In h)(d:h.Ns mainGlobals mg)(c:ClsTab.ca i=C)(F:ClsAt K x C)(a:Y8 K C subs)(b:Y6 K G T C ms)(t:YH Pm K mg G T r):YH Pm K mg G T ((x,.cls i ms subs) :: r):=by
 subst c;exact⟨⟨⟨W.mg_of X d F.ya,⟨F.yb,F.yc,F.yd,⟨F.ye,F.yf,F.yg,F.yh⟩⟩,a⟩,b⟩,t⟩
theorem gB(X:K.In h)(a:h.Ns mainGlobals mg)(z:W.nsIn K mainGlobals x=some none)(t:YH Pm K mg G T r):YH Pm K mg G T ((x,.blt) :: r):=⟨W.mg_none_of X a z,t⟩
theorem gI{v:Int}{k:Tok}(X:K.In h)(a:h.Ns mainGlobals mg)(g:W.nsIn K mainGlobals x=some (some (.int v k)))(t:YH Pm K mg G T r):YH Pm K mg G T ((x,.c (.int v)) :: r):=⟨⟨.int v,_,W.mg_of X a g,⟨_,rfl⟩,λ_ _=>.int _⟩,t⟩
theorem gL{fa:Ad}{z:Str}(X:K.In h)(j:h.Ns mainGlobals mg)(b:mg x=some (.ref fa))(F:FnAt K x s)(q:Yv G s N [z] c)(p:T i=some ⟨1,N.length,c⟩)(g:∀ kV r n v t ct u,bindArgs (fnS x x s .none kV r n v t ct) ⟨[u],[]⟩=pure [(z,u)]):∃ (fd:FuncData) (N:Li Str),(∀ (s:sH7) (u:vL),BindsTo s fd ⟨[u],[]⟩ [(z,u)])/\DefOk K mg G T x i [] fa fd [z] N:=by
 cases F with
 |@mk f _ _ _ _ _ _ _ _ _ a l e k=>
  have d:=b.symm.trans (W.mg_of X j a);have d:fa=f:=by cases d;rfl
  rw[d];exact⟨_,N,λ_ u=>.of_eq (g _ _ _ _ _ _ u),.inl ⟨s,_,_,_,_,_,_,_,_,_,_,c,rfl,l,e,q.1,q.2.1,q.2.2,p⟩,k,W.mg_of X j a,λm y=>⟨[],[],λ_ _=>by rw[List.drop_nil];exact .nil,.nil,.all λw o=>by obtain⟨u,rfl⟩:=ZgM o;exact g _ _ _ _ _ _ u⟩⟩
end
omit [ClsTab] in
theorem JC{l:W.OpenLaw}{q:Program}{e:Li Str}{V:(Str->Ot vL)->Heap->Prop}{r:World->Heap->Prop}{d:DefRec}{K:Params->fG7}{G:Gs}{T:Nat->Ot FD}{n i:Nat}{x:Str}(y:l.most=some 63)(o:d.params.defaults=[])(v:Room n callerA)(I:∀ (w:World) (h:Heap),r w h->(K w.params).In h)(C:∀ [ClsTab] n,YI G (run T n))(F:∀ (w:World) (mg:Str->Ot vL) (fa:Ad) (h:Heap),(K w.params).In h->h.Ns mainGlobals mg->mg d.name=some (.ref fa)->
   ∃ _:ClsTab,Text w.params (K w.params) mg G T/\∃ (fd:FuncData) (N:Li Str),(∀ (s:sH7) (u:vL),BindsTo s fd ⟨[u],[]⟩ [(x,u)])/\DefOk (K w.params) mg G T d.name i [] fa fd [x] N)(L:∀ j:Li Int,j.length<=63->∃ st',run T n i [.lst 0] [(false,j.map .int)]=some (.bl true,st')) :
  W.WalkO q e V r l.row.toRowW d [] (λf vs=>PySem.call f vs):=
 L2.walk_of (n:=63) (k:=n) (x:=x) (CX:=λ_=>CX0) (sp:=λw vs H Q E=>∀ c:ClsTab,@spD c (K w.params) (run T n i) vs H Q E) y (by decide) o v I
  (λw mg fa h Y Z m=>by
   obtain⟨c,X,fd,N,D,Dk⟩:=F w mg fa h Y Z m;refine⟨fd,D,λbase _ _=>?_⟩
   have p:=ZeQ (P:=l.prog) (w:=w) (base:=base) (λn=>C n) X n Dk
   exact⟨λvs H Q E z=>p.len vs H Q E (z c),λA b s H g t vs Q E U S R O z=>p.run A b s H g t vs Q E U S R O (z c)⟩)
  (λw H a j B M J c=>Zf0 M J (L j B)) λ_ _ _ _ _ z=>z
end Dp
namespace Dp
open PySem
abbrev jN(n:Nat):Option D:=some (.int n)
abbrev jI(n:Int):Option D:=some (.int n)
abbrev jL(n:Nat):Option D:=some (.lst n)
abbrev CE.i(n:Int):CE:=.c (.int n)
noncomputable abbrev CE.t(s:String):CE:=.c (.str (S s))
abbrev CE.u(a:CE):CE:=.aC a .aN
abbrev CS.z(a:CS):CS:=.seq a .skip
abbrev CS.w(c:CE)(a:CS):CS:=.ite c a .skip
noncomputable def c_replaced:FD:=⟨3,3,(.z (.ret (.bin .Add (.bin .Add (.slice (.v 0) .nop (.part (.v 1))) (.tupE (.u (.v 2)))) (.slice (.v 0) (.part (.bin .Add (.v 1) (.i 1))) .nop))))⟩
noncomputable def c_operand_places:FD:=⟨1,1,(.z (.ret (.look [(S "put"),(S "if"),(S "tell"),(S "go"),(S "skip")] [(.tup [(.int 2),(.int 4)]),(.tup [(.int 1),(.int 3)]),(.tup [(.int 1)]),(.tup []),(.tup [])] (.ix (.v 0) (.i 0)))))⟩
noncomputable def Y9:CS:=(.z (.set 1 (.bin .Mult (.v 1) (.i 2))))
noncomputable def c_bit_of:FD:=⟨1,3,(.seq (.set 1 (.i 1))
 (.seq (.for1 2 true (.v 0) Y9)
 (.z (.ret (.v 1)))))⟩
noncomputable def c_all_bits:FD:=⟨1,1,(.z (.ret (.bin .Sub (.call 43 (.u (.v 0)) []) (.i 1))))⟩
noncomputable def c_has_bit:FD:=⟨2,2,(.z (.ret (.cmp .NotEq (.bin .BitAnd (.v 0) (.call 43 (.u (.v 1)) [])) (.i 0))))⟩
noncomputable def c_without_bit:FD:=⟨2,2,(.z (.ret (.bin .BitAnd (.v 0) (.inv (.call 43 (.u (.v 1)) [])))))⟩
noncomputable def c_around:FD:=⟨1,1,(.z (.ret (.bin .Sub (.bin .Mod (.bin .Add (.v 0) (.i 1000000000)) (.i 2000000000)) (.i 1000000000))))⟩
noncomputable def c_divided:FD:=⟨2,2,(.seq (.w (.cmp .Eq (.v 1) (.i 0)) (.z (.ret (.i 0))))
 (.z (.ret (.call 0 (.u (.bin .FloorDiv (.v 0) (.v 1))) []))))⟩
noncomputable def c_left_over:FD:=⟨2,2,(.seq (.w (.cmp .Eq (.v 1) (.i 0)) (.z (.ret (.v 0))))
 (.z (.ret (.bin .Sub (.v 0) (.bin .Mult (.v 1) (.bin .FloorDiv (.v 0) (.v 1)))))))⟩
noncomputable def c_reckon:FD:=⟨3,3,(.seq (.w (.cmp .Eq (.v 1) (.t "+")) (.z (.ret (.call 0 (.u (.bin .Add (.v 0) (.v 2))) []))))
 (.seq (.w (.cmp .Eq (.v 1) (.t "-")) (.z (.ret (.call 0 (.u (.bin .Sub (.v 0) (.v 2))) []))))
 (.seq (.w (.cmp .Eq (.v 1) (.t "*")) (.z (.ret (.call 0 (.u (.bin .Mult (.v 0) (.v 2))) []))))
 (.seq (.w (.cmp .Eq (.v 1) (.t "/")) (.z (.ret (.call 1 (.aC (.v 0) (.u (.v 2))) []))))
 (.z (.ret (.call 2 (.aC (.v 0) (.u (.v 2))) [])))))))⟩
noncomputable def c_is_so:FD:=⟨3,3,(.seq (.w (.cmp .Eq (.v 1) (.t "<")) (.z (.ret (.cmp .Lt (.v 0) (.v 2)))))
 (.seq (.w (.cmp .Eq (.v 1) (.t "<=")) (.z (.ret (.cmp .LtE (.v 0) (.v 2)))))
 (.seq (.w (.cmp .Eq (.v 1) (.t "=")) (.z (.ret (.cmp .Eq (.v 0) (.v 2)))))
 (.seq (.w (.cmp .Eq (.v 1) (.t ">=")) (.z (.ret (.cmp .GtE (.v 0) (.v 2)))))
 (.seq (.w (.cmp .Eq (.v 1) (.t ">")) (.z (.ret (.cmp .Gt (.v 0) (.v 2)))))
 (.z (.ret (.cmp .NotEq (.v 0) (.v 2)))))))))⟩
noncomputable def c_behind:FD:=⟨2,2,(.z (.ret (.ix (.v 0) (.bin .Mod (.bin .Add (.tix (.v 0) (.u (.v 1))) (.i 1)) (.len (.v 0))))))⟩
noncomputable def c_Step_word:FD:=⟨1,1,(.z (.ret (.t "none")))⟩
noncomputable def c_Step_turned:FD:=⟨3,3,(.z (.ret (.tupE .aN)))⟩
noncomputable def c_Sign_word:FD:=⟨1,1,(.z (.ret (.t "sign")))⟩
noncomputable def c_Sign_turned:FD:=⟨3,3,(.seq (.w (.cmp .Eq (.ix (.v 1) (.i 0)) (.t "put")) (.z (.ret (.tupE (.u (.call 42 (.aC (.v 1) (.aC (.i 3) (.u (.call 70 (.aC (.c (.kt [(S "+"),(S "-"),(S "*"),(S "/"),(S "mod")])) (.u (.ix (.v 1) (.i 3)))) [])))) []))))))
 (.seq (.w (.cmp .Eq (.ix (.v 1) (.i 0)) (.t "if")) (.z (.ret (.tupE (.u (.call 42 (.aC (.v 1) (.aC (.i 2) (.u (.call 70 (.aC (.c (.kt [(S "<"),(S "<="),(S "="),(S ">="),(S ">"),(S "!=")])) (.u (.ix (.v 1) (.i 2)))) [])))) []))))))
 (.z (.ret (.tupE .aN)))))⟩
noncomputable def c_More_word:FD:=⟨1,1,(.z (.ret (.t "more")))⟩
noncomputable def Z7:CS:=(.z (.w (.cmp .Eq (.ix (.ix (.v 1) (.v 4)) (.i 0)) (.t "number")) (.z (.app 3 (.call 42 (.aC (.v 1) (.aC (.v 4) (.u (.tupE (.aC (.t "number") (.u (.call 0 (.u (.bin .Add (.ix (.ix (.v 1) (.v 4)) (.i 1)) (.i 1))) []))))))) [])))))
noncomputable def c_More_turned:FD:=⟨3,5,(.seq (.set 3 (.lstE .aN))
 (.seq (.for1 4 false (.call 113 (.u (.v 1)) []) Z7)
 (.z (.ret (.tOf (.v 3))))))⟩
noncomputable def c_Turn_word:FD:=⟨1,1,(.z (.ret (.t "turn")))⟩
noncomputable def c_Turn_turned:FD:=⟨3,3,(.seq (.w (.cmp .NotEq (.ix (.v 1) (.i 0)) (.t "if")) (.z (.ret (.tupE .aN))))
 (.z (.ret (.tupE (.u (.call 42 (.aC (.v 1) (.aC (.i 2) (.u (.look [(S "<"),(S ">="),(S "<="),(S ">"),(S "="),(S "!=")] [(.str (S ">=")),(.str (S "<")),(.str (S ">")),(.str (S "<=")),(.str (S "!=")),(.str (S "="))] (.ix (.v 1) (.i 2)))))) []))))))⟩
noncomputable def c_Out_word:FD:=⟨1,1,(.z (.ret (.t "out")))⟩
noncomputable def c_Out_turned:FD:=⟨3,3,(.seq (.w (.cmp .Eq (.ix (.v 1) (.i 0)) (.t "skip")) (.z (.ret (.tupE .aN))))
 (.z (.ret (.tupE (.u (.tupE (.u (.t "skip"))))))))⟩
noncomputable def c_Swap_word:FD:=⟨1,1,(.z (.ret (.t "swap")))⟩
noncomputable def c_Swap_turned:FD:=⟨3,3,(.seq (.w (.and (.cmp .Eq (.ix (.v 1) (.i 0)) (.t "put")) (.cmp .NotEq (.ix (.v 1) (.i 2)) (.ix (.v 1) (.i 4)))) (.z (.ret (.tupE (.u (.tupE (.aC (.t "put") (.aC (.ix (.v 1) (.i 1)) (.aC (.ix (.v 1) (.i 4)) (.aC (.ix (.v 1) (.i 3)) (.u (.ix (.v 1) (.i 2)))))))))))))
 (.seq (.w (.and (.cmp .Eq (.ix (.v 1) (.i 0)) (.t "if")) (.cmp .NotEq (.ix (.v 1) (.i 1)) (.ix (.v 1) (.i 3)))) (.z (.ret (.tupE (.u (.tupE (.aC (.t "if") (.aC (.ix (.v 1) (.i 3)) (.aC (.ix (.v 1) (.i 2)) (.aC (.ix (.v 1) (.i 1)) (.u (.ix (.v 1) (.i 4)))))))))))))
 (.z (.ret (.tupE .aN)))))⟩
noncomputable def c_Far_word:FD:=⟨1,1,(.z (.ret (.t "far")))⟩
noncomputable def c_Far_turned:FD:=⟨3,3,(.seq (.w (.or (.cmp .NotIn (.ix (.v 1) (.i 0)) (.tupE (.aC (.t "go") (.u (.t "if"))))) (.cmp .GtE (.ix (.v 1) (.neg (.i 1))) (.v 2))) (.z (.ret (.tupE .aN))))
 (.z (.ret (.tupE (.u (.bin .Add (.slice (.v 1) .nop (.part (.neg (.i 1)))) (.tupE (.u (.bin .Add (.ix (.v 1) (.neg (.i 1))) (.i 1))))))))))⟩
noncomputable def Jv:CE:=(.comp false [4,6] (.meth [(146,148),(169,171),(149,151),(157,159),(152,154),(160,162),(163,165)] (.v 6) (.aC (.v 5) (.u (.len (.v 1))))) (.tupE (.aC (.v 1) (.aC (.meth [(146,147),(169,170),(149,150),(157,158),(152,153),(160,161),(163,164)] (.v 2) .aN) (.u (.v 0))))) (.c (.bl true)))
noncomputable def Xv:CS:=(.z (.ext 3 Jv))
noncomputable def Xw:CS:=(.z (.for1 6 false (.v 2) Xv))
noncomputable def c_fakes:FD:=⟨1,7,(.seq (.set 1 (.ix (.v 0) (.i 2)))
 (.seq (.set 2 (.lstE (.aC (.new 169) (.aC (.new 149) (.aC (.new 157) (.aC (.new 152) (.aC (.new 160) (.u (.new 163)))))))))
 (.seq (.set 3 (.lstE .aN))
 (.seq (.forE 4 5 (.v 1) Xw)
 (.z (.ret (.tOf (.v 3))))))))⟩
noncomputable def c_fake_of:FD:=⟨3,3,(.z (.ret (.tupE (.aC (.ix (.v 0) (.i 0)) (.aC (.ix (.v 0) (.i 1)) (.u (.call 42 (.aC (.ix (.v 0) (.i 2)) (.aC (.v 1) (.u (.v 2)))) [])))))))⟩
noncomputable def c_worth:FD:=⟨2,2,(.seq (.w (.cmp .Eq (.ix (.v 0) (.i 0)) (.t "name")) (.z (.ret (.ix (.v 1) (.ix (.v 0) (.i 1))))))
 (.z (.ret (.ix (.v 0) (.i 1)))))⟩
noncomputable def c_began:FD:=⟨2,2,(.z (.ret (.tupE (.aC (.i 0) (.u (.bin .Add (.v 1) (.bin .Mult (.tupE (.u (.i 0))) (.bin .Sub (.ix (.v 0) (.i 1)) (.len (.v 1))))))))))⟩
noncomputable def c_at_end:FD:=⟨2,2,(.z (.ret (.cmp .GtE (.ix (.v 1) (.i 0)) (.len (.ix (.v 0) (.i 2))))))⟩
noncomputable def c_values_behind:FD:=⟨2,3,(.seq (.w (.cmp .NotEq (.ix (.v 0) (.i 0)) (.t "put")) (.z (.ret (.v 1))))
 (.seq (.set 2 (.call 3 (.aC (.call 5 (.aC (.ix (.v 0) (.i 2)) (.u (.v 1))) []) (.aC (.ix (.v 0) (.i 3)) (.u (.call 5 (.aC (.ix (.v 0) (.i 4)) (.u (.v 1))) [])))) []))
 (.z (.ret (.call 42 (.aC (.v 1) (.aC (.ix (.v 0) (.i 1)) (.u (.v 2)))) [])))))⟩
noncomputable def c_place_behind:FD:=⟨3,3,(.seq (.w (.cmp .Eq (.ix (.v 0) (.i 0)) (.t "go")) (.z (.ret (.ix (.v 0) (.i 1)))))
 (.seq (.w (.and (.cmp .Eq (.ix (.v 0) (.i 0)) (.t "if")) (.call 4 (.aC (.call 5 (.aC (.ix (.v 0) (.i 1)) (.u (.v 2))) []) (.aC (.ix (.v 0) (.i 2)) (.u (.call 5 (.aC (.ix (.v 0) (.i 3)) (.u (.v 2))) [])))) [])) (.z (.ret (.ix (.v 0) (.i 4)))))
 (.z (.ret (.bin .Add (.v 1) (.i 1))))))⟩
noncomputable def c_moved:FD:=⟨2,5,(.seq (.w (.call 7 (.aC (.v 0) (.u (.v 1))) []) (.z (.ret (.tupE (.u (.t "none"))))))
 (.seq (.set 2 (.ix (.v 1) (.i 0)))
 (.seq (.set 3 (.ix (.v 1) (.i 1)))
 (.seq (.set 4 (.ix (.ix (.v 0) (.i 2)) (.v 2)))
 (.seq (.w (.cmp .Eq (.ix (.v 4) (.i 0)) (.t "tell")) (.z (.ret (.tupE (.aC (.t "told") (.u (.call 5 (.aC (.ix (.v 4) (.i 1)) (.u (.v 3))) [])))))))
 (.z (.ret (.tupE (.aC (.call 9 (.aC (.v 4) (.aC (.v 2) (.u (.v 3)))) []) (.u (.call 8 (.aC (.v 4) (.u (.v 3))) [])))))))))))⟩
noncomputable def c_is_outcome:FD:=⟨1,1,(.z (.ret (.isi .str (.ix (.v 0) (.i 0)))))⟩
noncomputable def ZC:CS:=(.seq (.set 6 (.call 10 (.aC (.v 0) (.u (.v 3))) []))
 (.seq (.app 4 (.v 6))
 (.seq (.w (.call 11 (.u (.v 6)) []) (.z (.ret (.tOf (.v 4)))))
 (.z (.set 3 (.v 6))))))
noncomputable def c_trail:FD:=⟨3,7,(.seq (.set 3 (.call 6 (.aC (.v 0) (.u (.v 1))) []))
 (.seq (.set 4 (.lstE (.u (.v 3))))
 (.seq (.for1 5 true (.v 2) ZC)
 (.seq (.app 4 (.ife (.call 7 (.aC (.v 0) (.u (.v 3))) []) (.tupE (.u (.t "none"))) (.tupE (.u (.t "late")))))
 (.z (.ret (.tOf (.v 4))))))))⟩
noncomputable def c_outcome:FD:=⟨3,3,(.z (.ret (.ix (.call 12 (.aC (.v 0) (.aC (.v 1) (.u (.v 2)))) []) (.neg (.i 1)))))⟩
noncomputable def c_check_trials:FD:=⟨1,1,(.z (.w (.cmp .Gt (.len (.v 0)) (.i 10)) (.z .stop)))⟩
noncomputable def Z1:CS:=(.z (.set 1 (.bin .Mult (.v 1) (.bin .Add (.bin .Sub (.v 3) (.v 2)) (.i 1)))))
noncomputable def c_width:FD:=⟨1,4,(.seq (.set 1 (.i 1))
 (.seq (.for2 2 3 (.ix (.v 0) (.i 0)) Z1)
 (.z (.ret (.v 1)))))⟩
noncomputable def WB:CE:=(.comp false [4] (.v 2) (.bin .Add (.v 1) (.tupE (.u (.v 0)))) (.c (.bl true)))
noncomputable def Yi:CS:=(.z (.ext 3 WB))
noncomputable def ZA:CS:=(.seq (.set 3 (.lstE .aN))
 (.seq (.for1 4 false (.v 1) Yi)
 (.z (.set 1 (.v 3)))))
noncomputable def c_inputs_of:FD:=⟨1,5,(.seq (.set 1 (.lstE (.u (.tupE .aN))))
 (.seq (.for1 2 false (.v 0) ZA)
 (.z (.ret (.tOf (.v 1))))))⟩
noncomputable def c_is_wide:FD:=⟨1,1,(.z (.ret (.cmp .Gt (.call 133 (.u (.v 0)) []) (.i 64))))⟩
noncomputable def c_box:FD:=⟨1,1,(.seq (.w (.call 135 (.u (.v 0)) []) (.z .stop))
 (.z (.ret (.call 134 (.u (.compT [] (.ix (.v 0) (.i 0)) (.lstR (.v 0) (.bin .Add (.v 1) (.i 1))) (.c (.bl true)))) []))))⟩
noncomputable def Xx:CS:=(.z (.w (.cmp .NotIn (.v 3) (.v 2)) (.z (.app 2 (.v 3)))))
noncomputable def c_menu_numbers:FD:=⟨2,4,(.seq (.set 2 (.lstE .aN))
 (.seq (.for1 3 false (.tupE (.aC (.v 0) (.aC (.bin .FloorDiv (.bin .Add (.v 0) (.v 1)) (.i 2)) (.u (.v 1))))) Xx)
 (.z (.ret (.v 2)))))⟩
noncomputable def c_menu:FD:=⟨1,1,(.z (.ret (.call 134 (.u (.compT [] (.ix (.v 0) (.i 0)) (.call 137 (.aC (.v 0) (.u (.v 1))) []) (.c (.bl true)))) [])))⟩
noncomputable def c_tried:FD:=⟨1,1,(.z (.ret (.ife (.call 135 (.u (.v 0)) []) (.call 138 (.u (.v 0)) []) (.call 136 (.u (.v 0)) []))))⟩
noncomputable def c_are_numbers:FD:=⟨2,2,(.z (.ret (.and (.cmp .Eq (.ix (.v 0) (.i 0)) (.t "number")) (.cmp .Eq (.ix (.v 1) (.i 0)) (.t "number")))))⟩
noncomputable def c_lesser_first:FD:=⟨3,3,(.seq (.w (.cmp .Lt (.ix (.v 0) (.v 2)) (.ix (.v 0) (.v 1))) (.z (.ret (.call 42 (.aC (.call 42 (.aC (.v 0) (.aC (.v 1) (.u (.ix (.v 0) (.v 2))))) []) (.aC (.v 2) (.u (.ix (.v 0) (.v 1))))) []))))
 (.z (.ret (.v 0))))⟩
noncomputable def c_less_as_more:FD:=⟨1,1,(.seq (.w (.and (.cmp .Eq (.ix (.v 0) (.i 3)) (.t "-")) (.cmp .Eq (.ix (.ix (.v 0) (.i 4)) (.i 0)) (.t "number"))) (.z (.ret (.bin .Add (.slice (.v 0) .nop (.part (.i 3))) (.tupE (.aC (.t "+") (.u (.tupE (.aC (.t "number") (.u (.call 0 (.u (.neg (.ix (.ix (.v 0) (.i 4)) (.i 1)))) [])))))))))))
 (.z (.ret (.v 0))))⟩
noncomputable def c_without_reckoning:FD:=⟨1,4,(.seq (.set 1 (.ix (.v 0) (.i 2)))
 (.seq (.set 2 (.ix (.v 0) (.i 3)))
 (.seq (.set 3 (.ix (.v 0) (.i 4)))
 (.seq (.w (.or (.and (.cmp .Eq (.v 2) (.t "*")) (.cmp .Eq (.v 3) (.c (.tup [(.str (S "number")),(.int 0)])))) (.or (.and (.cmp .Eq (.v 2) (.t "mod")) (.cmp .Eq (.v 3) (.c (.tup [(.str (S "number")),(.int 1)])))) (.and (.cmp .Eq (.v 2) (.t "-")) (.cmp .Eq (.v 1) (.v 3))))) (.z (.ret (.tupE (.aC (.t "put") (.aC (.ix (.v 0) (.i 1)) (.aC (.c (.tup [(.str (S "number")),(.int 0)])) (.aC (.t "+") (.u (.c (.tup [(.str (S "number")),(.int 0)])))))))))))
 (.seq (.w (.and (.cmp .In (.v 2) (.tupE (.aC (.t "*") (.u (.t "/"))))) (.cmp .Eq (.v 3) (.c (.tup [(.str (S "number")),(.int 1)])))) (.z (.ret (.tupE (.aC (.t "put") (.aC (.ix (.v 0) (.i 1)) (.aC (.v 1) (.aC (.t "+") (.u (.c (.tup [(.str (S "number")),(.int 0)])))))))))))
 (.z (.ret (.v 0))))))))⟩
noncomputable def c_made_put:FD:=⟨1,1,(.seq (.w (.call 73 (.aC (.ix (.v 0) (.i 2)) (.u (.ix (.v 0) (.i 4)))) []) (.z (.ret (.tupE (.aC (.t "put") (.aC (.ix (.v 0) (.i 1)) (.aC (.tupE (.aC (.t "number") (.u (.call 3 (.aC (.ix (.ix (.v 0) (.i 2)) (.i 1)) (.aC (.ix (.v 0) (.i 3)) (.u (.ix (.ix (.v 0) (.i 4)) (.i 1))))) [])))) (.aC (.t "+") (.u (.c (.tup [(.str (S "number")),(.int 0)])))))))))))
 (.seq (.set 0 (.call 75 (.u (.v 0)) []))
 (.seq (.w (.cmp .In (.ix (.v 0) (.i 3)) (.tupE (.aC (.t "+") (.u (.t "*"))))) (.z (.set 0 (.call 74 (.aC (.v 0) (.aC (.i 2) (.u (.i 4)))) []))))
 (.seq (.set 0 (.call 76 (.u (.v 0)) []))
 (.seq (.w (.cmp .Eq (.v 0) (.tupE (.aC (.t "put") (.aC (.ix (.v 0) (.i 1)) (.aC (.tupE (.aC (.t "name") (.u (.ix (.v 0) (.i 1))))) (.aC (.t "+") (.u (.c (.tup [(.str (S "number")),(.int 0)]))))))))) (.z (.ret (.c (.tup [(.str (S "skip"))])))))
 (.z (.ret (.v 0))))))))⟩
noncomputable def c_greater_as_less:FD:=⟨1,1,(.seq (.w (.cmp .Eq (.ix (.v 0) (.i 2)) (.t ">")) (.z (.ret (.tupE (.aC (.t "if") (.aC (.ix (.v 0) (.i 3)) (.aC (.t "<") (.aC (.ix (.v 0) (.i 1)) (.u (.ix (.v 0) (.i 4)))))))))))
 (.seq (.w (.cmp .Eq (.ix (.v 0) (.i 2)) (.t ">=")) (.z (.ret (.tupE (.aC (.t "if") (.aC (.ix (.v 0) (.i 3)) (.aC (.t "<=") (.aC (.ix (.v 0) (.i 1)) (.u (.ix (.v 0) (.i 4)))))))))))
 (.z (.ret (.v 0)))))⟩
noncomputable def c_is_settled:FD:=⟨1,1,(.z (.ret (.or (.call 73 (.aC (.ix (.v 0) (.i 1)) (.u (.ix (.v 0) (.i 3)))) []) (.cmp .Eq (.ix (.v 0) (.i 1)) (.ix (.v 0) (.i 3))))))⟩
noncomputable def c_settled:FD:=⟨1,2,(.seq (.set 1 (.call 4 (.aC (.ix (.ix (.v 0) (.i 1)) (.i 1)) (.aC (.ix (.v 0) (.i 2)) (.u (.ix (.ix (.v 0) (.i 3)) (.i 1))))) []))
 (.z (.ret (.ife (.v 1) (.tupE (.aC (.t "go") (.u (.ix (.v 0) (.i 4))))) (.c (.tup [(.str (S "skip"))]))))))⟩
noncomputable def c_most_as_less:FD:=⟨1,3,(.seq (.set 1 (.ix (.v 0) (.i 1)))
 (.seq (.set 2 (.ix (.v 0) (.i 3)))
 (.seq (.w (.cmp .NotEq (.ix (.v 0) (.i 2)) (.t "<=")) (.z (.ret (.v 0))))
 (.seq (.w (.and (.cmp .Eq (.ix (.v 2) (.i 0)) (.t "number")) (.cmp .Lt (.ix (.v 2) (.i 1)) (.i 999999999))) (.z (.ret (.tupE (.aC (.t "if") (.aC (.v 1) (.aC (.t "<") (.aC (.tupE (.aC (.t "number") (.u (.bin .Add (.ix (.v 2) (.i 1)) (.i 1))))) (.u (.ix (.v 0) (.i 4)))))))))))
 (.seq (.w (.and (.cmp .Eq (.ix (.v 1) (.i 0)) (.t "number")) (.cmp .Gt (.ix (.v 1) (.i 1)) (.i (-1000000000)))) (.z (.ret (.tupE (.aC (.t "if") (.aC (.tupE (.aC (.t "number") (.u (.bin .Sub (.ix (.v 1) (.i 1)) (.i 1))))) (.aC (.t "<") (.aC (.v 2) (.u (.ix (.v 0) (.i 4)))))))))))
 (.z (.ret (.v 0))))))))⟩
noncomputable def c_made_if:FD:=⟨2,2,(.seq (.w (.cmp .Eq (.ix (.v 0) (.i 4)) (.bin .Add (.v 1) (.i 1))) (.z (.ret (.c (.tup [(.str (S "skip"))])))))
 (.seq (.set 0 (.call 78 (.u (.v 0)) []))
 (.seq (.w (.call 79 (.u (.v 0)) []) (.z (.ret (.call 80 (.u (.v 0)) []))))
 (.seq (.w (.cmp .In (.ix (.v 0) (.i 2)) (.tupE (.aC (.t "=") (.u (.t "!="))))) (.z (.set 0 (.call 74 (.aC (.v 0) (.aC (.i 1) (.u (.i 3)))) []))))
 (.z (.ret (.call 81 (.u (.v 0)) [])))))))⟩
noncomputable def c_made_row:FD:=⟨2,2,(.seq (.w (.cmp .Eq (.ix (.v 0) (.i 0)) (.t "put")) (.z (.ret (.call 77 (.u (.v 0)) []))))
 (.seq (.w (.cmp .Eq (.ix (.v 0) (.i 0)) (.t "if")) (.z (.ret (.call 82 (.aC (.v 0) (.u (.v 1))) []))))
 (.seq (.w (.cmp .Eq (.v 0) (.tupE (.aC (.t "go") (.u (.bin .Add (.v 1) (.i 1)))))) (.z (.ret (.c (.tup [(.str (S "skip"))])))))
 (.z (.ret (.v 0))))))⟩
noncomputable def VO:CE:=(.comp2 [] (.ix (.v 0) (.i 2)) (.call 83 (.aC (.v 1) (.u (.v 0))) []) (.c (.bl true)))
noncomputable def c_made:FD:=⟨1,2,(.seq (.set 1 VO)
 (.z (.ret (.tupE (.aC (.ix (.v 0) (.i 0)) (.aC (.ix (.v 0) (.i 1)) (.u (.tOf (.v 1)))))))))⟩
noncomputable def c_row_at:FD:=⟨2,2,(.seq (.w (.cmp .GtE (.v 1) (.len (.ix (.v 0) (.i 2)))) (.z (.ret (.c (.tup [(.str (S "end"))])))))
 (.z (.ret (.call 83 (.aC (.ix (.ix (.v 0) (.i 2)) (.v 1)) (.u (.v 1))) []))))⟩
noncomputable def c_ends_run:FD:=⟨1,1,(.z (.ret (.or (.cmp .Eq (.v 0) (.c (.tup [(.str (S "end"))]))) (.cmp .Eq (.ix (.v 0) (.i 0)) (.t "tell")))))⟩
noncomputable def X3:CS:=(.z (.w (.and (.cmp .Eq (.ix (.ix (.v 0) (.v 2)) (.i 0)) (.t "name")) (.not (.call 114 (.aC (.v 1) (.u (.ix (.ix (.v 0) (.v 2)) (.i 1)))) []))) (.z (.ret (.c (.bl false))))))
noncomputable def c_reads_only:FD:=⟨2,3,(.seq (.for1 2 false (.call 113 (.u (.v 0)) []) X3)
 (.z (.ret (.c (.bl true)))))⟩
noncomputable def c_end_alike:FD:=⟨3,3,(.z (.ret (.and (.cmp .Eq (.v 0) (.v 1)) (.or (.cmp .Eq (.v 0) (.c (.tup [(.str (S "end"))]))) (.call 117 (.aC (.v 0) (.u (.v 2))) [])))))⟩
noncomputable def c_choose_alike:FD:=⟨3,3,(.z (.ret (.and (.cmp .Eq (.ix (.v 0) (.i 0)) (.t "if")) (.and (.cmp .Eq (.ix (.v 1) (.i 0)) (.t "if")) (.and (.cmp .Eq (.slice (.v 0) (.part (.i 1)) (.part (.i 4))) (.slice (.v 1) (.part (.i 1)) (.part (.i 4)))) (.call 117 (.aC (.v 0) (.u (.v 2))) []))))))⟩
noncomputable def Zz:CS:=(.z (.w (.cmp .Eq (.ix (.v 3) (.i 0)) (.t "put")) (.z (.set 2 (.call 57 (.aC (.v 2) (.u (.ix (.v 3) (.i 1)))) [])))))
noncomputable def c_staying:FD:=⟨3,4,(.seq (.w (.and (.cmp .Eq (.ix (.v 0) (.i 0)) (.t "put")) (.and (.cmp .Eq (.v 0) (.v 1)) (.call 117 (.aC (.v 0) (.u (.v 2))) []))) (.z (.ret (.bin .BitOr (.v 2) (.call 43 (.u (.ix (.v 0) (.i 1))) [])))))
 (.seq (.for1 3 false (.tupE (.aC (.v 0) (.u (.v 1)))) Zz)
 (.z (.ret (.v 2)))))⟩
noncomputable def c_places_behind:FD:=⟨2,2,(.seq (.w (.cmp .Eq (.ix (.v 0) (.i 0)) (.t "go")) (.z (.ret (.tupE (.u (.ix (.v 0) (.i 1)))))))
 (.seq (.w (.cmp .Eq (.ix (.v 0) (.i 0)) (.t "if")) (.z (.ret (.tupE (.aC (.ix (.v 0) (.i 4)) (.u (.bin .Add (.v 1) (.i 1))))))))
 (.z (.ret (.tupE (.u (.bin .Add (.v 1) (.i 1))))))))⟩
noncomputable def UD:CE:=(.comp false [9,7] (.call 121 (.aC (.v 6) (.u (.v 3))) []) (.tupE (.aC (.v 1) (.aC (.v 0) (.u (.v 2))))) (.c (.bl true)))
noncomputable def Ut:CS:=(.z (.ext 8 UD))
noncomputable def c_follow:FD:=⟨5,10,(.seq (.set 5 (.call 115 (.aC (.v 0) (.u (.v 2))) []))
 (.seq (.set 6 (.call 115 (.aC (.v 1) (.u (.v 3))) []))
 (.seq (.w (.or (.call 116 (.u (.v 5)) []) (.call 116 (.u (.v 6)) [])) (.z (.ret (.ife (.call 118 (.aC (.v 5) (.aC (.v 6) (.u (.v 4)))) []) (.tupE .aN) (.c .non)))))
 (.seq (.w (.call 119 (.aC (.v 5) (.aC (.v 6) (.u (.v 4)))) []) (.z (.ret (.tupE (.aC (.tupE (.aC (.ix (.v 5) (.i 4)) (.aC (.ix (.v 6) (.i 4)) (.u (.v 4))))) (.u (.tupE (.aC (.bin .Add (.v 2) (.i 1)) (.aC (.bin .Add (.v 3) (.i 1)) (.u (.v 4)))))))))))
 (.seq (.set 7 (.call 120 (.aC (.v 5) (.aC (.v 6) (.u (.v 4)))) []))
 (.seq (.set 8 (.lstE .aN))
 (.seq (.for1 9 false (.call 121 (.aC (.v 5) (.u (.v 2))) []) Ut)
 (.z (.ret (.tOf (.v 8)))))))))))⟩
noncomputable def c_found_paper:FD:=⟨2,10,(.seq (.set 2 (.dd (.i 0) (.i 0) (.call 56 (.u (.ix (.v 0) (.i 1))) [])))
 (.seq (.set 3 (.lstE (.u (.tupE (.aC (.i 0) (.u (.i 0)))))))
 (.seq (.whl (.cmp .Gt (.len (.v 3)) (.i 0)) (.seq (.set 4 (.pop (.v 3)))
 (.seq (.set 5 (.call 122 (.aC (.v 0) (.aC (.v 1) (.aC (.ix (.v 4) (.i 0)) (.aC (.ix (.v 4) (.i 1)) (.u (.ix (.v 2) (.v 4))))))) []))
 (.seq (.w (.cmp .Is (.v 5) (.c .non)) (.z (.ret (.c .non))))
 (.z (.for4 6 7 8 (.v 5) (.seq (.set 9 (.bin .BitAnd (.v 8) (.dgN (.v 2) (.tupE (.aC (.v 6) (.u (.v 7)))) (.v 8))))
 (.z (.w (.cmp .NotEq (.dgN (.v 2) (.tupE (.aC (.v 6) (.u (.v 7)))) (.c .non)) (.v 9)) (.seq (.dput 2 (.v 6) (.v 7) (.v 9))
 (.z (.app 3 (.tupE (.aC (.v 6) (.u (.v 7))))))))))))))))
 (.z (.ret (.tOf (.compT [2] (.ksrt (.v 2)) (.tupE (.aC (.v 0) (.aC (.v 1) (.u (.ix (.v 2) (.tupE (.aC (.v 0) (.u (.v 1))))))))) (.c (.bl true)))))))))⟩
noncomputable def VC:CS:=(.z (.w (.cmp .NotEq (.ix (.v 4) (.v 6)) (.ix (.v 5) (.v 6))) (.z (.ret (.tupE (.aC (.v 6) (.aC (.ix (.v 4) (.v 6)) (.u (.ix (.v 5) (.v 6))))))))))
noncomputable def c_parting:FD:=⟨4,7,(.seq (.set 4 (.call 12 (.aC (.v 0) (.aC (.v 2) (.u (.v 3)))) []))
 (.seq (.set 5 (.call 12 (.aC (.v 1) (.aC (.v 2) (.u (.v 3)))) []))
 (.seq (.for1 6 true (.min (.len (.v 4)) (.len (.v 5))) VC)
 (.z (.ret (.c .non))))))⟩
noncomputable def c_tells:FD:=⟨4,4,(.z (.ret (.cmp .NotEq (.call 13 (.aC (.v 0) (.aC (.v 2) (.u (.v 3)))) []) (.call 13 (.aC (.v 1) (.aC (.v 2) (.u (.v 3)))) []))))⟩
noncomputable def Uu:CS:=(.z (.w (.call 99 (.aC (.v 0) (.aC (.v 1) (.aC (.v 3) (.u (.v 2))))) []) (.z (.ret (.v 3)))))
noncomputable def c_sought:FD:=⟨3,4,(.seq (.for1 3 false (.call 139 (.u (.v 0)) []) Uu)
 (.z (.ret (.c .non))))⟩
noncomputable def Xh:CS:=(.z (.w (.call 99 (.aC (.v 0) (.aC (.v 1) (.aC (.v 5) (.u (.v 3))))) []) (.z (.ret (.v 4)))))
noncomputable def c_first_telling:FD:=⟨4,6,(.seq (.forE 4 5 (.v 2) Xh)
 (.z (.ret (.c .non))))⟩
noncomputable def c_verdict:FD:=⟨4,7,(.seq (.w (.cmp .Eq (.call 106 (.u (.v 1)) []) (.call 106 (.u (.v 0)) [])) (.z (.ret (.tupE (.u (.t "same"))))))
 (.seq (.set 4 (.call 281 (.aC (.v 0) (.aC (.v 1) (.aC (.v 2) (.u (.v 3))))) []))
 (.seq (.w (.cmp .IsNot (.v 4) (.c .non)) (.z (.ret (.tupE (.aC (.t "trial") (.aC (.v 4) (.u (.ix (.call 98 (.aC (.v 0) (.aC (.v 1) (.aC (.ix (.v 2) (.v 4)) (.u (.v 3))))) []) (.i 0)))))))))
 (.seq (.set 5 (.call 201 (.aC (.v 0) (.u (.v 1))) []))
 (.seq (.w (.cmp .IsNot (.v 5) (.c .non)) (.z (.ret (.tupE (.aC (.t "paper") (.u (.v 5)))))))
 (.seq (.set 6 (.call 140 (.aC (.v 0) (.aC (.v 1) (.u (.v 3)))) []))
 (.seq (.w (.cmp .IsNot (.v 6) (.c .non)) (.z (.ret (.tupE (.aC (.t "found") (.aC (.v 6) (.u (.ix (.call 98 (.aC (.v 0) (.aC (.v 1) (.aC (.v 6) (.u (.v 3))))) []) (.i 0)))))))))
 (.z (.ret (.ife (.call 135 (.u (.v 0)) []) (.tupE (.u (.t "unknown"))) (.tupE (.u (.t "table")))))))))))))⟩
noncomputable def c_verdicts:FD:=⟨3,3,(.seq (.act (.call 181 (.u (.v 1)) []))
 (.z (.ret (.tOf (.comp3 [2,0,1] (.call 172 (.u (.v 0)) []) (.call 282 (.aC (.v 4) (.aC (.call 180 (.aC (.v 4) (.aC (.v 0) (.u (.v 2)))) []) (.aC (.v 5) (.u (.v 3))))) []) (.c (.bl true)))))))⟩
noncomputable def c__law_whole:FD:=⟨1,1,(.z (.ret (.and (.isi .int (.v 0)) (.not (.isi .bool (.v 0))))))⟩
noncomputable def c__law_cell_at:FD:=⟨2,2,(.seq (.w (.cmp .Lt (.v 1) (.len (.v 0))) (.z (.ret (.ix (.v 0) (.v 1)))))
 (.seq (.w (.cmp .Eq (.v 0) (.lstE .aN)) (.z (.ret (.bin .Mod (.bin .Mult (.bin .Add (.bin .Mult (.v 1) (.v 1)) (.i 7)) (.i 48271)) (.i 2147483629)))))
 (.z (.ret (.bin .Mod (.bin .Mult (.bin .Add (.bin .Mod (.ix (.v 0) (.i 0)) (.i 2147483647)) (.i 7)) (.bin .Add (.bin .Mult (.v 1) (.v 1)) (.i 48271))) (.i 2147483629))))))⟩
noncomputable def c__law_small_by:FD:=⟨1,2,(.seq (.set 1 (.lstE (.aC (.neg (.i 1000000000)) (.aC (.neg (.i 999999999)) (.aC (.neg (.i 2)) (.aC (.neg (.i 1)) (.aC (.i 0) (.aC (.i 1) (.aC (.i 2) (.u (.i 999999999)))))))))))
 (.seq (.w (.cmp .Eq (.bin .Mod (.v 0) (.i 8)) (.i 0)) (.z (.ret (.ix (.v 1) (.bin .Mod (.bin .FloorDiv (.v 0) (.i 8)) (.i 8))))))
 (.seq (.w (.cmp .Eq (.bin .Mod (.v 0) (.i 8)) (.i 1)) (.z (.ret (.bin .Sub (.bin .Mod (.bin .Mult (.bin .FloorDiv (.v 0) (.i 8)) (.i 48271)) (.i 2000000000)) (.i 1000000000)))))
 (.z (.ret (.bin .Sub (.bin .Mod (.bin .FloorDiv (.v 0) (.i 8)) (.i 7)) (.i 3)))))))⟩
noncomputable def c__law_operand:FD:=⟨2,2,(.seq (.w (.cmp .Gt (.bin .Mod (.v 0) (.i 3)) (.i 0)) (.z (.ret (.tupE (.aC (.t "name") (.u (.bin .Mod (.bin .FloorDiv (.v 0) (.i 3)) (.v 1))))))))
 (.z (.ret (.tupE (.aC (.t "number") (.u (.call 19 (.u (.bin .FloorDiv (.v 0) (.i 3))) [])))))))⟩
noncomputable def c__law_row:FD:=⟨4,9,(.seq (.set 4 (.call 28 (.aC (.bin .Mod (.bin .Mult (.v 1) (.i 48271)) (.i 2147483647)) (.u (.v 2))) []))
 (.seq (.set 5 (.call 28 (.aC (.bin .Mod (.bin .Mult (.bin .Add (.v 1) (.i 5)) (.i 1226874159)) (.i 2147483647)) (.u (.v 2))) []))
 (.seq (.set 6 (.bin .Mod (.bin .Mult (.v 0) (.i 48271)) (.i 2147483647)))
 (.seq (.set 7 (.bin .Mod (.bin .Mod (.bin .Mult (.bin .Add (.v 0) (.i 1)) (.i 742938285)) (.i 2147483647)) (.bin .Add (.v 3) (.i 1))))
 (.seq (.w (.cmp .Lt (.bin .Mod (.v 0) (.i 8)) (.i 4)) (.seq (.set 8 (.bin .Mod (.bin .Mod (.bin .Mult (.bin .Add (.v 1) (.i 3)) (.i 950706376)) (.i 2147483647)) (.v 2)))
 (.z (.ret (.tupE (.aC (.t "put") (.aC (.v 8) (.aC (.v 4) (.aC (.ix (.lstE (.aC (.t "+") (.aC (.t "-") (.aC (.t "*") (.aC (.t "/") (.u (.t "mod"))))))) (.bin .Mod (.v 6) (.i 5))) (.u (.v 5)))))))))))
 (.seq (.w (.cmp .Lt (.bin .Mod (.v 0) (.i 8)) (.i 6)) (.z (.ret (.tupE (.aC (.t "if") (.aC (.v 4) (.aC (.ix (.lstE (.aC (.t "<") (.aC (.t "<=") (.aC (.t "=") (.aC (.t ">=") (.aC (.t ">") (.u (.t "!=")))))))) (.bin .Mod (.v 6) (.i 6))) (.aC (.v 5) (.u (.v 7))))))))))
 (.seq (.w (.cmp .Eq (.bin .Mod (.v 0) (.i 8)) (.i 6)) (.z (.ret (.ix (.lstE (.aC (.tupE (.aC (.t "go") (.u (.v 7)))) (.u (.tupE (.u (.t "skip")))))) (.bin .Mod (.v 6) (.i 2))))))
 (.z (.ret (.tupE (.aC (.t "tell") (.u (.v 4)))))))))))))⟩
noncomputable def c__law_stretch:FD:=⟨1,2,(.seq (.set 1 (.bin .Sub (.bin .Mod (.bin .FloorDiv (.v 0) (.i 8)) (.i 7)) (.i 3)))
 (.z (.ret (.tupE (.aC (.v 1) (.u (.bin .Add (.v 1) (.bin .Mod (.bin .FloorDiv (.v 0) (.i 56)) (.i 3)))))))))⟩
noncomputable def Z3:CE:=(.comp true [0] (.v 3) (.call 284 (.u (.call 27 (.aC (.v 1) (.u (.bin .Add (.i 2) (.v 0)))) [])) []) (.c (.bl true)))
noncomputable def Xu:CS:=(.seq (.set 8 (.call 27 (.aC (.v 0) (.u (.bin .Add (.i 5) (.bin .Mult (.i 2) (.v 7))))) []))
 (.z (.app 6 (.call 29 (.aC (.v 8) (.aC (.call 27 (.aC (.v 0) (.u (.bin .Add (.i 6) (.bin .Mult (.i 2) (.v 7))))) []) (.aC (.v 4) (.u (.v 5))))) []))))
noncomputable def c__law_program:FD:=⟨2,10,(.seq (.set 2 (.bin .Mod (.call 27 (.aC (.v 0) (.u (.i 0))) []) (.i 2147483647)))
 (.seq (.set 3 (.bin .Mod (.v 2) (.i 4)))
 (.seq (.set 4 (.max (.i 1) (.bin .Add (.v 3) (.bin .Mult (.bin .Mod (.bin .FloorDiv (.v 2) (.i 4)) (.i 2)) (.intOf (.cmp .Lt (.v 3) (.i 4)))))))
 (.seq (.set 5 (.bin .Mod (.call 27 (.aC (.v 0) (.u (.i 1))) []) (.bin .Add (.v 1) (.i 1))))
 (.seq (.set 6 (.lstE .aN))
 (.seq (.for1 7 true (.v 5) Xu)
 (.seq (.w (.and (.cmp .Gt (.v 5) (.i 0)) (.cmp .Gt (.bin .Mod (.bin .FloorDiv (.v 2) (.i 8)) (.i 4)) (.i 0))) (.z (.put 6 (.neg (.i 1)) (.tupE (.aC (.t "tell") (.u (.tupE (.aC (.t "name") (.u (.bin .Mod (.bin .FloorDiv (.v 2) (.i 32)) (.v 4)))))))))))
 (.seq (.set 9 Z3)
 (.z (.ret (.tupE (.aC (.tOf (.v 9)) (.aC (.v 4) (.u (.tOf (.v 6))))))))))))))))⟩
noncomputable def YE:CE:=(.comp true [4,0,1,2] (.v 2) (.call 27 (.aC (.v 2) (.u (.bin .Add (.bin .Add (.bin .Add (.v 3) (.i 1)) (.bin .Mult (.v 1) (.v 4))) (.v 0)))) []) (.c (.bl true)))
noncomputable def YF:CE:=(.comp false [] (.v 5) (.call 19 (.u (.v 0)) []) (.c (.bl true)))
noncomputable def XR:CS:=(.seq (.set 5 YE)
 (.z (.app 3 (.tOf YF))))
noncomputable def c__law_trials:FD:=⟨3,6,(.seq (.set 3 (.lstE .aN))
 (.seq (.for1 4 true (.bin .Mod (.call 27 (.aC (.v 0) (.u (.v 1))) []) (.i 4)) XR)
 (.z (.ret (.tOf (.v 3))))))⟩
noncomputable def c__law_limit:FD:=⟨1,1,(.seq (.w (.cmp .Eq (.bin .Mod (.bin .FloorDiv (.v 0) (.i 11)) (.i 8)) (.i 3)) (.z (.ret (.i 30))))
 (.z (.ret (.bin .Mod (.v 0) (.i 11)))))⟩
noncomputable def c__law_around:FD:=⟨1,1,(.z (.ret (.bin .Sub (.bin .Mod (.bin .Add (.v 0) (.i 1000000000)) (.i 2000000000)) (.i 1000000000))))⟩
noncomputable def c__law_reckon:FD:=⟨3,3,(.seq (.w (.cmp .Eq (.v 1) (.t "+")) (.z (.ret (.call 31 (.u (.bin .Add (.v 0) (.v 2))) []))))
 (.seq (.w (.cmp .Eq (.v 1) (.t "-")) (.z (.ret (.call 31 (.u (.bin .Sub (.v 0) (.v 2))) []))))
 (.seq (.w (.cmp .Eq (.v 1) (.t "*")) (.z (.ret (.call 31 (.u (.bin .Mult (.v 0) (.v 2))) []))))
 (.seq (.w (.cmp .Eq (.v 2) (.i 0)) (.z (.ret (.ix (.lstE (.aC (.v 0) (.u (.i 0)))) (.intOf (.cmp .Eq (.v 1) (.t "/")))))))
 (.seq (.w (.cmp .Eq (.v 1) (.t "/")) (.z (.ret (.call 31 (.u (.bin .FloorDiv (.v 0) (.v 2))) []))))
 (.z (.ret (.bin .Sub (.v 0) (.bin .Mult (.v 2) (.bin .FloorDiv (.v 0) (.v 2)))))))))))⟩
noncomputable def c__law_so:FD:=⟨3,4,(.seq (.set 3 (.dict [(S "<"),(S "<="),(S "=")] (.aC (.cmp .Lt (.v 0) (.v 2)) (.aC (.cmp .LtE (.v 0) (.v 2)) (.u (.cmp .Eq (.v 0) (.v 2)))))))
 (.seq (.w (.cmp .In (.v 1) (.v 3)) (.z (.ret (.ix (.v 3) (.v 1)))))
 (.z (.ret (.not (.ix (.dict [(S ">="),(S ">"),(S "!=")] (.aC (.cmp .Lt (.v 0) (.v 2)) (.aC (.cmp .LtE (.v 0) (.v 2)) (.u (.cmp .Eq (.v 0) (.v 2)))))) (.v 1)))))))⟩
noncomputable def c__law_worth:FD:=⟨2,2,(.seq (.w (.cmp .Eq (.ix (.v 0) (.i 0)) (.t "name")) (.z (.ret (.ix (.v 1) (.ix (.v 0) (.i 1))))))
 (.z (.ret (.ix (.v 0) (.i 1)))))⟩
noncomputable def c__law_next:FD:=⟨3,6,(.seq (.set 3 (.ix (.ix (.v 0) (.i 2)) (.v 1)))
 (.seq (.w (.cmp .Eq (.ix (.v 3) (.i 0)) (.t "tell")) (.z (.ret (.tupE (.aC (.t "told") (.u (.call 34 (.aC (.ix (.v 3) (.i 1)) (.u (.v 2))) [])))))))
 (.seq (.w (.cmp .Eq (.ix (.v 3) (.i 0)) (.t "put")) (.seq (.set 4 (.listOf (.v 2)))
 (.seq (.put 4 (.ix (.v 3) (.i 1)) (.call 32 (.aC (.call 34 (.aC (.ix (.v 3) (.i 2)) (.u (.v 2))) []) (.aC (.ix (.v 3) (.i 3)) (.u (.call 34 (.aC (.ix (.v 3) (.i 4)) (.u (.v 2))) [])))) []))
 (.z (.ret (.tupE (.aC (.bin .Add (.v 1) (.i 1)) (.u (.tOf (.v 4))))))))))
 (.seq (.w (.cmp .Eq (.ix (.v 3) (.i 0)) (.t "go")) (.z (.ret (.tupE (.aC (.ix (.v 3) (.i 1)) (.u (.v 2)))))))
 (.seq (.w (.cmp .Eq (.ix (.v 3) (.i 0)) (.t "if")) (.seq (.set 5 (.call 34 (.aC (.ix (.v 3) (.i 1)) (.u (.v 2))) []))
 (.z (.w (.call 33 (.aC (.v 5) (.aC (.ix (.v 3) (.i 2)) (.u (.call 34 (.aC (.ix (.v 3) (.i 3)) (.u (.v 2))) [])))) []) (.z (.ret (.tupE (.aC (.ix (.v 3) (.i 4)) (.u (.v 2))))))))))
 (.z (.ret (.tupE (.aC (.bin .Add (.v 1) (.i 1)) (.u (.v 2)))))))))))⟩
noncomputable def Zm:CS:=(.seq (.w (.cmp .Eq (.ix (.v 3) (.i 0)) (.len (.ix (.v 0) (.i 2)))) (.z (.ret (.bin .Add (.v 4) (.lstE (.u (.tupE (.u (.t "none")))))))))
 (.seq (.set 3 (.call 35 (.aC (.v 0) (.aC (.ix (.v 3) (.i 0)) (.u (.ix (.v 3) (.i 1))))) []))
 (.seq (.app 4 (.v 3))
 (.z (.w (.cmp .Eq (.ix (.v 3) (.i 0)) (.t "told")) (.z (.ret (.v 4))))))))
noncomputable def c__law_trail:FD:=⟨3,6,(.seq (.set 3 (.tupE (.aC (.i 0) (.u (.bin .Add (.v 1) (.bin .Mult (.tupE (.u (.i 0))) (.bin .Sub (.ix (.v 0) (.i 1)) (.len (.v 1)))))))))
 (.seq (.set 4 (.lstE (.u (.v 3))))
 (.seq (.for1 5 true (.v 2) Zm)
 (.z (.ret (.bin .Add (.v 4) (.lstE (.u (.ix (.lstE (.aC (.tupE (.u (.t "late"))) (.u (.tupE (.u (.t "none")))))) (.intOf (.cmp .Eq (.ix (.v 3) (.i 0)) (.len (.ix (.v 0) (.i 2))))))))))))))⟩
noncomputable def c__law_parted:FD:=⟨2,3,(.seq (.set 2 (.i 0))
 (.seq (.whl (.cmp .Eq (.ix (.v 0) (.v 2)) (.ix (.v 1) (.v 2))) (.z (.set 2 (.bin .Add (.v 2) (.i 1)))))
 (.z (.ret (.v 2)))))⟩
noncomputable def Zy:CS:=(.seq (.set 5 (.call 26 (.aC (.v 0) (.aC (.ix (.v 2) (.v 4)) (.u (.v 3)))) []))
 (.seq (.set 6 (.call 26 (.aC (.v 1) (.aC (.ix (.v 2) (.v 4)) (.u (.v 3)))) []))
 (.z (.w (.cmp .NotEq (.ix (.v 5) (.neg (.i 1))) (.ix (.v 6) (.neg (.i 1)))) (.z (.ret (.tupE (.aC (.t "trial") (.aC (.v 4) (.u (.call 286 (.aC (.v 5) (.u (.v 6))) [])))))))))))
noncomputable def c__law_due:FD:=⟨4,7,(.seq (.for1 4 true (.len (.v 2)) Zy)
 (.z (.ret (.c .non))))⟩
noncomputable def c__law_counter:FD:=⟨1,3,(.seq (.set 1 (.bin .Mod (.v 0) (.i 2)))
 (.seq (.set 2 (.bin .Mult (.tupE (.u (.tupE (.u (.t "skip"))))) (.v 1)))
 (.seq (.set 2 (.bin .Add (.v 2) (.tupE (.u (.tupE (.aC (.t "put") (.aC (.i 0) (.aC (.tupE (.aC (.t "name") (.u (.i 0)))) (.aC (.t "+") (.u (.tupE (.aC (.t "number") (.u (.i 1))))))))))))))
 (.seq (.set 2 (.bin .Add (.v 2) (.tupE (.u (.tupE (.aC (.t "if") (.aC (.tupE (.aC (.t "name") (.u (.i 0)))) (.aC (.t "<") (.aC (.tupE (.aC (.t "number") (.u (.bin .Add (.i 50) (.bin .Mod (.bin .FloorDiv (.v 0) (.i 2)) (.i 50)))))) (.u (.v 1)))))))))))
 (.z (.ret (.tupE (.aC (.tupE .aN) (.aC (.i 1) (.u (.bin .Add (.v 2) (.tupE (.u (.tupE (.aC (.t "tell") (.u (.tupE (.aC (.t "name") (.u (.i 0))))))))))))))))))))⟩
noncomputable def YJ:CS:=(.seq (.set 10 (.bin .Add (.slice (.v 1) .nop (.part (.i 2))) (.tupE (.u (.bin .Add (.bin .Add (.slice (.ix (.v 1) (.i 2)) .nop (.part (.ix (.v 8) (.i 0)))) (.tupE (.u (.ix (.v 8) (.i 2))))) (.slice (.ix (.v 1) (.i 2)) (.part (.bin .Add (.ix (.v 8) (.i 0)) (.i 1))) .nop))))))
 (.seq (.set 11 (.call 38 (.aC (.v 1) (.aC (.v 10) (.aC (.v 5) (.u (.v 3))))) []))
 (.seq (.w (.or (.not (.isi .tuple (.v 9))) (.cmp .Eq (.len (.v 9)) (.i 0))) (.z (.ret (.c (.bl false)))))
 (.seq (.w (.and (.cmp .Is (.v 11) (.c .non)) (.cmp .Eq (.ix (.v 9) (.i 0)) (.t "trial"))) (.z (.ret (.c (.bl false)))))
 (.z (.w (.cmp .IsNot (.v 11) (.c .non)) (.z (.w (.or (.cmp .NotEq (.v 9) (.v 11)) (.or (.not (.call 17 (.u (.ix (.v 9) (.i 1))) [])) (.not (.call 17 (.u (.ix (.v 9) (.i 2))) [])))) (.z (.ret (.c (.bl false))))))))))))
noncomputable def c_law_k62:FD:=⟨1,12,(.seq (.set 1 (.call 30 (.aC (.v 0) (.u (.i 4))) []))
 (.seq (.set 2 (.bin .Add (.i 5) (.bin .Mult (.i 2) (.len (.ix (.v 1) (.i 2))))))
 (.seq (.set 3 (.call 102 (.u (.call 27 (.aC (.v 0) (.u (.v 2))) [])) []))
 (.seq (.w (.cmp .Gt (.len (.ix (.v 1) (.i 0))) (.i 2)) (.z (.set 3 (.bin .Mod (.v 3) (.i 11)))))
 (.seq (.set 4 (.call 27 (.aC (.v 0) (.u (.v 2))) []))
 (.seq (.w (.cmp .Eq (.bin .Mod (.bin .FloorDiv (.v 4) (.i 88)) (.i 8)) (.i 5)) (.seq (.set 1 (.call 186 (.u (.bin .FloorDiv (.v 4) (.i 704))) []))
 (.z (.set 3 (.bin .Add (.i 100) (.bin .Mod (.bin .FloorDiv (.v 4) (.i 70400)) (.i 101)))))))
 (.seq (.set 5 (.call 51 (.aC (.v 0) (.aC (.bin .Add (.v 2) (.i 1)) (.u (.len (.ix (.v 1) (.i 0)))))) []))
 (.seq (.set 6 (.call 283 (.aC (.v 1) (.aC (.v 5) (.u (.v 3)))) []))
 (.seq (.set 7 (.call 172 (.u (.v 1)) []))
 (.seq (.w (.or (.not (.isi .tuple (.v 6))) (.cmp .NotEq (.len (.v 6)) (.len (.v 7)))) (.z (.ret (.c (.bl false)))))
 (.seq (.forP 8 9 (.aC (.v 7) (.u (.v 6))) YJ)
 (.z (.ret (.c (.bl true)))))))))))))))⟩
end Dp
noncomputable section
namespace Dp
open PySem
noncomputable def T:Nat->Ot FD
 |42=>some c_replaced
 |113=>some c_operand_places
 |43=>some c_bit_of
 |56=>some c_all_bits
 |114=>some c_has_bit
 |57=>some c_without_bit
 |0=>some c_around
 |1=>some c_divided
 |2=>some c_left_over
 |3=>some c_reckon
 |4=>some c_is_so
 |70=>some c_behind
 |147=>some c_Step_word
 |148=>some c_Step_turned
 |170=>some c_Sign_word
 |171=>some c_Sign_turned
 |150=>some c_More_word
 |151=>some c_More_turned
 |158=>some c_Turn_word
 |159=>some c_Turn_turned
 |153=>some c_Out_word
 |154=>some c_Out_turned
 |161=>some c_Swap_word
 |162=>some c_Swap_turned
 |164=>some c_Far_word
 |165=>some c_Far_turned
 |172=>some c_fakes
 |180=>some c_fake_of
 |5=>some c_worth
 |6=>some c_began
 |7=>some c_at_end
 |8=>some c_values_behind
 |9=>some c_place_behind
 |10=>some c_moved
 |11=>some c_is_outcome
 |12=>some c_trail
 |13=>some c_outcome
 |181=>some c_check_trials
 |133=>some c_width
 |134=>some c_inputs_of
 |135=>some c_is_wide
 |136=>some c_box
 |137=>some c_menu_numbers
 |138=>some c_menu
 |139=>some c_tried
 |73=>some c_are_numbers
 |74=>some c_lesser_first
 |75=>some c_less_as_more
 |76=>some c_without_reckoning
 |77=>some c_made_put
 |78=>some c_greater_as_less
 |79=>some c_is_settled
 |80=>some c_settled
 |81=>some c_most_as_less
 |82=>some c_made_if
 |83=>some c_made_row
 |106=>some c_made
 |115=>some c_row_at
 |116=>some c_ends_run
 |117=>some c_reads_only
 |118=>some c_end_alike
 |119=>some c_choose_alike
 |120=>some c_staying
 |121=>some c_places_behind
 |122=>some c_follow
 |201=>some c_found_paper
 |98=>some c_parting
 |99=>some c_tells
 |140=>some c_sought
 |281=>some c_first_telling
 |282=>some c_verdict
 |283=>some c_verdicts
 |17=>some c__law_whole
 |27=>some c__law_cell_at
 |19=>some c__law_small_by
 |28=>some c__law_operand
 |29=>some c__law_row
 |284=>some c__law_stretch
 |30=>some c__law_program
 |51=>some c__law_trials
 |102=>some c__law_limit
 |31=>some c__law_around
 |32=>some c__law_reckon
 |33=>some c__law_so
 |34=>some c__law_worth
 |35=>some c__law_next
 |26=>some c__law_trail
 |286=>some c__law_parted
 |38=>some c__law_due
 |186=>some c__law_counter
 |16=>some c_law_k62
 |_=>none
noncomputable abbrev rT:=run T
structure Grw(s s':Za):Prop where
 old:∀ i,i < s.length->s'[i]?=s[i]?
 len:s.length<=s'.length
variable{α:Type}{U':Env}{wk:D->Za->Ot (Li D×(Za->Prop))}{fr:Li Nat}{it elt:CE}{lo hi:Ot Int}
variable{F:Nat->Fn}{s st:Za}{e a b c:CE}{U:Env}{d x y:D}{q p:CS}{n f i j w:Nat}{xs ds:Li D}
section
variable{s' s1 s2:Za}{z:D}{k m:Bool}{t:Y5}
theorem Zt{l:Li α}{x:α}(h:l[i]?=some x):i < l.length:=(bK.mp h).1
theorem Grw.refl:Grw s s:=⟨λ_ _=>rfl,aD _⟩
theorem Grw.trans(a:Grw s s1)(b:Grw s1 s2):Grw s s2:=⟨λi h=>(b.old i (aT h a.len)).trans (a.old i h),aP a.len b.len⟩
theorem Grw.get(g:Grw s s')(h:s[i]?=some t):s'[i]?=some t:=(g.old i (Zt h)).trans h
theorem Grw.push:Grw s (s++[t]):=⟨λi h=>bY h,by rw[aI];omega⟩
theorem Grw.nil:Grw [] s:=⟨λ_ h=>absurd h (Nat.not_lt_zero _),aM _⟩
def Gv(s:Za)(f:Za->Res)(d:D):Prop:=∀ st,Grw s st->∃ st',f st=some (d,st')/\Grw st st'
def Y(F:Nat->Fn)(s:Za)(e:CE)(U:Env)(d:D):Prop:=Gv s (ev F e U) d
def C(F:Nat->Fn)(s:Za)(f:Nat)(ds:Li D)(d:D):Prop:=Gv s (F f ds) d
def R(F:Nat->Fn)(s:Za)(q:CS)(U:Env)(d:D):Prop:=∀ st,Grw s st->∃ st',ex F q U st=some (.rt d,st')/\Grw st st'
theorem rf{f:Za->Res}(x:Za):f x=f x:=rfl
theorem Y.r(h:∀ st,ev F e U st=some (d,st)):Y F s e U d:=λst _=>⟨st,h st,.refl⟩
theorem Y.at(h:∀ st,Grw s st->ev F e U st=some (d,st)):Y F s e U d:=λst g=>⟨st,h st g,.refl⟩
theorem Gv.mono{f:Za->Res}(h:Gv s f d)(g:Grw s s'):Gv s' f d:=λst k=>h st (g.trans k)
theorem C.up(h:C F [] f ds d):C F s f ds d:=Gv.mono h .nil
theorem g1{g:D->Za->Res}(e:Y F s a U x)(h:Gv s (g x) d):Gv s (Zq (ev F a) g U) d:=λst k=>by
 obtain⟨s1,i,b⟩:=e st k;obtain⟨s2,f,c⟩:=h s1 (k.trans b);exact⟨s2,by unfold Zq;rw[i];exact f,b.trans c⟩
theorem g2{g:D->D->Za->Res}(l:Y F s a U x)(j:Y F s b U y)(h:Gv s (g x y) d):Gv s (ZQ (ev F a) (ev F b) g U) d:=λst k=>by
 obtain⟨s1,o,c⟩:=l st k;obtain⟨s2,n,e⟩:=j s1 (k.trans c);obtain⟨f,m,i⟩:=h s2 (k.trans (c.trans e));exact⟨f,by unfold ZQ;rw[o];simp only[n];exact m,c.trans (e.trans i)⟩
theorem gp{f:Za->Res}(h:∀ st,f st=some (d,st)):Gv s f d:=λst _=>⟨st,h st,.refl⟩
theorem gs{f:Za->Res}(h:∀ st,Grw s st->f st=some (d,st)):Gv s f d:=λst k=>⟨st,h st k,.refl⟩
theorem Y.cmp{op:CmpOp}(d:Y F s a U x)(c:Y F s b U y)(h:∀ st,Zcv op x y st=some k):Y F s (.cmp op a b) U (.bl k):=g2 d c (gp λst=>by unfold Zcw;rw[h])
theorem gc{e b c:Ev}(i:Gv s (e U) (.bl k))(h:Gv s ((if k then b else c) U) d):Gv s (Yq e b c U) d:=λst g=>by
 obtain⟨s1,l,a⟩:=i st g;obtain⟨s2,j,f⟩:=h s1 (g.trans a);exact⟨s2,by unfold Yq;rw[l];cases k<;>exact j,a.trans f⟩
theorem Y.and(c:Y F s a U (.bl k))(d:k=true->Y F s b U (.bl m)):Y F s (.and a b) U (.bl (k&&m)):=by
 cases k
 ·exact gc c (gp λ_=>rfl)
 ·exact gc c (d rfl)
theorem Y.or(c:Y F s a U (.bl k))(d:k=false->Y F s b U (.bl m)):Y F s (.or a b) U (.bl (k||m)):=by
 cases k
 ·exact gc c (d rfl)
 ·exact gc c (gp λ_=>rfl)
theorem Y.not(b:Y F s a U (.bl k)):Y F s (.not a) U (.bl (!k)):=g1 b (gp λ_=>rfl)
theorem Y.ife(e:Y F s c U (.bl k))(h:Y F s (if k then a else b) U d):Y F s (.ife c a b) U d:=by
 cases k<;>exact gc e h
theorem Y.call(b:Y F s a U (.tup xs))(h:C F s f (xs++ds) d):Y F s (.call f a ds) U d:=g1 b h
theorem Y.cons(e:Y F s a U x)(d:Y F s b U (.tup xs))(c:xs.length < 1000:=by first|decide | (simp only[aQ,cY];decide)):Y F s (.aC a b) U (.tup (x :: xs)):=g2 e d (gp λst=>if_pos c)
theorem Y.nil:Y F s .aN U (.tup []):=.r rf
theorem Y.call1(b:Y F s a U x)(h:C F s f [x] d):Y F s (.call f (.u a) []) U d:=.call (.cons b .nil) h
theorem R.ret(h:Y F s e U d):R F s (.seq (.ret e) q) U d:=λst g=>by
 obtain⟨s1,b,a⟩:=h st g;exact⟨s1,by show Yl (UX (ev F e)) (ex F q) U st=_;unfold Yl UX;rw[b],a⟩
theorem R.set(h:Y F s e U x)(c:R F s q (Zf U i x) d):R F s (.seq (.set i e) q) U d:=λst g=>by
 obtain⟨s1,j,a⟩:=h st g;obtain⟨s2,f,b⟩:=c s1 (g.trans a);exact⟨s2,by show Yl (Wt i (ev F e)) (ex F q) U st=_;unfold Yl Wt;rw[j];exact f,a.trans b⟩
theorem R.no(h:Y F s e U (.bl false))(c:R F s q U d):R F s (.seq (.ite e p .skip) q) U d:=λst g=>by
 obtain⟨s1,i,a⟩:=h st g;obtain⟨s2,f,b⟩:=c s1 (g.trans a);exact⟨s2,by show Yl (ZV (ev F e) (ex F p) (ex F .skip)) (ex F q) U st=_;unfold Yl ZV;rw[i];exact f,a.trans b⟩
theorem R.yB(h:Y F s e U (.bl true))(c:R F s p U d):R F s (.seq (.ite e p .skip) q) U d:=λst g=>by
 obtain⟨s1,i,a⟩:=h st g;obtain⟨s2,f,b⟩:=c s1 (g.trans a);exact⟨s2,by show Yl (ZV (ev F e) (ex F p) (ex F .skip)) (ex F q) U st=_;unfold Yl ZV;rw[i];simp only[f],a.trans b⟩
theorem R.yes(h:Y F s e U (.bl true))(b:Y F s a U d):R F s (.seq (.ite e (.z (.ret a)) .skip) q) U d:=.yB h (.ret b)
theorem Zhc{v:FD}(h:T f=some v)(a:ds.length=v.ps):rT (n+1) f ds st=match ex (rT n) v.body (ds.map some++List.replicate (v.ns - ds.length) none) st with
  |some (.rt d,st')=>some (d,st')
  |some (.nx _,st')=>some (.non,st')
  |_=>none:=by
 show(match T f with|some f=>fnD (rT n) f|none=>λ_ _=>none) ds st=_
 rw[h];exact if_pos a
theorem XE{v:FD}(h:T f=some v)(b:ds.length=v.ps)(a:ex (rT n) v.body (ds.map some++List.replicate (v.ns - ds.length) none) st=some (.rt d,s')):rT (n+1) f ds st=some (d,s'):=by rw[Zhc h b,a]
theorem ZiO{v:FD}(h:T f=some v)(b:ds.length=v.ps)(a:ex (rT n) v.body (ds.map some++List.replicate (v.ns - ds.length) none) st=some (.nx U',s')):rT (n+1) f ds st=some (.non,s'):=by rw[Zhc h b,a]
theorem C.of{v:FD}(h:T f=some v)(c:ds.length=v.ps)(b:R (rT n) s v.body (ds.map some++List.replicate (v.ns - ds.length) none) d):C (rT (n+1)) s f ds d:=λst g=>by
 obtain⟨s1,e,a⟩:=b st g;exact⟨s1,XE h c e,a⟩
theorem Zc(h:ex F p U st=some (.nx U',s')):ex F (.seq p q) U st=ex F q U' s':=by
 show Yl (ex F p) (ex F q) U st=_;unfold Yl;rw[h]
theorem Zi(h:ex F p U st=some (.rt d,s')):ex F (.seq p q) U st=some (.rt d,s'):=by
 show Yl (ex F p) (ex F q) U st=_;unfold Yl;rw[h]
theorem W6{α:Type}{f g:α->D}{ok:Za->Prop}{fe fc:D->Za->Res}(e:∀ d st,fc d st=some (.bl true,st))(b:∀ st,Grw s st->ok st):∀ {l:Li α},(∀ a∈l,Gv s (fe (f a)) (g a))->∀ st,Grw s st->∃ st',ZX ok fe fc (l.map f) st=some (l.map g,st')/\Grw st st'
 |[],_,st,k=>⟨st,if_pos (b st k),.refl⟩
 |x :: xs,h,st,k=>by
  obtain⟨s1,n,c⟩:=h x lQ7 st k;obtain⟨s2,m,i⟩:=W6 e b (λd j=>h d (lM7 _ j)) s1 (k.trans c)
  refine⟨s2,?_,c.trans i⟩;rw[aO,ZX,if_pos (b st k),e];simp only[n,m,aO]
def Lv(s:Za)(f:Za->Res)(xs:Li D):Prop:=∀ st,Grw s st->∃ st' j b,f st=some (.lst j,st')/\st'[j]?=some (b,xs)/\Grw st st'
theorem Zv:(s++[t])[s.length]?=some t:=by rw[cC (aD _),Nat.sub_self];rfl
def Wk(F:Nat->Fn)(s:Za)(it:CE)(U:Env)(wk:D->Za->Ot (Li D×(Za->Prop)))(xs:Li D):Prop:=∀ st,Grw s st->∃ x a ok,ev F it U st=some (x,a)/\Grw st a/\wk x a=some (xs,ok)/\∀ st',Grw a st'->ok st'
theorem Wk.of(hi:Y F s e U x)(h:∀ st,wk x st=some (xs,λ_=>True)):Wk F s e U wk xs:=λst k=>by
 obtain⟨s1,b,a⟩:=hi st k;exact⟨x,s1,_,b,a,h s1,λ_ _=>trivial⟩
theorem QE{b:D->Li (Ot D)}{en g:α->D}{l:Li α}(hi:Wk F s it U wk (l.map en))(j:l.length<=1000)(h:∀ a∈l,Y F s elt (ZU b U fr (en a)) (g a)):Lv s (Ye b wk fr (ev F it) (ev F elt) (ev F (.c (.bl true))) U) (l.map g):=λst k=>by
 obtain⟨x,s1,ok,p,e,o,i⟩:=hi st k;obtain⟨s2,n,f⟩:=W6 (s:=s1) (ok:=ok) (fe:=λd=>ev F elt (ZU b U fr d)) (fc:=λd=>ev F (.c (.bl true)) (ZU b U fr d)) (λ_ _=>rfl) i (λa m=>Gv.mono (h a m) (k.trans e)) s1 .refl
 refine⟨s2++[(true,l.map g)],_,_,?_,Zv,(e.trans f).trans .push⟩;unfold Ye;simp only[p,o,aB,if_pos j,n]
theorem Us(h:xs[j]?=some d):atD xs (j:Int)=some d:=by
 have:=Zt h;unfold atD ixN;rw[if_pos (by omega),if_pos (by omega),oB7,aZ,h]
theorem Y.ixl(c:s[w]?=some t)(f:Y F s a U (.lst w))(e:Y F s b U (.int (j:Int)))(h:t.2[j]?=some d):Y F s (.ix a b) U d:=g2 f e (gs λst k=>by
 show ixR (.lst w) (.int (j:Int)) st=_;unfold ixR ixD;simp only[k.get c,Us h])
theorem Y.ixt(e:Y F s a U (.tup xs))(c:Y F s b U (.int (j:Int)))(h:xs[j]?=some d):Y F s (.ix a b) U d:=g2 e c (gp λst=>by
 show ixR (.tup xs) (.int (j:Int)) st=_;unfold ixR ixD;simp only[Us h])
theorem Y.lenl(b:s[w]?=some t)(c:Y F s a U (.lst w)):Y F s (.len a) U (.int (t.2.length:Int)):=g1 c (gs λst k=>by
 show Za4 (.lst w) st=_;unfold Za4 Zfa;simp only[k.get b])
theorem Lv.sl(i:s[w]?=some t)(m:Y F s a U (.lst w))(l:Y F s b U x)(j:Y F s c U y)(h:∀ st,YS (.lst w) x y st=Z8 (.lst w) lo hi st):Lv s (ev F (.slice a b c) U) (Xy t.2 lo hi):=λst k=>by
 obtain⟨s1,p,d⟩:=m st k;obtain⟨s2,o,e⟩:=l s1 (k.trans d);obtain⟨g,n,f⟩:=j s2 (k.trans (d.trans e));refine⟨g++[(true,Xy t.2 lo hi)],_,_,?_,Zv,(d.trans (e.trans f)).trans .push⟩;show YC (ev F a) (ev F b) (ev F c) YS U st=_;unfold YC;simp only[p,o,n,h];unfold Z8;simp only[(k.trans (d.trans (e.trans f))).get i]
theorem Lv.mk(h:Y F s e U (.tup xs)):Lv s (ev F (.lstE e) U) xs:=λst k=>by
 obtain⟨s1,b,a⟩:=h st k;exact⟨_,_,_,by show Zq (ev F e) Zc1 U st=_;unfold Zq;rw[b];rfl,Zv,a.trans .push⟩
theorem R.setL(h:Lv s (ev F e U) xs)(f:∀ s' j b,Grw s s'->s'[j]?=some (b,xs)->R F s' q (Zf U i (.lst j)) d):R F s (.seq (.set i e) q) U d:=λst g=>by
 obtain⟨s1,j,b,m,k,a⟩:=h st g;obtain⟨s2,l,c⟩:=f s1 j b (g.trans a) k s1 .refl;exact⟨s2,by show Yl (Wt i (ev F e)) (ex F q) U st=_;unfold Yl Wt;rw[m];exact l,a.trans c⟩
theorem Yf{c:Y5}(h:ev F e U st=some (.lst j,s'))(a:s'[j]?=some c):ev F (.tOf e) U st=some (.tup c.2,s'):=by
 show Zq (ev F e) VA U st=_;unfold Zq;rw[h];show(match s'[j]? with
  |some (_,xs)=>some (D.tup xs,s')
  |none=>none)=_
 rw[a]
theorem ZJ(h:ev F e U st=some (d,s')):ex F (.ret e) U st=some (.rt d,s'):=by
 show UX (ev F e) U st=_;unfold UX;rw[h]
theorem Zn(h:ev F e U st=some (v,st')):ex F (.set i e) U st=some (.nx (Zf U i v),st'):=by
 show Wt i (ev F e) U st=_;unfold Wt;rw[h]
theorem Yu(h:ev F e U st=some (.bl false,st')):ex F (.ite e p q) U st=ex F q U st':=by
 show ZV (ev F e) (ex F p) (ex F q) U st=_;unfold ZV;rw[h]
theorem Z5(h:ev F e U st=some (.bl true,st')):ex F (.ite e p q) U st=ex F p U st':=by
 show ZV (ev F e) (ex F p) (ex F q) U st=_;unfold ZV;rw[h]
theorem Zh:ex F .skip U st=some (.nx U,st):=rfl
theorem Zhs(h:ev F e U st=some (d,s')):ex F (.act e) U st=some (.nx U,s'):=by
 show JV (ev F e) U st=_;unfold JV;rw[h]
end
variable{st' st1:Za}{U':Env}{ys:Li D}
section
variable{U'':Env}{k:Bool}
structure Kj(j:Nat)(st st':Za):Prop where
 old:∀ i,i < st.length->i≠j->st'[i]?=st[i]?
 len:st.length<=st'.length
theorem Grw.kj(g:Grw st st'):Kj j st st':=⟨λi h _=>g.old i h,g.len⟩
theorem Kj.trans(a:Kj j st st1)(b:Kj j st1 st'):Kj j st st':=⟨λi h c=>(b.old i (aT h a.len) c).trans (a.old i h c),aP a.len b.len⟩
theorem Kj.grw(k:Kj j st st')(a:s.length<=j)(g:Grw s st):Grw s st':=⟨λi h=>(k.old i (aT h g.len) (by omega)).trans (g.old i h),aP g.len k.len⟩
theorem XV{c:Y5}(h:i < st.length):(st.set i c)[j]?=if i=j then some c else st[j]?:=by
 rw[List.getElem?_set];split
 ·rename_i e;subst e
  first|rfl|rw[if_pos h]
 ·rfl
def Ap(F:Nat->Fn)(s:Za)(j:Nat)(q:CS)(U U':Env)(xs:Li D):Prop:=∀ st a,Grw s st->st[j]?=some (true,a)->a.length+xs.length<=900->∃ st',ex F q U st=some (.nx U',st')/\Kj j st st'/\st'[j]?=some (true,a++xs)
theorem Ap.skip:Ap F s j .skip U U []:=λst a g h _=>⟨st,rfl,Grw.refl.kj,by rw[bH];exact h⟩
theorem Ap.seq(f:s.length<=j)(k:Ap F s j q U U' xs)(i:Ap F s j p U' U'' ys):Ap F s j (.seq q p) U U'' (xs++ys):=λst a g h e=>by
 rw[aI]at e;obtain⟨s1,m,g1,d⟩:=k st a g h (by omega)
 obtain⟨b,l,g2,c⟩:=i s1 _ (g1.grw f g) d (by rw[aI];omega)
 exact⟨b,by show Yl (ex F q) (ex F p) U st=_;unfold Yl;rw[m];exact l,g1.trans g2,by rw[<-bD];exact c⟩
theorem Ap.one(h:Ap F s j q U U' xs):Ap F s j (.z q) U U' xs:=λst a g d c=>by
 obtain⟨s1,e,g1,b⟩:=h st a g d c;exact⟨s1,by show Yl (ex F q) (ex F .skip) U st=_;unfold Yl;rw[e];rfl,g1,b⟩
theorem Ap.app(hi:U[i]?=some (jL j))(h:Y F s e U d):Ap F s j (.app i e) U U [d]:=λst a g n f=>by
 obtain⟨s1,o,b⟩:=h st g;have c:=b.get n;have f:a.length+1<=900:=f;refine⟨s1.set j (true,a++[d]),?_,⟨λm l k=>?_,by rw[bJ];exact b.len⟩,by rw[XV (Zt c),if_pos rfl]⟩
 ·show J2 i (ev F e) U st=_
  unfold J2 JZ;simp only[hi,o,c];rw[if_pos (by unfold Zu;omega)]
 ·rw[XV (Zt c),if_neg (Ne.symm k)]
  exact b.old m l
theorem Ap.ite(h:Y F s e U (.bl k))(f:Ap F s j (if k then q else p) U U' xs):Ap F s j (.ite e q p) U U' xs:=λst b g l i=>by
 obtain⟨s1,n,a⟩:=h st g;obtain⟨c,m,g2,d⟩:=f s1 b (g.trans a) (a.get l) i;exact⟨c,by show ZV (ev F e) (ex F q) (ex F p) U st=_;unfold ZV;rw[n];cases k<;>exact m,a.kj.trans g2,d⟩
theorem Ap.set(h:Y F s e U d):Ap F s j (.set i e) U (Zf U i d) []:=λst f g b k=>by
 obtain⟨s1,c,a⟩:=h st g;exact⟨s1,by show Wt i (ev F e) U st=_;unfold Wt;rw[c],a.kj,by rw[bH];exact a.get b⟩
end
variable{q':CS}
section
variable{st2:Za}{m:Bool}{c:Nat}{tx:Str}
theorem Lv.v(b:s[j]?=some (m,xs))(h:Y F s e U (.lst j)):Lv s (ev F e U) xs:=λst g=>by
 obtain⟨s1,c,a⟩:=h st g;exact⟨s1,j,m,c,(g.trans a).get b,a⟩
theorem Lv.mono{f:Za->Res}(h:Lv s f xs)(g:Grw s st):Lv st f xs:=λst1 k=>h st1 (g.trans k)
def RP(F:Nat->Fn)(q:CS)(U:Env)(st:Za)(Q:D->Za->Prop):Prop:=∃ d st',ex F q U st=some (.rt d,st')/\Grw st st'/\Q d st'
variable{Q:D->Za->Prop}
theorem RP.pre(h:ex F q U st=ex F q' U' st1)(g:Grw st st1)(a:RP F q' U' st1 Q):RP F q U st Q:=by
 obtain⟨d,st',e,b,k⟩:=a;exact⟨d,st',h.trans e,g.trans b,k⟩
theorem RP.setL(h:Lv s (ev F e U) xs)(g:Grw s st)(d:∀ a j b,Grw st a->a[j]?=some (b,xs)->RP F q (Zf U i (.lst j)) a Q):RP F (.seq (.set i e) q) U st Q:=by
 obtain⟨s1,j,b,k,f,c⟩:=h st g;exact .pre (Zc (Zn k)) c (d s1 j b c f)
theorem RP.setY(h:Y F s e U d)(g:Grw s st)(c:∀ a,Grw st a->RP F q (Zf U i d) a Q):RP F (.seq (.set i e) q) U st Q:=by
 obtain⟨s1,f,b⟩:=h st g;exact .pre (Zc (Zn f)) b (c s1 b)
theorem RP.no{p:CS}(h:Y F s e U (.bl false))(g:Grw s st)(c:∀ a,Grw st a->RP F q U a Q):RP F (.seq (.ite e p .skip) q) U st Q:=by
 obtain⟨s1,d,b⟩:=h st g;exact .pre (Zc ((Yu d).trans Zh)) b (c s1 b)
theorem RP.ret(h:Y F s e U d)(g:Grw s st)(c:∀ a,Grw st a->Q d a):RP F (.seq (.ret e) q) U st Q:=by
 obtain⟨s1,f,b⟩:=h st g;exact⟨d,s1,Zi (ZJ f),b,c s1 b⟩
theorem RP.yes{p:CS}(h:Y F s e U (.bl true))(g:Grw s st)(i:∀ a,Grw st a->RP F p U a Q):RP F (.seq (.ite e p .skip) q) U st Q:=by
 obtain⟨s1,l,b⟩:=h st g;obtain⟨d,c,k,f,j⟩:=i s1 b;exact⟨d,c,Zi ((Z5 l).trans k),b.trans f,j⟩
def CP(F:Nat->Fn)(f:Nat)(ds:Li D)(st:Za)(Q:D->Za->Prop):Prop:=∃ d st',F f ds st=some (d,st')/\Grw st st'/\Q d st'
theorem CP.of{v:FD}{f:Nat}{ds:Li D}(h:T f=some v)(c:ds.length=v.ps)(b:RP (rT n) v.body (ds.map some++List.replicate (v.ns - ds.length) none) st Q):CP (rT (n+1)) f ds st Q:=by
 obtain⟨d,s1,g,a,e⟩:=b;exact⟨d,s1,XE h c g,a,e⟩
end
def Sm(a:Int):Prop:=-1000000000<=a/\a<=999999999
variable{m sz:Nat}{ns:Li Int}
section
variable{i j k c:Int}{op:Operator}
theorem Y.bi(d:Y F s a U (.int i))(c:Y F s b U (.int j))(h:J4 op i j=some k):Y F s (.bin op a b) U (.int k):=g2 d c (gp λst=>by
 show Uv op (.int i) (.int j) st=_;unfold Uv;simp only[h])
theorem Y.add(d:Y F s a U (.int i))(c:Y F s b U (.int j)):Y F s (.bin .Add a b) U (.int (i+j)):=.bi d c rfl
theorem Y.sub(d:Y F s a U (.int i))(c:Y F s b U (.int j)):Y F s (.bin .Sub a b) U (.int (i - j)):=.bi d c rfl
theorem Y.mul(d:Y F s a U (.int i))(c:Y F s b U (.int j))(h:ZR j=true):Y F s (.bin .Mult a b) U (.int (i * j)):=.bi d c (by show(if ZR i||ZR j then some (i * j) else none)=_;rw[h,Bool.or_true];rfl)
theorem Y.md(d:Y F s a U (.int i))(c:Y F s b U (.int j))(h:0 < j):Y F s (.bin .Mod a b) U (.int (i % j)):=.bi d c (if_pos h)
theorem Y.fd(d:Y F s a U (.int i))(c:Y F s b U (.int j))(h:0 < j/\j < 1073741824):Y F s (.bin .FloorDiv a b) U (.int (i / j)):=.bi d c (if_pos h)
theorem Y.ixL{j:Nat}(k:Lv s (ev F a U) xs)(i:Y F s b U (.int (j:Int)))(h:xs[j]?=some d):Y F s (.ix a b) U d:=λst g=>by
 obtain⟨s1,q,t,n,l,f⟩:=k st g;obtain⟨c,m,e⟩:=i s1 (g.trans f);refine⟨c,?_,f.trans e⟩;show ZQ (ev F a) (ev F b) ixR U st=_;unfold ZQ;simp only[n,m];show ixR (.lst q) (.int (j:Int)) c=_;unfold ixR ixD;simp only[e.get l,Us h]
theorem Zo(i:Int)(h:0 < j):0<=i % j/\i % j < j:=⟨Int.emod_nonneg _ (by omega),Int.emod_lt_of_pos _ h⟩
theorem UK(h:-(2 ^ 64) < i/\i < 2 ^ 64):ZR i=true:=by unfold ZR;rw[aL h.1,aL h.2];rfl
end
variable{N:Nat}
section
variable{Q:D->Za->Prop}
theorem ZaW{v:Int}(b:v < 2 ^ 62)(a:-(2 ^ 62)<=v):Wg true (.int v)=some ((List.range v.toNat).map λ(k:Nat)=>D.int (k:Int)):=by
 show(if v < 2 ^ 62/\-(2 ^ 62)<=v then some ((List.range v.toNat).map λ(k:Nat)=>D.int (k:Int)) else none)=_
 rw[if_pos ⟨b,a⟩]
theorem YX{v:Int}{a:Za}(c:v < 2 ^ 62)(b:-(2 ^ 62)<=v)(f:ev F e U st=some (.int v,a)):ex F (.for1 i true e q) U st=Zj (λd U s=>ex F q (Zf U i d) s) ((List.range v.toNat).map λ(k:Nat)=>D.int (k:Int)) U a:=by
 show Wc i true (ev F e) (ex F q) U st=_;unfold Wc;rw[f];simp only[ZaW c b]
end
def arI(x:Int):Int:=(x+1000000000) % 2000000000 - 1000000000
def fdI(i j:Int):Int:=if 0 < j then i / j else i.fdiv j
def rkI(a:Int)(g:Str)(b:Int):Int:=if g=S "+" then arI (a+b) else if g=S "-" then arI (a - b) else if g=S "*" then arI (a * b) else if g=S "/" then (if b=0 then 0 else arI (fdI a b)) else if b=0 then a else a - b * fdI a b
def soI(a:Int)(g:Str)(b:Int):Bool:=if g=S "<" then decide (a < b) else if g=S "<=" then decide (a<=b) else if g=S "=" then decide (a=b) else if g=S ">=" then decide (b<=a) else if g=S ">" then decide (b < a) else !decide (a=b)
def psL:Li Str:=[S "+",S "-",S "*",S "/",S "mod"]
def isL:Li Str:=[S "<",S "<=",S "=",S ">=",S ">",S "!="]
inductive Op where
 |nm (i:Nat)|nu (v:Int)
 deriving DecidableEq
def opE:Op->D
 |.nm i=>.tup [.str "name",.int (i:Int)]
 |.nu v=>.tup [.str "number",.int v]
def Xg(m:Nat):Op->Prop
 |.nm i=>i < m
 |.nu v=>Sm v
inductive Rw where
 |put (x:Nat) (y:Op) (g:Str) (z:Op)|ifr (y:Op) (g:Str) (z:Op) (t:Nat)|go (t:Nat)|tell (y:Op)|skip
 deriving DecidableEq
def rwE:Rw->D
 |.put x y g z=>.tup [.str "put",.int (x:Int),opE y,.str g,opE z]
 |.ifr y g z t=>.tup [.str "if",opE y,.str g,opE z,.int (t:Int)]
 |.go t=>.tup [.str "go",.int (t:Int)]
 |.tell y=>.tup [.str "tell",opE y]
 |.skip=>.tup [.str "skip"]
def Zx(m sz:Nat):Rw->Prop
 |.put x y g z=>x < m/\Xg m y/\g∈psL/\Xg m z
 |.ifr y g z t=>Xg m y/\g∈isL/\Xg m z/\t<=sz
 |.go t=>t<=sz
 |.tell y=>Xg m y
 |.skip=>True
def woI(vs:Li Int):Op->Int
 |.nm i=>vs.getD i 0
 |.nu v=>v
structure Vs(m:Nat)(vs:List Int):Prop where
 l:vs.length=m
 s:∀ v∈vs,Sm v
def inZ(vs:Li Int):Li D:=vs.map D.int
variable{vs:Li Int}{g:Str}{o:Op}{r:Rw}
section
variable{i j:Int}
theorem WH:Sm (arI i):=by
 have:=Zo (i+1000000000) (j:=2000000000) (by decide)
 unfold Sm arI;omega
theorem ZhH(h:j≠0):(0 < j/\j * fdI i j<=i/\i < j * fdI i j+j)\/(j < 0/\i<=j * fdI i j/\j * fdI i j+j < i):=by
 unfold fdI;by_cases a:0 < j
 ·rw[if_pos a]
  have b:=Int.mul_ediv_add_emod i j;have d:=Int.emod_nonneg i h;have e:=Int.emod_lt_of_pos i a;exact .inl ⟨a,by omega,by omega⟩
 ·rw[if_neg a]
  have b:=Int.fmod_def i j;have d:j < 0:=by omega
  have e:=Int.emod_nonneg i h;have g:i % j < -j:=by have:=Int.emod_lt i h;omega
  rw[Int.fmod_eq_emod]at b;by_cases c:j ∣ i
  ·rw[if_pos (.inr c),Int.emod_eq_zero_of_dvd c]at b
   exact .inr ⟨d,by omega,by omega⟩
  ·have f:i % j≠0:=λz=>c (Int.dvd_of_emod_eq_zero z)
   rw[if_neg (by omega)]at b
   exact .inr ⟨d,by omega,by omega⟩
theorem ZbG(a:Sm i)(e:Sm j):Sm (rkI i g j):=by
 unfold rkI;split
 ·exact WH
 ·split
  ·exact WH
  ·split
   ·exact WH
   ·split
    ·split
     ·exact⟨by decide,by decide⟩
     ·exact WH
    ·split
     ·exact a
     ·rename_i h
      have:=ZhH (i:=i) h;unfold Sm at *
      rcases this with⟨d,c,b⟩|⟨d,c,b⟩
      ·generalize j * fdI i j=q at *
       omega
      ·generalize j * fdI i j=q at *
       omega
theorem Y.v{i:Nat}(h:U[i]?=some (some d)):Y F s (.v i) U d:=.r λst=>by show Xk i U st=_;unfold Xk;rw[h]
theorem Y.fdv(f:Y F s a U (.int i))(e:Y F s b U (.int j))(h:j≠0)(d:Sm j):Y F s (.bin .FloorDiv a b) U (.int (fdI i j)):=.bi f e (by
 unfold Sm at d;show(if 0 < j/\j < 1073741824 then some (i / j) else if j < 0/\-1073741824 < j then some (i.fdiv j) else none)=_
 unfold fdI;by_cases c:0 < j
 ·rw[if_pos c,if_pos ⟨c,by omega⟩]
 ·rw[if_neg c,if_neg (by omega),if_pos ⟨by omega,by omega⟩])
theorem Vh(h:Sm j):ZR j=true:=UK (by unfold Sm at h;omega)
theorem Y.arx(b:Y F s a U (.int i)):Y F s (.bin .Sub (.bin .Mod (.bin .Add a (.i 1000000000)) (.i 2000000000)) (.i 1000000000)) U (.int (arI i)):=.sub (.md (.add b (.r rf)) (.r rf) (by decide)) (.r rf)
theorem Ym:C (rT (n+1)) s 0 [.int i] (.int (arI i)):=.of (v:=c_around) rfl rfl (.ret (.arx (.r rf)))
theorem Zgc(a:Sm j):C (rT (n+2)) s 1 [.int i,.int j] (.int (if j=0 then 0 else arI (fdI i j))):=by
 by_cases h:j=0
 ·subst h;exact .of (v:=c_divided) rfl rfl (.yes (.r rf) (.r rf))
 ·rw[if_neg h]
  exact .of (v:=c_divided) rfl rfl (.no (.cmp (.r rf) (.r rf) λ_=>congrArg some (aH h)) (.ret (.call1 (.fdv (.r rf) (.r rf) h a) Ym)))
theorem Zes(a:Sm j):C (rT (n+1)) s 2 [.int i,.int j] (.int (if j=0 then i else i - j * fdI i j)):=by
 by_cases h:j=0
 ·subst h;exact .of (v:=c_left_over) rfl rfl (.yes (.r rf) (.r rf))
 ·rw[if_neg h]
  refine .of (v:=c_left_over) rfl rfl (.no (.cmp (.r rf) (.r rf) λ_=>congrArg some (aH h)) (.ret (.sub (.r rf) (.bi (i:=j) (j:=fdI i j) (.r rf) (.fdv (.r rf) (.r rf) h a) ?_))))
  show(if ZR j||ZR (fdI i j) then some (j * fdI i j) else none)=_
  rw[Vh a];rfl
theorem Y.eqs{x y:Str}(d:Y F s a U (.str x))(c:Y F s b U (.str y)):Y F s (.cmp .Eq a b) U (.bl (decide (x=y))):=.cmp d c λ_=>rfl
theorem R.pick{k:Bool}{q p:CS}(h:Y F s e U (.bl k))(b:k=true->R F s p U d)(a:k=false->R F s q U d):R F s (.seq (.ite e p .skip) q) U d:=by
 cases k
 ·exact .no h (a rfl)
 ·exact .yB h (b rfl)
theorem Zgi(hi:Sm i)(c:Sm j):C (rT (n+3)) s 3 [.int i,.str g,.int j] (.int (rkI i g j)):=by
 unfold rkI;refine .of (v:=c_reckon) rfl rfl (.pick (.eqs (.r rf) (.r rf)) (λh=>?_) λh=>.pick (.eqs (.r rf) (.r rf)) (λa=>?_) λa=>.pick (.eqs (.r rf) (.r rf)) (λb=>?_) λb=>.pick (.eqs (.r rf) (.r rf)) (λd=>?_) λd=>?_)
 ·rw[if_pos (of_decide_eq_true h)];exact .ret (.call1 (.add (.r rf) (.r rf)) Ym)
 ·rw[if_neg (of_decide_eq_false h),if_pos (of_decide_eq_true a)];exact .ret (.call1 (.sub (.r rf) (.r rf)) Ym)
 ·rw[if_neg (of_decide_eq_false h),if_neg (of_decide_eq_false a),if_pos (of_decide_eq_true b)];exact .ret (.call1 (.mul (.r rf) (.r rf) (Vh c)) Ym)
 ·rw[if_neg (of_decide_eq_false h),if_neg (of_decide_eq_false a),if_neg (of_decide_eq_false b),if_pos (of_decide_eq_true d)];exact .ret (.call (xs:=[.int i,.int j]) (.r rf) (Zgc c))
 ·rw[if_neg (of_decide_eq_false h),if_neg (of_decide_eq_false a),if_neg (of_decide_eq_false b),if_neg (of_decide_eq_false d)];exact .ret (.call (xs:=[.int i,.int j]) (.r rf) (Zes c))
theorem Zgk:C (rT (n+1)) s 4 [.int i,.str g,.int j] (.bl (soI i g j)):=by
 unfold soI;refine .of (v:=c_is_so) rfl rfl (.pick (.eqs (.r rf) (.r rf)) (λh=>?_) λh=>.pick (.eqs (.r rf) (.r rf)) (λa=>?_) λa=>.pick (.eqs (.r rf) (.r rf)) (λb=>?_) λb=>.pick (.eqs (.r rf) (.r rf)) (λc=>?_) λc=>.pick (.eqs (.r rf) (.r rf)) (λd=>?_) λd=>?_)
 ·rw[if_pos (of_decide_eq_true h)];exact .ret (.r rf)
 ·rw[if_neg (of_decide_eq_false h),if_pos (of_decide_eq_true a)];exact .ret (.r rf)
 ·rw[if_neg (of_decide_eq_false h),if_neg (of_decide_eq_false a),if_pos (of_decide_eq_true b)];exact .ret (.r rf)
 ·rw[if_neg (of_decide_eq_false h),if_neg (of_decide_eq_false a),if_neg (of_decide_eq_false b),if_pos (of_decide_eq_true c)];exact .ret (.r rf)
 ·rw[if_neg (of_decide_eq_false h),if_neg (of_decide_eq_false a),if_neg (of_decide_eq_false b),if_neg (of_decide_eq_false c),if_pos (of_decide_eq_true d)];exact .ret (.r rf)
 ·rw[if_neg (of_decide_eq_false h),if_neg (of_decide_eq_false a),if_neg (of_decide_eq_false b),if_neg (of_decide_eq_false c),if_neg (of_decide_eq_false d)];exact .ret (.r rf)
theorem Zeo{i:Nat}(a:Vs m vs)(h:i < m):(inZ vs)[i]?=some (.int (woI vs (.nm i))):=by
 have b:=a.l;unfold inZ;rw[aV,lG7 (by omega)]
 show some (D.int vs[i])=some (D.int (vs.getD i 0));rw[bB,lG7 (by omega)];rfl
theorem WY(a:Vs m vs)(h:Xg m o):Sm (woI vs o):=by
 cases o with
 |nm i=>
  have b:=a.l;have hi:i < m:=h;show Sm (vs.getD i 0);rw[bB,lG7 (by omega)]
  exact a.s _ (cM _)
 |nu v=>exact h
theorem Xd(a:Vs m vs)(h:Xg m o):C (rT (n+1)) s 5 [opE o,.tup (inZ vs)] (.int (woI vs o)):=by
 cases o with
 |nm i=>exact .of (v:=c_worth) rfl rfl (.yes (.r rf) (.ixt (j:=i) (.r rf) (.r rf) (Zeo a h)))
 |nu v=>exact .of (v:=c_worth) rfl rfl (.no (.r rf) (.ret (.r rf)))
end
def pgD(a:D)(m:Nat)(rs:Li Rw):D:=.tup [a,.int (m:Int),.tup (rs.map rwE)]
def stD(k:Nat)(vs:Li Int):D:=.tup [.int (k:Int),.tup (inZ vs)]
def noD:D:=.tup [.str "none"]
def laD:D:=.tup [.str "late"]
def teD(v:Int):D:=.tup [.str "told",.int v]
def vsN(vs:Li Int):Rw->Li Int
 |.put x y g z=>vs.set x (rkI (woI vs y) g (woI vs z))
 |_=>vs
def pkN(k:Nat)(vs:Li Int):Rw->Nat
 |.go t=>t
 |.ifr y g z t=>if soI (woI vs y) g (woI vs z)=true then t else k+1
 |_=>k+1
def mv(rs:Li Rw)(k:Nat)(vs:Li Int):Sum D (Nat×Li Int):=match rs[k]? with
 |none=>.inl noD
 |some (.tell y)=>.inl (teD (woI vs y))
 |some r=>.inr (pkN k vs r,vsN vs r)
def oc(rs:Li Rw):Nat->Nat->Li Int->D
 |0,k,_=>if rs.length<=k then noD else laD
 |n+1,k,vs=>match mv rs k vs with
  |.inl o=>o
  |.inr p=>oc rs n p.1 p.2
def tl(rs:Li Rw):Nat->Nat->Li Int->Li D
 |0,k,_=>[if rs.length<=k then noD else laD]
 |n+1,k,vs=>match mv rs k vs with
  |.inl o=>[o]
  |.inr p=>stD p.1 p.2 :: tl rs n p.1 p.2
structure Rs(m:Nat)(rs:List Rw):Prop where
 l:rs.length<=50
 ok:∀ r∈rs,Zx m rs.length r
def v0(m:Nat)(ins:Li Int):Li Int:=ins++List.replicate (m - ins.length) 0
variable{tk:D}{k:Nat}{ins:Li Int}{rs:Li Rw}
theorem Zag{j:Nat}:sIx w j (some (i:Int))=Nat.min i w:=by
 show(if (i:Int) < 0 then ((i:Int)+(w:Int)).toNat else Nat.min (i:Int).toNat w)=_
 rw[if_neg (by omega),aZ]
theorem ZeP(h:i<=xs.length):Xy xs none (some (i:Int))=xs.take i:=by
 unfold Xy;rw[Zag,show Nat.min i xs.length=i from Nat.min_eq_left h];rfl
theorem ZeO(h:i<=xs.length):Xy xs (some (i:Int)) none=xs.drop i:=by
 unfold Xy;rw[Zag,show Nat.min i xs.length=i from Nat.min_eq_left h];exact List.take_of_length_le (by rw[dF];exact aD _)
theorem sl_tup:Z8 (.tup xs) lo hi st=some (.tup (Xy xs lo hi),st):=by
 show(if sIx xs.length 0 lo=0/\sIx xs.length xs.length hi=xs.length then some (D.tup xs,st) else some (.tup (Xy xs lo hi),st))=_
 split
 ·rename_i h
  unfold Xy;rw[h.1,h.2,cF,Nat.sub_zero,List.take_length]
 ·rfl
theorem Y.tkT(j:Y F s a U (.tup xs))(f:Y F s b U (.int (i:Int)))(h:i<=xs.length):Y F s (.slice a .nop (.part b)) U (.tup (xs.take i)):=λst g=>by
 obtain⟨s1,l,d⟩:=j st g;obtain⟨c,k,e⟩:=f s1 (g.trans d);refine⟨c,?_,d.trans e⟩;show YC (ev F a) (evC .non) (Zq (ev F b) V9) YS U st=_;unfold YC Zq evC;simp only[l,k];show Z8 (.tup xs) none (some (i:Int)) c=_;rw[sl_tup,ZeP h]
theorem Y.dpT(j:Y F s a U (.tup xs))(f:Y F s b U (.int (i:Int)))(h:i<=xs.length):Y F s (.slice a (.part b) .nop) U (.tup (xs.drop i)):=λst g=>by
 obtain⟨s1,l,d⟩:=j st g;obtain⟨c,k,e⟩:=f s1 (g.trans d);refine⟨c,?_,d.trans e⟩;show YC (ev F a) (Zq (ev F b) V9) (evC .non) YS U st=_;unfold YC Zq evC;simp only[l,k];show Z8 (.tup xs) (some (i:Int)) none c=_;rw[sl_tup,ZeO h]
theorem Y.adT(d:Y F s a U (.tup xs))(c:Y F s b U (.tup ys))(h:xs.length+ys.length<=100000):Y F s (.bin .Add a b) U (.tup (xs++ys)):=g2 d c (gp λst=>by
 show(if V1 .Add=true/\xs.length+ys.length<=Zu then some (D.tup (xs++ys),st) else none)=_
 exact if_pos ⟨rfl,by unfold Zu;omega⟩)
theorem Y.rep(e:Y F s a U d)(c:Y F s b U (.int (i:Int)))(h:i<=1000):Y F s (.bin .Mult (.tupE (.u a)) b) U (.tup (List.replicate i d)):=g2 (x:=.tup [d]) (.cons e .nil) c (gp λst=>by
 show(if (i:Int)<=1000/\-1000<=(i:Int) then some (D.tup (List.replicate (i:Int).toNat d),st) else none)=_
 rw[if_pos ⟨by omega,by omega⟩,aZ])
theorem Y.lnT(b:Y F s a U (.tup xs)):Y F s (.len a) U (.int (xs.length:Int)):=g1 b (gp λst=>rfl)
theorem Yg(h:i < xs.length)(a:xs.length<=1000):C (rT (n+1)) s 42 [.tup xs,.int (i:Int),d] (.tup (xs.set i d)):=by
 rw[show xs.set i d=(xs.take i++[d])++xs.drop (i+1) by rw[bD];exact List.set_eq_take_append_cons_drop.trans (if_pos h)]
 refine .of (v:=c_replaced) rfl rfl (.ret (.adT (.adT (.tkT (.r rf) (.r rf) (by omega)) (.cons (.r rf) .nil) ?_) (.dpT (i:=i+1) (.r rf) (by rw[bF];exact .add (.r rf) (.r rf)) (by omega)) ?_))
 ·rw[cK];show _+1<=_;omega
 ·rw[aI,cK,dF];show _+1+_<=_;omega
theorem Zb4(a:ins.length<=m)(h:∀ v∈ins,Sm v):Vs m (v0 m ins):=by
 unfold v0;refine⟨by rw[aI,bS];omega,λv hv=>?_⟩
 rcases bP.mp hv with hv|hv
 ·exact h v hv
 ·rw[(List.mem_replicate.mp hv).2];exact⟨by decide,by decide⟩
theorem Zcc(b:ins.length<=m)(d:m<=1000):C (rT (n+1)) s 6 [pgD tk m rs,.tup (inZ ins)] (stD 0 (v0 m ins)):=by
 unfold stD v0 inZ;rw[cG,List.map_replicate];refine .of (v:=c_began) rfl rfl (.ret (.cons (.r rf) (.cons (.adT (.r rf) (.rep (i:=m - ins.length) (.r rf) ?_ (by omega)) (by rw[aB,bS];omega)) .nil)))
 have c:Y (rT n) s (.len (.v 1)) [some (pgD tk m rs),some (.tup (ins.map D.int))] (.int (ins.length:Int)):=by
  have:=Y.lnT (F:=rT n) (s:=s) (a:=.v 1) (U:=[some (pgD tk m rs),some (.tup (ins.map D.int))]) (xs:=ins.map D.int) (.r rf);rw[aB]at this;exact this
 rw[Int.natCast_sub b];exact .sub (.r rf) c
theorem ZdO:C (rT (n+1)) s 7 [pgD tk m rs,stD k vs] (.bl (decide (rs.length<=k))):=by
 have b:Y (rT n) s (.len (.ix (.v 0) (.i 2))) [some (pgD tk m rs),some (stD k vs)] (.int (rs.length:Int)):=by
  have:=Y.lnT (F:=rT n) (s:=s) (a:=.ix (.v 0) (.i 2)) (U:=[some (pgD tk m rs),some (stD k vs)]) (xs:=rs.map rwE) (.r rf);rw[aB]at this;exact this
 exact .of (v:=c_at_end) rfl rfl (.ret (.cmp (.r rf) b λ_=>by show some (decide ((rs.length:Int)<=(k:Int)))=_;exact congrArg some (decide_eq_decide.mpr (by omega))))
theorem ZbQ{j:Int}:(inZ vs).set i (.int j)=inZ (vs.set i j):=by unfold inZ;rw[dO]
theorem Zex(a:Vs m vs)(j:m<=1000)(h:Zx m w r)(e:∀ y,r≠.tell y):C (rT (n+4)) s 8 [rwE r,.tup (inZ vs)] (.tup (inZ (vsN vs r))):=by
 cases r with
 |put x y g z=>
  obtain⟨f,c,o,b⟩:=h;have k:=a.l;refine .of (v:=c_values_behind) rfl rfl (.no (.r rf) (.set (.call (xs:=[.int (woI vs y),.str g,.int (woI vs z)]) (.cons (.call (xs:=[opE y,.tup (inZ vs)]) (.r rf) (Xd a c)) (.cons (.r rf) (.cons (.call (xs:=[opE z,.tup (inZ vs)]) (.r rf) (Xd a b)) .nil))) (Zgi (WY a c) (WY a b))) (.ret (.call (xs:=[.tup (inZ vs),.int (x:Int),.int (rkI (woI vs y) g (woI vs z))]) (.r rf) ?_))))
  have:=Yg (n:=n+2) (s:=s) (xs:=inZ vs) (i:=x) (d:=.int (rkI (woI vs y) g (woI vs z))) (by unfold inZ;rw[aB];omega) (by unfold inZ;rw[aB];omega)
  rw[ZbQ]at this;exact this
 |ifr y g z t=>exact .of (v:=c_values_behind) rfl rfl (.yes (.r rf) (.r rf))
 |go t=>exact .of (v:=c_values_behind) rfl rfl (.yes (.r rf) (.r rf))
 |tell y=>exact absurd rfl (e y)
 |skip=>exact .of (v:=c_values_behind) rfl rfl (.yes (.r rf) (.r rf))
theorem Zcl(a:Vs m vs)(h:Zx m w r)(d:∀ y,r≠.tell y):C (rT (n+2)) s 9 [rwE r,.int (k:Int),.tup (inZ vs)] (.int (pkN k vs r:Int)):=by
 have one:∀ {U:Env},U[1]?=some (jN k)->Y (rT (n+1)) s (.bin .Add (.v 1) (.i 1)) U (.int ((k+1:Nat):Int)):=λ{U} h=>by
  rw[bF];exact .add (.v h) (.r rf)
 cases r with
 |put x y g z=>exact .of (v:=c_place_behind) rfl rfl (.no (.r rf) (.no (.r rf) (.ret (one rfl))))
 |go t=>exact .of (v:=c_place_behind) rfl rfl (.yes (.r rf) (.r rf))
 |skip=>exact .of (v:=c_place_behind) rfl rfl (.no (.r rf) (.no (.r rf) (.ret (one rfl))))
 |tell y=>exact absurd rfl (d y)
 |ifr y g z t=>
  obtain⟨c,f,b,e⟩:=h;refine .of (v:=c_place_behind) rfl rfl (.no (.r rf) (.pick (k:=true&&soI (woI vs y) g (woI vs z)) (.and (.r rf) λ_=>.call (xs:=[.int (woI vs y),.str g,.int (woI vs z)]) (.cons (.call (xs:=[opE y,.tup (inZ vs)]) (.r rf) (Xd a c)) (.cons (.r rf) (.cons (.call (xs:=[opE z,.tup (inZ vs)]) (.r rf) (Xd a b)) .nil))) Zgk) (λq=>?_) λq=>?_))
  ·rw[dD]at q
   show R _ _ _ _ (.int ((if soI (woI vs y) g (woI vs z)=true then t else k+1:Nat):Int))
   rw[if_pos q];exact .ret (.r rf)
  ·rw[dD]at q
   show R _ _ _ _ (.int ((if soI (woI vs y) g (woI vs z)=true then t else k+1:Nat):Int))
   rw[if_neg (by rw[q];decide)]
   exact .ret (one rfl)
def mvD(rs:Li Rw)(k:Nat)(vs:Li Int):D:=match mv rs k vs with
 |.inl o=>o
 |.inr p=>stD p.1 p.2
theorem Zcj(h:Rs m rs)(l:m<=1000)(d:Vs m vs):C (rT (n+5)) s 10 [pgD tk m rs,stD k vs] (mvD rs k vs):=by
 have c:=Y.call (F:=rT (n+4)) (s:=s) (a:=.aC (.v 0) (.u (.v 1))) (U:=[some (pgD tk m rs),some (stD k vs),none,none,none]) (xs:=[pgD tk m rs,stD k vs]) (ds:=[]) (.r rf) (ZdO (n:=n+3));unfold mvD mv;cases q:rs[k]? with
 |none=>
  rw[aL (eI.mp q)]at c;exact .of (v:=c_moved) rfl rfl (.yes c (.r rf))
 |some r=>
  have o:=Zt q;rw[aH (by omega)]at c
  have ok:=h.ok r (aW q);have f:Y (rT (n+4)) s (.ix (.ix (.v 0) (.i 2)) (.v 2)) [some (pgD tk m rs),some (stD k vs),jN k,some (.tup (inZ vs)),none] (rwE r):=.ixt (j:=k) (xs:=rs.map rwE) (.r rf) (.r rf) (by rw[aV,q];rfl)
  refine .of (v:=c_moved) rfl rfl (.no c (.set (.r rf) (.set (.r rf) (.set f ?_))));have b:(∀ y,r≠.tell y)->R (rT (n+4)) s (.z (.ret (.tupE (.aC (.call 9 (.aC (.v 4) (.aC (.v 2) (.u (.v 3)))) []) (.u (.call 8 (.aC (.v 4) (.u (.v 3))) [])))))) [some (pgD tk m rs),some (stD k vs),jN k,some (.tup (inZ vs)),some (rwE r)] (stD (pkN k vs r) (vsN vs r)):=λe=>.ret (.cons (.call (xs:=[rwE r,.int (k:Int),.tup (inZ vs)]) (.r rf) (Zcl (n:=n+2) d ok e)) (.cons (.call (xs:=[rwE r,.tup (inZ vs)]) (.r rf) (Zex d l ok e)) .nil))
  cases r with
  |tell y=>exact .yes (.r rf) (.cons (.r rf) (.cons (.call (xs:=[opE y,.tup (inZ vs)]) (.r rf) (Xd d ok)) .nil))
  |put x y g z=>exact .no (.r rf) (b λy z=>nomatch z)
  |ifr y g z t=>exact .no (.r rf) (b λy z=>nomatch z)
  |go t=>exact .no (.r rf) (b λy z=>nomatch z)
  |skip=>exact .no (.r rf) (b λy z=>nomatch z)
variable{x2:Ot D}
variable{L:Nat}{acc:Li D}
def enD(rs:Li Rw)(k:Nat):D:=if rs.length<=k then noD else laD
def isO:D->Bool
 |.tup (.str _ :: _)=>true
 |_=>false
theorem Zbg(a:Vs m vs)(d:Rs m rs){p:Nat×Li Int}(h:mv rs k vs=.inr p):Vs m p.2:=by
 unfold mv at h;cases q:rs[k]? with
 |none=>rw[q]at h;cases h
 |some r=>
  rw[q]at h;have ok:=d.ok r (aW q);cases r with
  |tell y=>cases h
  |put x y g z=>
   cases h;obtain⟨e,c,f,b⟩:=ok;refine⟨by show(vs.set x _).length=m;rw[bJ];exact a.l,λv h=>?_⟩
   rcases eJ h with h|h
   ·exact a.s v h
   ·rw[h];exact ZbG (WY a c) (WY a b)
  |ifr y g z t=>cases h;exact a
  |go t=>cases h;exact a
  |skip=>cases h;exact a
theorem Zfh{o:D}(h:mv rs k vs=.inl o):isO o=true/\∃ a,o=.tup (.str (if rs.length<=k then S "none" else S "told") :: a):=by
 unfold mv at h;cases q:rs[k]? with
 |none=>rw[q]at h;cases h;exact⟨rfl,[],by rw[if_pos (eI.mp q)];rfl⟩
 |some r=>
  rw[q]at h;have:=Zt q;cases r with
  |tell y=>cases h;exact⟨rfl,[.int (woI vs y)],by rw[if_neg (by omega)];rfl⟩
  |_=>cases h
theorem ZdP{k:Bool}(h:(∃ x a,d=.tup (.str x :: a)/\k=true)\/(∃ i a,d=.tup (.int i :: a)/\k=false)):C (rT (n+1)) s 11 [d] (.bl k):=by
 rcases h with⟨x,a,rfl,rfl⟩|⟨i,a,rfl,rfl⟩
 ·exact .of (v:=c_is_outcome) rfl rfl (.ret (g1 (x:=.str x) (.ixt (j:=0) (.r rf) (.r rf) rfl) (gp λ_=>rfl)))
 ·exact .of (v:=c_is_outcome) rfl rfl (.ret (g1 (x:=.int i) (.ixt (j:=0) (.r rf) (.r rf) rfl) (gp λ_=>rfl)))
theorem ZdI{y z:Ot D}(I:Rs m rs)(K:m<=1000)(H:Vs m vs)(O:s.length<=j)(g:Grw s st)(h:st[j]?=some (true,acc))(N:acc.length < 900){x0:Ot D}:match mv rs k vs with
  |.inl o=>∃ st',Kj j st st'/\ex (rT (n+5)) ZC [some (pgD tk m rs),x0,x2,some (stD k vs),jL j,y,z] st=some (.rt (.tup (acc++[o])),st')
  |.inr p=>∃ st',Kj j st st'/\st'[j]?=some (true,acc++[stD p.1 p.2])/\ex (rT (n+5)) ZC [some (pgD tk m rs),x0,x2,some (stD k vs),jL j,y,z] st=some (.nx [some (pgD tk m rs),x0,x2,some (stD p.1 p.2),jL j,y,some (stD p.1 p.2)],st'):=by
 obtain⟨s1,M,w⟩:=Y.call (F:=rT (n+5)) (s:=s) (a:=.aC (.v 0) (.u (.v 3))) (U:=[some (pgD tk m rs),x0,x2,some (stD k vs),jL j,y,z]) (xs:=[pgD tk m rs,stD k vs]) (ds:=[]) (.r rf) (Zcj I K H) st g;obtain⟨b,L,G,l⟩:=Ap.app (F:=rT (n+5)) (s:=s) (j:=j) (i:=4) (e:=.v 6) (U:=[some (pgD tk m rs),x0,x2,some (stD k vs),jL j,y,some (mvD rs k vs)]) (d:=mvD rs k vs) rfl (.r rf) s1 acc (g.trans w) (w.get h) (by show _+1<=900;omega)
 have pre:∀ {r},ex (rT (n+5)) (.seq (.ite (.call 11 (.u (.v 6)) []) (.z (.ret (.tOf (.v 4)))) .skip) (.z (.set 3 (.v 6)))) [some (pgD tk m rs),x0,x2,some (stD k vs),jL j,y,some (mvD rs k vs)] b=r->ex (rT (n+5)) ZC [some (pgD tk m rs),x0,x2,some (stD k vs),jL j,y,z] st=r:=λh=>(Zc (Zn M)).trans ((Zc L).trans h)
 have C:=w.kj.trans G;cases q:mv rs k vs with
 |inl o=>
  have A:mvD rs k vs=o:=by unfold mvD;rw[q]
  rw[A]at l pre;obtain⟨_,E,J⟩:=Zfh q;obtain⟨t,B,c⟩:=Y.call1 (F:=rT (n+5)) (s:=b) (f:=11) (a:=.v 6) (x:=o) (U:=[some (pgD tk m rs),x0,x2,some (stD k vs),jL j,y,some o]) (.r rf) (ZdP (n:=n+4) (.inl ⟨_,E,J,rfl⟩)) b .refl;exact⟨t,C.trans c.kj,pre (Zi ((Z5 B).trans (Zi (ZJ (Yf rfl (c.get l))))))⟩
 |inr p=>
  have A:mvD rs k vs=stD p.1 p.2:=by unfold mvD;rw[q]
  rw[A]at l pre;obtain⟨t,B,c⟩:=Y.call1 (F:=rT (n+5)) (s:=b) (f:=11) (a:=.v 6) (x:=stD p.1 p.2) (U:=[some (pgD tk m rs),x0,x2,some (stD k vs),jL j,y,some (stD p.1 p.2)]) (.r rf) (ZdP (n:=n+4) (.inr ⟨_,_,rfl,rfl⟩)) b .refl;exact⟨t,C.trans c.kj,c.get l,pre ((Zc ((Yu B).trans Zh)).trans ((Zc (Zn rfl)).trans Zh))⟩
theorem Q7(F:Rs m rs)(I:m<=1000)(H:s.length<=j){x0 x2:Ot D}:∀ (M a k:Nat) (vs:Li Int) (acc:Li D) (st:Za) (y z:Ot D),Vs m vs->Grw s st->st[j]?=some (true,acc)->acc.length+M<=900->
  (∃ l b c x w st',Vs m b/\tl rs M k vs=c++[enD rs l]/\Zj (λd U s=>ex (rT (n+5)) ZC (Zf U 5 d) s) ((List.range' a M).map λ(k:Nat)=>D.int (k:Int)) [some (pgD tk m rs),x0,x2,some (stD k vs),jL j,y,z] st=some (.nx [some (pgD tk m rs),x0,x2,some (stD l b),jL j,x,w],st')/\Kj j st st'/\st'[j]?=some (true,acc++c)) \/
  (∃ st',Zj (λd U s=>ex (rT (n+5)) ZC (Zf U 5 d) s) ((List.range' a M).map λ(k:Nat)=>D.int (k:Int)) [some (pgD tk m rs),x0,x2,some (stD k vs),jL j,y,z] st=some (.rt (.tup (acc++tl rs M k vs)),st')/\Kj j st st')
 |0,a,k,vs,acc,st,y,z,t,g,h,_=>.inl ⟨k,vs,[],y,z,st,t,rfl,rfl,Grw.refl.kj,by rw[bH];exact h⟩
 |M+1,a,k,vs,acc,st,y,z,t,g,h,O=>by
  have i:=ZdI (n:=n) (tk:=tk) (k:=k) (y:=jN a) (z:=z) (x0:=x0) (x2:=x2) F I t H g h (by omega)
  rw[dC,aO];have E:∀ {r},ex (rT (n+5)) ZC [some (pgD tk m rs),x0,x2,some (stD k vs),jL j,jN a,z] st=r->Zj (λd U s=>ex (rT (n+5)) ZC (Zf U 5 d) s) (D.int (a:Int) :: (List.range' (a+1) M).map λ(k:Nat)=>D.int (k:Int)) [some (pgD tk m rs),x0,x2,some (stD k vs),jL j,y,z] st=match r with
    |some (.nx U',st')=>Zj (λd U s=>ex (rT (n+5)) ZC (Zf U 5 d) s) ((List.range' (a+1) M).map λ(k:Nat)=>D.int (k:Int)) U' st'
    |some (.ct U',st')=>Zj (λd U s=>ex (rT (n+5)) ZC (Zf U 5 d) s) ((List.range' (a+1) M).map λ(k:Nat)=>D.int (k:Int)) U' st'
    |some (.bk U',st')=>some (.nx U',st')
    |some (.rt v,st')=>some (.rt v,st')
    |none=>none:=λ{r} e=>by rw[<-e];rfl
  unfold tl;cases q:mv rs k vs with
  |inl o=>
   rw[q]at i;obtain⟨st',f,u⟩:=i;exact .inr ⟨st',E u,f⟩
  |inr p=>
   rw[q]at i;obtain⟨C,f,N,u⟩:=i;have G:(acc++[stD p.1 p.2]).length+M<=900:=by rw[aI];show _+1+M<=900;omega
   rcases Q7 F I H M (a+1) p.1 p.2 _ C (jN a) (some (stD p.1 p.2)) (Zbg t F q) (f.grw H g) N G with⟨l,b,c,x,w,st',L,K,B,A,J⟩|⟨st',B,A⟩
   ·exact .inl ⟨l,b,stD p.1 p.2 :: c,x,w,st',L,by show stD p.1 p.2 :: tl rs M p.1 p.2=_;rw[K];rfl,(E u).trans B,f.trans A,by rw[J,bD];rfl⟩
   ·exact .inr ⟨st',(E u).trans (B.trans (by rw[bD];rfl)),f.trans A⟩
theorem W1(T:Rs m rs)(I:m<=1000)(hi:ins.length<=m)(S:∀ v∈ins,Sm v)(hL:L<=800):C (rT (n+6)) s 12 [pgD tk m rs,.tup (inZ ins),.int (L:Int)] (.tup (stD 0 (v0 m ins) :: tl rs L 0 (v0 m ins))):=λst g=>by
 have R:=Zb4 hi S;obtain⟨s1,N,x⟩:=Y.call (F:=rT (n+5)) (s:=s) (f:=6) (a:=.aC (.v 0) (.u (.v 1))) (U:=[some (pgD tk m rs),some (.tup (inZ ins)),jN L,none,none,none,none]) (xs:=[pgD tk m rs,.tup (inZ ins)]) (ds:=[]) (.r rf) (Zcc hi I) st g;have H:ex (rT (n+5)) (.set 4 (.lstE (.u (.v 3)))) [some (pgD tk m rs),some (.tup (inZ ins)),jN L,some (stD 0 (v0 m ins)),none,none,none] s1=some (.nx [some (pgD tk m rs),some (.tup (inZ ins)),jN L,some (stD 0 (v0 m ins)),jL s1.length,none,none],s1++[(true,[stD 0 (v0 m ins)])]):=Zn rfl
 have g2:Grw s (s1++[(true,[stD 0 (v0 m ins)])]):=(g.trans x).trans .push;have K:Grw st (s1++[(true,[stD 0 (v0 m ins)])]):=x.trans .push;have fr:=YX (F:=rT (n+5)) (i:=5) (e:=.v 2) (q:=ZC) (U:=[some (pgD tk m rs),some (.tup (inZ ins)),jN L,some (stD 0 (v0 m ins)),jL s1.length,none,none]) (st:=s1++[(true,[stD 0 (v0 m ins)])]) (v:=(L:Int)) (by omega) (by omega) rfl
 rw[aZ,dB]at fr;have J:s.length<=s1.length:=aP g.len x.len;have o:st.length<=s1.length:=x.len;rcases Q7 (n:=n) (tk:=tk) (x0:=some (.tup (inZ ins))) (x2:=jN L) T I J L 0 0 (v0 m ins) [stD 0 (v0 m ins)] _ none none R g2 Zv (by show 1+L<=900;omega) with⟨h,b,l,B,A,z,w1,E,y,w,O⟩|⟨z,y,w⟩
 ·obtain⟨G,Z,P,V⟩:=Ap.app (F:=rT (n+5)) (s:=s) (j:=s1.length) (i:=4) (e:=.ife (.call 7 (.aC (.v 0) (.u (.v 3))) []) (.tupE (.u (.t "none"))) (.tupE (.u (.t "late")))) (U:=[some (pgD tk m rs),some (.tup (inZ ins)),jN L,some (stD h b),jL s1.length,B,A]) (d:=enD rs h) rfl (.ife (.call (xs:=[pgD tk m rs,stD h b]) (.r rf) (ZdO (n:=n+4))) (by
   unfold enD;by_cases c:rs.length<=h
   ·rw[if_pos c,aL c];exact .r rf
   ·rw[if_neg c,aH c];exact .r rf)) z _ (w.grw J g2) O (by
    have:l.length<=L:=by
     have X:=congrArg List.length E;rw[aI]at X;have W:∀ {M k:Nat}{vs:Li Int},(tl rs M k vs).length<=M+1:=λ{M}=>by
      induction M with
      |zero=>intro k vs;exact aD _
      |succ M Q=>
       intro k vs;unfold tl;split
       ·show 1<=_;omega
       ·rename_i p _;have:=Q (k:=p.1) (vs:=p.2);rw[aQ];omega
     have:=W (M:=L) (k:=0) (vs:=v0 m ins);have h3:([enD rs h]:Li D).length=1:=rfl;omega
    rw[aI];show 1+l.length+1<=900;omega)
  refine⟨G,XE (v:=c_trail) rfl rfl ((Zc (Zn N)).trans ((Zc H).trans ((Zc (fr.trans y)).trans ((Zc Z).trans (Zi (ZJ ?_)))))),(w.trans P).grw o K⟩;have:=Yf (F:=rT (n+5)) (e:=.v 4) (U:=[some (pgD tk m rs),some (.tup (inZ ins)),jN L,some (stD h b),jL s1.length,B,A]) (st:=G) rfl V;rw[this,E];rfl
 ·exact⟨z,XE (v:=c_trail) rfl rfl ((Zc (Zn N)).trans ((Zc H).trans (Zi (fr.trans y)))),w.grw o K⟩
section
variable{l:Li Nat}
theorem ZbX:tl rs n k vs≠[]:=by
 cases n with
 |zero=>exact cL _ _
 |succ n=>unfold tl;split<;>exact cL _ _
theorem Vy:∀ {n k:Nat}{vs:Li Int},(tl rs n k vs).getLastD .non=oc rs n k vs
 |0,k,vs=>rfl
 |n+1,k,vs=>by
  unfold tl oc;cases q:mv rs k vs with
  |inl o=>rfl
  |inr p=>
   show(stD p.1 p.2 :: tl rs n p.1 p.2).getLastD .non=oc rs n p.1 p.2;rw[<-Vy (n:=n)];cases h:tl rs n p.1 p.2 with
   |nil=>exact absurd h ZbX
   |cons z a=>rfl
theorem Qj(h:xs≠[])(a:xs.length<=100000):atD xs (-1)=some (xs.getLastD .non):=by
 have b:0 < xs.length:=List.length_pos_iff.mpr h;unfold atD ixN;rw[if_neg (by decide),if_pos (by omega),oB7,show(-1+(xs.length:Int)).toNat=xs.length - 1 by omega,<-List.getLast?_eq_getElem?,List.getLastD_eq_getLast?]
 cases q:xs.getLast? with
 |none=>exact absurd (List.getLast?_eq_none_iff.mp q) h
 |some z=>rfl
theorem Y.lastT(c:Y F s a U (.tup xs))(h:xs≠[])(b:xs.length<=100000):Y F s (.ix a (.neg (.i 1))) U (xs.getLastD .non):=g2 (y:=.int (-1)) c (.r rf) (gp λst=>by
 show ixR (.tup xs) (.int (-1)) st=_;unfold ixR ixD;simp only[Qj h b])
theorem Ww:∀ {M k:Nat}{vs:Li Int},(tl rs M k vs).length<=M+1
 |0,k,vs=>aD _
 |M+1,k,vs=>by
  unfold tl;split
  ·show 1<=_;omega
  ·rename_i p _;have:=Ww (M:=M) (k:=p.1) (vs:=p.2);rw[aQ];omega
end
section
variable{l:Li Nat}
theorem V5{I:Nat->Env->Prop}{body:D->Env->Za->Ot (Fl×Za)}:∀ {xs:Li D} (a:Nat) (U:Env) (st1:Za),(∀ i d U b,xs[i]?=some d->I (a+i) U->Grw st1 b->∃ U' c,body d U b=some (.nx U',c)/\Grw b c/\I (a+i+1) U')->I a U->∃ U' b,Zj body xs U st1=some (.nx U',b)/\Grw st1 b/\I (a+xs.length) U'
 |[],a,U,st1,_,h=>⟨U,st1,rfl,.refl,h⟩
 |x :: xs,a,U,st1,k,h=>by
  obtain⟨f,m,r,j,t⟩:=k 0 x U st1 rfl h .refl;obtain⟨e,l,q,n,s⟩:=V5 (xs:=xs) (a+1) f m (λi d U b p o g=>by
   have:=k (i+1) d U b p (by rw[show a+(i+1)=a+1+i by omega];exact o) (j.trans g)
   rw[show a+(i+1)+1=a+1+i+1 by omega]at this
   exact this) t
  refine⟨e,l,?_,j.trans n,by rw[aQ,show a+(xs.length+1)=a+1+xs.length by omega];exact s⟩
  show(match body x U st1 with
   |some (.nx U',st')=>Zj body xs U' st'
   |some (.ct U',st')=>Zj body xs U' st'
   |some (.bk U',st')=>some (.nx U',st')
   |some (.rt v,st')=>some (.rt v,st')
   |none=>none)=_
  rw[r];exact q
theorem Va{bb:Bool}(a:ev F e U st=some (.lst j,st1))(h:st1[j]?=some (bb,xs)):ex F (.for1 i false e q) U st=ZK (λd U s=>ex F q (Zf U i d) s) j xs.length 0 U st1:=by
 show Wc i false (ev F e) (ex F q) U st=_;unfold Wc;rw[a];show(match st1[j]? with
  |some (_,xs)=>ZK (λd U s=>ex F q (Zf U i d) s) j xs.length 0 U st1
  |none=>none)=_
 rw[h]
theorem for_tup(a:ev F e U st=some (.tup xs,st1)):ex F (.for1 i false e q) U st=Zj (λd U s=>ex F q (Zf U i d) s) xs U st1:=by
 show Wc i false (ev F e) (ex F q) U st=_;unfold Wc;rw[a];rfl
theorem U8(t:k<=60):C (rT (n+1)) s 43 [.int (k:Int)] (.int ((2 ^ k:Nat):Int)):=λst g=>by
 obtain⟨U',j,f,m,y,rfl⟩:=V5 (st1:=st) (I:=λi U=>∃ y,U=[jN k,some (.int ((2 ^ i:Nat):Int)),y]) (body:=λd U s=>ex (rT n) Y9 (Zf U 2 d) s) (xs:=(List.range k).map λ(k:Nat)=>D.int (k:Int)) 0 [jN k,some (.int ((2 ^ 0:Nat):Int)),none] (λi d U c u o g2=>by
  obtain⟨y,rfl⟩:=o;obtain⟨h,p,l⟩:=Y.mul (F:=rT n) (s:=c) (a:=.v 1) (b:=.i 2) (U:=[jN k,some (.int ((2 ^ (0+i):Nat):Int)),some d]) (.r rf) (.r rf) rfl c .refl;refine⟨_,h,(Zc (Zn p)).trans Zh,l,some d,?_⟩;rw[show((2 ^ (0+i+1):Nat):Int)=((2 ^ (0+i):Nat):Int) * 2 by rw[Nat.pow_succ,eA];rfl]
  rfl) ⟨none,rfl⟩
 have fr:=YX (F:=rT n) (i:=2) (e:=.v 0) (q:=Y9) (U:=[jN k,some (.int ((2 ^ 0:Nat):Int)),none]) (st:=st) (v:=(k:Int)) (by omega) (by omega) rfl
 rw[aZ]at fr;rw[aB,bR,bE]at f;exact⟨j,XE (v:=c_bit_of) rfl rfl ((Zc (Zn rfl)).trans ((Zc (fr.trans f)).trans (Zi (ZJ rfl)))),m⟩
end
def nxt(l:Li Str)(g:Str):Str:=l.getD ((l.idxOf g+1) % l.length) (S "")
def cnt(g:Str):Str:=if g=S "<" then S ">=" else if g=S ">=" then S "<" else if g=S "<=" then S ">" else if g=S ">" then S "<=" else if g=S "=" then S "!=" else S "="
def Xn:Op->Li Op
 |.nu v=>[.nu (arI (v+1))]
 |.nm _=>[]
def sgR:Rw->Li Rw
 |.put x y g z=>[.put x y (nxt psL g) z]
 |.ifr y g z t=>[.ifr y (nxt isL g) z t]
 |_=>[]
def moR:Rw->Li Rw
 |.put x y g z=>(Xn y).map (λq=>.put x q g z)++(Xn z).map (λq=>.put x y g q)
 |.ifr y g z t=>(Xn y).map (λq=>.ifr q g z t)++(Xn z).map (λq=>.ifr y g q t)
 |.tell y=>(Xn y).map .tell
 |_=>[]
def tuR:Rw->Li Rw
 |.ifr y g z t=>[.ifr y (cnt g) z t]
 |_=>[]
def ouR:Rw->Li Rw
 |.skip=>[]
 |_=>[.skip]
def swR:Rw->Li Rw
 |.put x y g z=>if y=z then [] else [.put x z g y]
 |.ifr y g z t=>if y=z then [] else [.ifr z g y t]
 |_=>[]
def faR(sz:Nat):Rw->Li Rw
 |.ifr y g z t=>if sz<=t then [] else [.ifr y g z (t+1)]
 |.go t=>if sz<=t then [] else [.go (t+1)]
 |_=>[]
variable{z:Op}{obj:D}
theorem Zgb(h:(xs=[.kt psL,.str g]/\g∈psL/\d=.str (nxt psL g))\/(xs=[.kt isL,.str g]/\g∈isL/\d=.str (nxt isL g))):C (rT (n+1)) s 70 xs d:=by
 rcases h with⟨rfl,h,rfl⟩|⟨rfl,h,rfl⟩
 ·simp only[psL,aF,aU,or_false]at h
  rcases h with rfl|rfl|rfl|rfl|rfl<;>exact .of (v:=c_behind) rfl rfl (.ret (.r λst=>by rfl))
 ·simp only[isL,aF,aU,or_false]at h
  rcases h with rfl|rfl|rfl|rfl|rfl|rfl<;>exact .of (v:=c_behind) rfl rfl (.ret (.r λst=>by rfl))
theorem Zhx(h:Zx m sz r):C (rT (n+2)) s 171 [obj,rwE r,.int (sz:Int)] (.tup ((sgR r).map rwE)):=by
 cases r with
 |put x y g z=>
  obtain⟨_,_,a,_⟩:=h;exact .of (v:=c_Sign_turned) rfl rfl (.yes (.r rf) (.cons (.call (xs:=[rwE (.put x y g z),.int ((3:Nat):Int),.str (nxt psL g)]) (.cons (.r rf) (.cons (.r rf) (.cons (.call (xs:=[.kt psL,.str g]) (.r rf) (Zgb (.inl ⟨rfl,a,rfl⟩))) .nil))) (Yg (i:=3) (by show 3 < 5;decide) (by show 5<=1000;decide))) .nil))
 |ifr y g z t=>
  obtain⟨_,a,_,_⟩:=h;exact .of (v:=c_Sign_turned) rfl rfl (.no (.r rf) (.yes (.r rf) (.cons (.call (xs:=[rwE (.ifr y g z t),.int ((2:Nat):Int),.str (nxt isL g)]) (.cons (.r rf) (.cons (.r rf) (.cons (.call (xs:=[.kt isL,.str g]) (.r rf) (Zgb (.inr ⟨rfl,a,rfl⟩))) .nil))) (Yg (i:=2) (by show 2 < 5;decide) (by show 5<=1000;decide))) .nil)))
 |go t=>exact .of (v:=c_Sign_turned) rfl rfl (.no (.r rf) (.no (.r rf) (.ret (.r rf))))
 |tell y=>exact .of (v:=c_Sign_turned) rfl rfl (.no (.r rf) (.no (.r rf) (.ret (.r rf))))
 |skip=>exact .of (v:=c_Sign_turned) rfl rfl (.no (.r rf) (.no (.r rf) (.ret (.r rf))))
theorem Zhz(h:Zx m sz r):C (rT (n+2)) s 159 [obj,rwE r,.int (sz:Int)] (.tup ((tuR r).map rwE)):=by
 cases r with
 |ifr y g z t=>
  obtain⟨_,a,_,_⟩:=h;refine .of (v:=c_Turn_turned) rfl rfl (.no (.r rf) (.ret (.cons (.call (xs:=[rwE (.ifr y g z t),.int ((2:Nat):Int),.str (cnt g)]) (.cons (.r rf) (.cons (.r rf) (.cons ?_ .nil))) (Yg (i:=2) (by show 2 < 5;decide) (by show 5<=1000;decide))) .nil)))
  simp only[isL,aF,aU,or_false]at a;rcases a with rfl|rfl|rfl|rfl|rfl|rfl<;>exact .r λst=>rfl
 |put x y g z=>exact .of (v:=c_Turn_turned) rfl rfl (.yes (.r rf) (.r rf))
 |go t=>exact .of (v:=c_Turn_turned) rfl rfl (.yes (.r rf) (.r rf))
 |tell y=>exact .of (v:=c_Turn_turned) rfl rfl (.yes (.r rf) (.r rf))
 |skip=>exact .of (v:=c_Turn_turned) rfl rfl (.yes (.r rf) (.r rf))
theorem Zhw:C (rT (n+1)) s 154 [obj,rwE r,.int (sz:Int)] (.tup ((ouR r).map rwE)):=by
 cases r with
 |skip=>exact .of (v:=c_Out_turned) rfl rfl (.yes (.r rf) (.r rf))
 |put x y g z=>exact .of (v:=c_Out_turned) rfl rfl (.no (.r rf) (.ret (.r rf)))
 |ifr y g z t=>exact .of (v:=c_Out_turned) rfl rfl (.no (.r rf) (.ret (.r rf)))
 |go t=>exact .of (v:=c_Out_turned) rfl rfl (.no (.r rf) (.ret (.r rf)))
 |tell y=>exact .of (v:=c_Out_turned) rfl rfl (.no (.r rf) (.ret (.r rf)))
theorem op_eq:eqS st (opE o) (opE z)=some (decide (o=z)):=by
 cases o with
 |nm i=>cases z with
  |nm j=>
   show some (decide (S "name"=S "name")&&(decide ((i:Int)=(j:Int))&&true))=_;rw[aL rfl,dD,dL];exact congrArg some (decide_eq_decide.mpr ⟨λh=>by rw[Int.ofNat_inj.mp h],λh=>by cases h;rfl⟩)
  |nu v=>
   show some (decide (S "name"=S "number")&&(decide ((i:Int)=v)&&true))=_;rw[show decide (S "name"=S "number")=false by decide +kernel]
   exact congrArg some (aH λh=>nomatch h).symm
 |nu u=>cases z with
  |nm j=>
   show some (decide (S "number"=S "name")&&(decide (u=(j:Int))&&true))=_;rw[show decide (S "number"=S "name")=false by decide +kernel]
   exact congrArg some (aH λh=>nomatch h).symm
  |nu v=>
   show some (decide (S "number"=S "number")&&(decide (u=v)&&true))=_;rw[aL rfl,dD,dL];exact congrArg some (decide_eq_decide.mpr ⟨λh=>by rw[h],λh=>by cases h;rfl⟩)
theorem Y.neO(d:Y F s a U (opE o))(c:Y F s b U (opE z)):Y F s (.cmp .NotEq a b) U (.bl (!decide (o=z))):=.cmp d c λst=>by
 show(eqS st (opE o) (opE z)).map Bool.not=_;rw[op_eq];rfl
theorem Zhy:C (rT (n+1)) s 162 [obj,rwE r,.int (sz:Int)] (.tup ((swR r).map rwE)):=by
 cases r with
 |put x y g z=>
  refine .of (v:=c_Swap_turned) rfl rfl (.pick (k:=true&&!decide (y=z)) (.and (.r rf) λ_=>.neO (.r rf) (.r rf)) (λh=>?_) λh=>.no (.r rf) ?_)
  ·have:¬y=z:=λe=>by rw[aL e]at h;cases h
   show R _ _ _ _ (.tup ((if y=z then [] else [Rw.put x z g y]).map rwE))
   rw[if_neg this];exact .ret (.r rf)
  ·have:y=z:=by
    by_cases e:y=z
    ·exact e
    ·rw[aH e]at h;cases h
   show R _ _ _ _ (.tup ((if y=z then [] else [Rw.put x z g y]).map rwE))
   rw[if_pos this];exact .ret (.r rf)
 |ifr y g z t=>
  refine .of (v:=c_Swap_turned) rfl rfl (.no (.r rf) (.pick (k:=true&&!decide (y=z)) (.and (.r rf) λ_=>.neO (.r rf) (.r rf)) (λh=>?_) λh=>?_))
  ·have:¬y=z:=λe=>by rw[aL e]at h;cases h
   show R _ _ _ _ (.tup ((if y=z then [] else [Rw.ifr z g y t]).map rwE))
   rw[if_neg this];exact .ret (.r rf)
  ·have:y=z:=by
    by_cases e:y=z
    ·exact e
    ·rw[aH e]at h;cases h
   show R _ _ _ _ (.tup ((if y=z then [] else [Rw.ifr z g y t]).map rwE))
   rw[if_pos this];exact .ret (.r rf)
 |go t=>exact .of (v:=c_Swap_turned) rfl rfl (.no (.r rf) (.no (.r rf) (.ret (.r rf))))
 |tell y=>exact .of (v:=c_Swap_turned) rfl rfl (.no (.r rf) (.no (.r rf) (.ret (.r rf))))
 |skip=>exact .of (v:=c_Swap_turned) rfl rfl (.no (.r rf) (.no (.r rf) (.ret (.r rf))))
theorem Zhu:C (rT (n+1)) s 165 [obj,rwE r,.int (sz:Int)] (.tup ((faR sz r).map rwE)):=by
 have a:∀ {t:Nat},decide ((sz:Int)<=(t:Int))=decide (sz<=t):=λ{t}=>decide_eq_decide.mpr (by omega)
 cases r with
 |go t=>
  refine .of (v:=c_Far_turned) rfl rfl (.pick (k:=false||decide (sz<=t)) (.or (.r rf) λ_=>.cmp (x:=.int (t:Int)) (.r rf) (.r rf) λ_=>congrArg some a) (λh=>?_) λh=>?_)
  ·show R _ _ _ _ (.tup ((if sz<=t then [] else [Rw.go (t+1)]).map rwE))
   rw[if_pos (of_decide_eq_true h)];exact .ret (.r rf)
  ·show R _ _ _ _ (.tup ((if sz<=t then [] else [Rw.go (t+1)]).map rwE))
   rw[if_neg (of_decide_eq_false h)];exact .ret (.cons (.adT (xs:=[.str "go"]) (ys:=[.int ((t+1:Nat):Int)]) (.r rf) (.cons (by rw[bF];exact .add (i:=(t:Int)) (.r rf) (.r rf)) .nil) (by show 1+1<=_;decide)) .nil)
 |ifr y g z t=>
  refine .of (v:=c_Far_turned) rfl rfl (.pick (k:=false||decide (sz<=t)) (.or (.r rf) λ_=>.cmp (x:=.int (t:Int)) (.r rf) (.r rf) λ_=>congrArg some a) (λh=>?_) λh=>?_)
  ·show R _ _ _ _ (.tup ((if sz<=t then [] else [Rw.ifr y g z (t+1)]).map rwE))
   rw[if_pos (of_decide_eq_true h)];exact .ret (.r rf)
  ·show R _ _ _ _ (.tup ((if sz<=t then [] else [Rw.ifr y g z (t+1)]).map rwE))
   rw[if_neg (of_decide_eq_false h)];exact .ret (.cons (.adT (xs:=[.str "if",opE y,.str g,opE z]) (ys:=[.int ((t+1:Nat):Int)]) (.r rf) (.cons (by rw[bF];exact .add (i:=(t:Int)) (.r rf) (.r rf)) .nil) (by show 4+1<=_;decide)) .nil)
 |put x y g z=>exact .of (v:=c_Far_turned) rfl rfl (.yes (.or (k:=true) (m:=false) (.r rf) λh=>nomatch h) (.r rf))
 |tell y=>exact .of (v:=c_Far_turned) rfl rfl (.yes (.or (k:=true) (m:=false) (.r rf) λh=>nomatch h) (.r rf))
 |skip=>exact .of (v:=c_Far_turned) rfl rfl (.yes (.or (k:=true) (m:=false) (.r rf) λh=>nomatch h) (.r rf))
variable{i0:Nat}
section
variable{g0:Str}
theorem Zgr{α:Type}{b:α->D}{g:α->Li D}{E:Ot D->Env}(n:∀ y d,Zf (E y) i d=E (some d))(m:s.length<=j):∀ {l:Li α},(∀ a∈l,Ap F s j q (E (some (b a))) (E (some (b a))) (g a))->∀ {y:Ot D}{st:Za}{acc:Li D},Grw s st->st[j]?=some (true,acc)->acc.length+(l.flatMap g).length<=900->∃ e st',Zj (λd U s=>ex F q (Zf U i d) s) (l.map b) (E y) st=some (.nx (E e),st')/\Kj j st st'/\st'[j]?=some (true,acc++l.flatMap g)
 |[],_,y,st,acc,k,f,_=>⟨y,st,rfl,Grw.refl.kj,by rw[List.flatMap_nil,bH];exact f⟩
 |a :: l,h,y,st,acc,k,f,t=>by
  rw[bU,aI]at t;obtain⟨s1,x,g1,r⟩:=h a lQ7 st acc k f (by omega)
  obtain⟨e,o,w,g2,p⟩:=Zgr n m (λc u=>h c (lM7 _ u)) (y:=some (b a)) (g1.grw m k) r (by rw[aI];omega)
  refine⟨e,o,?_,g1.trans g2,by rw[bU,<-bD];exact p⟩
  rw[aO];show(match ex F q (Zf (E y) i (b a)) st with
   |some (.nx U',st')=>Zj _ (l.map b) U' st'
   |some (.ct U',st')=>Zj _ (l.map b) U' st'
   |some (.bk U',st')=>some (.nx U',st')
   |some (.rt v,st')=>some (.rt v,st')
   |none=>none)=_
  rw[n,x];exact w
theorem ZeD{α:Type}{en:α->D}{g:α->Li D}{E:Ot D->Env}{la:Nat}{bb:Bool}{all:Li α}(m:∀ y d,Zf (E y) i d=E (some d))(l:s.length<=j)(f:la≠j)(h:∀ a∈all,Ap F s j q (E (some (en a))) (E (some (en a))) (g a)):∀ (M t:Nat) {y:Ot D}{st:Za}{acc:Li D},t+M=all.length->Grw s st->st[la]?=some (bb,all.map en)->st[j]?=some (true,acc)->acc.length+((all.drop t).flatMap g).length<=900->∃ c st',ZK (λd U s=>ex F q (Zf U i d) s) la M t (E y) st=some (.nx (E c),st')/\Kj j st st'/\st'[j]?=some (true,acc++(all.drop t).flatMap g)
 |0,t,y,st,acc,u,k,b,e,_=>⟨y,st,by unfold ZK;rw[b];exact if_pos (by rw[aB];omega),Grw.refl.kj,by rw[dJ (by omega),List.flatMap_nil,bH];exact e⟩
 |M+1,t,y,st,acc,u,k,b,e,v=>by
  have hi:t < all.length:=by omega
  rw[bQ hi,bU,aI]at v;obtain⟨s1,x,g1,p⟩:=h _ (cM hi) st acc k e (by omega)
  obtain⟨c,n,w,g2,o⟩:=ZeD m l f h M (t+1) (y:=some (en all[t])) (by omega) (g1.grw l k) ((g1.old _ (Zt b) f).trans b) p (by rw[aI];omega)
  refine⟨c,n,?_,g1.trans g2,by rw[bQ hi,bU,<-bD];exact o⟩
  conv=>lhs;unfold ZK
  have r:(all.map en)[t]?=some (en all[t]):=by rw[aV,lG7 hi];rfl
  simp only[b,r,m,x];exact w
theorem ZhD{u v:α->D}{g:α->Li D}{E:Ot D->Ot D->Ot D->Env}{i':Nat}(H:∀ y z w u v,Zf (Zf (E y z w) i u) i' v=E (some u) (some v) w)(C:s.length<=j){l:Li α}:(∀ a∈l,∀ w st acc,Grw s st->st[j]?=some (true,acc)->acc.length+(g a).length<=900->∃ U' st',(∃ y z w,U'=E y z w)/\ex F q (E (some (u a)) (some (v a)) w) st=some (.nx U',st')/\Kj j st st'/\st'[j]?=some (true,acc++g a))->∀ {y z w:Ot D}{st:Za}{acc:Li D},Grw s st->st[j]?=some (true,acc)->acc.length+(l.flatMap g).length<=900->∃ d b e st',ZZ (λ_=>True) (λx y U S=>ex F q (Zf (Zf U i x) i' y) S) (l.map λa=>(u a,v a)) (E y z w) st=some (.nx (E d b e),st')/\Kj j st st'/\st'[j]?=some (true,acc++l.flatMap g):=by
 induction l with
 |nil=>intro _ y z w st acc k f _;exact⟨y,z,w,st,if_pos trivial,Grw.refl.kj,by rw[List.flatMap_nil,bH];exact f⟩
 |cons a l A=>
  intro h y z w st acc k f B;rw[bU,aI]at B;obtain⟨_,s1,⟨n,m,o,rfl⟩,J,g1,t⟩:=h a lQ7 w st acc k f (by omega)
  obtain⟨d,b,e,p,I,g2,r⟩:=A (λc G=>h c (lM7 _ G)) (y:=n) (z:=m) (w:=o) (g1.grw C k) t (by rw[aI];omega)
  refine⟨d,b,e,p,?_,g1.trans g2,by rw[bU,<-bD];exact r⟩
  rw[aO,ZZ,if_pos trivial];simp only[H,J];exact I
def Lf(s:Za)(f:Za->Res)(xs:Li D):Prop:=∀ st,Grw s st->∃ st' j,f st=some (.lst j,st')/\st'[j]?=some (true,xs)/\Grw st st'
theorem Vg{b:D->Li (Ot D)}{en g:α->D}{l:Li α}(hi:Wk F s it U wk (l.map en))(m:l.length<=1000)(h:∀ a∈l,Y F s elt (ZU b U fr (en a)) (g a)):Lf s (Ye b wk fr (ev F it) (ev F elt) (ev F (.c (.bl true))) U) (l.map g):=λst k=>by
 obtain⟨x,s1,ok,q,e,p,j⟩:=hi st k;obtain⟨f,o,i⟩:=W6 (s:=s1) (ok:=ok) (fe:=λd=>ev F elt (ZU b U fr d)) (fc:=λd=>ev F (.c (.bl true)) (ZU b U fr d)) (λ_ _=>rfl) j (λa n=>Gv.mono (h a n) (k.trans e)) s1 .refl
 refine⟨f++[(true,l.map g)],_,?_,Zv,(e.trans i).trans .push⟩;unfold Ye;simp only[q,p,aB,if_pos m,o]
theorem Ap.ext(hi:U[i]?=some (jL j))(h:Lf s (ev F e U) xs):Ap F s j (.ext i e) U U xs:=λst acc g f n=>by
 obtain⟨s1,q,l,k,a⟩:=h st g;have b:=a.get f;refine⟨s1.set j (true,acc++xs),?_,⟨λm d c=>?_,by rw[bJ];exact a.len⟩,by rw[XV (Zt b),if_pos rfl]⟩
 ·show Zan i (ev F e) U st=_
  unfold Zan ZeU;simp only[hi,l,b,k];rw[if_pos (by unfold Zu;omega)]
 ·rw[XV (Zt b),if_neg (Ne.symm c)]
  exact a.old m d
theorem R.gather{l:Li α}{en:α->D}{g:α->Li D}{E:Ot D->Nat->Env}(w:∀ j,Zf U i0 (.lst j)=E none j)(t:∀ y j d,Zf (E y j) i d=E (some d) j)(n:∀ y j,(E y j)[i0]?=some (jL j))(p:∀ j,Y F s e (E none j) (.tup (l.map en)))(r:∀ j,s.length<=j->∀ a∈l,Ap F s j q (E (some (en a)) j) (E (some (en a)) j) (g a))(o:(l.flatMap g).length<=900):R F s (.seq (.set i0 (.lstE .aN)) (.seq (.for1 i false e q) (.z (.ret (.tOf (.v i0)))))) U (.tup (l.flatMap g)):=λst b=>by
 obtain⟨s1,A,f⟩:=p st.length (st++[(true,[])]) (b.trans .push);obtain⟨B,h,x,m,u⟩:=Zgr (i:=i) (E:=λy=>E y st.length) (λy d=>t y st.length d) b.len (r st.length b.len) (y:=none) ((b.trans .push).trans f) (f.get Zv) (by rw[cY,bE];exact o)
 refine⟨h,?_,(f.kj.trans m).grw (aD _) .push⟩;have k:ex F (.set i0 (.lstE .aN)) U st=some (.nx (E none st.length),st++[(true,[])]):=by rw[<-w];exact Zn rfl
 exact(Zc k).trans ((Zc ((for_tup A).trans x)).trans (Zi (ZJ (Yf (c:=(true,[]++l.flatMap g)) (by show Xk i0 _ _=_;unfold Xk;rw[n]) u))))
theorem Zhv(h:Zx m sz r):C (rT (n+2)) s 151 [obj,rwE r,.int (sz:Int)] (.tup ((moR r).map rwE)):=by
 have c:∀ (l:Li (Nat×Li Rw)),(∀ {s:Za},C (rT (n+1)) s 113 [rwE r] (.tup (l.map λp=>D.int (p.1:Int))))->(l.flatMap λp=>p.2.map rwE)=(moR r).map rwE->((moR r).map rwE).length<=900->(∀ p∈l,∀ j,s.length<=j->Ap (rT (n+1)) s j Z7 [some obj,some (rwE r),jN sz,jL j,jN p.1] [some obj,some (rwE r),jN sz,jL j,jN p.1] (p.2.map rwE))->C (rT (n+2)) s 151 [obj,rwE r,.int (sz:Int)] (.tup ((moR r).map rwE)):=λl J I F H=>by
  rw[<-I]at F ⊢;exact .of (v:=c_More_turned) rfl rfl (.gather (i0:=3) (i:=4) (E:=λy j=>[some obj,some (rwE r),jN sz,jL j,y]) (en:=λp:Nat×Li Rw=>D.int (p.1:Int)) (g:=λp=>p.2.map rwE) (λ_=>rfl) (λ_ _ _=>rfl) (λ_ _=>rfl) (λj=>.call1 (.r rf) J) (λj A p b=>H p b j A) F)
 have one:∀ {a:Li D}{p j:Nat}{o:Op}{f:Op->Rw},rwE r=.tup a->a.length<=5->a[p]?=some (opE o)->(∀ q,.tup (a.set p (opE q))=rwE (f q))->Ap (rT (n+1)) s j Z7 [some obj,some (rwE r),jN sz,jL j,jN p] [some obj,some (rwE r),jN sz,jL j,jN p] (((Xn o).map f).map rwE):=λ{a p j o f} L M G K=>by
  rw[L];have B:∀ {s:Za},Y (rT (n+1)) s (.ix (.v 1) (.v 4)) [some obj,some (.tup a),jN sz,jL j,jN p] (opE o):=.ixt (j:=p) (.r rf) (.r rf) G;cases o with
  |nm i=>exact .one (.ite (k:=false) (.cmp (x:=.str "name") (.ixt (j:=0) B (.r rf) rfl) (.r rf) λ_=>rfl) .skip)
  |nu v=>
   refine .one (.ite (k:=true) (.cmp (x:=.str "number") (.ixt (j:=0) B (.r rf) rfl) (.r rf) λ_=>rfl) (.one (.app rfl ?_)))
   have:=Yg (n:=n) (s:=s) (xs:=a) (i:=p) (d:=opE (.nu (arI (v+1)))) (Zt G) (by omega)
   rw[K]at this;exact .call (xs:=[.tup a,.int (p:Int),opE (.nu (arI (v+1)))]) (.cons (.r rf) (.cons (.r rf) (.cons (.cons (.r rf) (.cons (.call1 (.add (.ixt (j:=1) B (.r rf) rfl) (.r rf)) Ym) .nil)) .nil))) this
 have w:∀ {o:Op},(Xn o).length<=1:=λ{o}=>by cases o with
  |nm i=>exact aM _
  |nu v=>exact aD _
 have u:∀ {s:Za}{l:Li D},(match r with|.put _ _ _ _=>[D.int 2,.int 4]|.ifr _ _ _ _=>[.int 1,.int 3]|.tell _=>[.int 1]|_=>[])=l->C (rT (n+1)) s 113 [rwE r] (.tup l):=λ{s l} e=>by
  rw[<-e];cases r<;>exact .of (v:=c_operand_places) rfl rfl (.ret (.r rf))
 cases r with
 |put x y g z=>
  refine c [(2,(Xn y).map λq=>.put x q g z),(4,(Xn z).map λq=>.put x y g q)] (u rfl) (by show _++(_++[])=List.map rwE (_++_);rw[bH,cG]) (by show(List.map rwE (_++_)).length<=900;rw[aB,aI,aB,aB];have:=w (o:=y);have:=w (o:=z);omega) λp b j A=>?_
  simp only[aF,aU,or_false]at b;rcases b with rfl|rfl
  ·exact one (f:=λq=>.put x q g z) rfl (by show 5<=5;decide) rfl λq=>rfl
  ·exact one (f:=λq=>.put x y g q) rfl (by show 5<=5;decide) rfl λq=>rfl
 |ifr y g z t=>
  refine c [(1,(Xn y).map λq=>.ifr q g z t),(3,(Xn z).map λq=>.ifr y g q t)] (u rfl) (by show _++(_++[])=List.map rwE (_++_);rw[bH,cG]) (by show(List.map rwE (_++_)).length<=900;rw[aB,aI,aB,aB];have:=w (o:=y);have:=w (o:=z);omega) λp b j A=>?_
  simp only[aF,aU,or_false]at b;rcases b with rfl|rfl
  ·exact one (f:=λq=>.ifr q g z t) rfl (by show 5<=5;decide) rfl λq=>rfl
  ·exact one (f:=λq=>.ifr y g q t) rfl (by show 5<=5;decide) rfl λq=>rfl
 |tell y=>
  refine c [(1,(Xn y).map .tell)] (u rfl) (by show _++[]=_;rw[bH];rfl) (by show(List.map rwE (List.map _ _)).length<=900;rw[aB,aB];have:=w (o:=y);omega) λp b j A=>?_
  rw[aR.mp b];exact one (f:=.tell) rfl (by show 2<=5;decide) rfl λq=>rfl
 |go t=>exact c [] (u rfl) rfl (aM _) λp b=>nomatch b
 |skip=>exact c [] (u rfl) rfl (aM _) λp b=>nomatch b
end
structure Stp where
 c:Nat
 t:Nat
 v:Nat
 w:Str
 f:Rw->List Rw
def stp(sz:Nat):Li Stp:=[⟨169,171,170,S "sign",sgR⟩,⟨149,151,150,S "more",moR⟩,⟨157,159,158,S "turn",tuR⟩,⟨152,154,153,S "out",ouR⟩,⟨160,162,161,S "swap",swR⟩,⟨163,165,164,S "far",faR sz⟩]
def tD(p:Nat×Str×Rw):D:=.tup [.int (p.1:Int),.str p.2.1,rwE p.2.2]
def fkR(sz k:Nat)(r:Rw):Li (Nat×Str×Rw):=(stp sz).flatMap λp=>(p.f r).map λq=>(k,p.w,q)
def fkL(rs:Li Rw):Li (Nat×Str×Rw):=rs.zipIdx.flatMap λp=>fkR rs.length p.2 p.1
theorem Y.methO{b:Nat}{tab:Li (Nat×Nat)}(g:Y F s e U (.obj b))(f:tab.lookup b=some j)(i:Y F s a U (.tup xs))(h:C F s j (.obj b :: xs) d):Y F s (.meth tab e a) U d:=g2 g i λst k=>by
 obtain⟨s1,l,c⟩:=h st k;refine⟨s1,?_,c⟩;show(match tab.lookup b with
  |some j=>F j (.obj b :: xs) st
  |none=>none)=_
 rw[f];exact l
theorem Zfe:(moR r).length<=2:=by
 have a:∀ {o:Op},(Xn o).length<=1:=λ{o}=>by
  cases o with
  |nm i=>exact aM _
  |nu v=>exact aD _
 cases r with
 |put x y g z=>show(_++_:Li Rw).length<=2;rw[aI,aB,aB];have:=a (o:=y);have:=a (o:=z);omega
 |ifr y g z t=>show(_++_:Li Rw).length<=2;rw[aI,aB,aB];have:=a (o:=y);have:=a (o:=z);omega
 |tell y=>show(List.map _ _).length<=2;rw[aB];have:=a (o:=y);omega
 |go t=>exact aM _
 |skip=>exact aM _
theorem Q2{p:Stp}(a:p∈stp sz):(p.f r).length<=2:=by
 simp only[stp,aF,aU,or_false]at a;rcases a with rfl|rfl|rfl|rfl|rfl|rfl
 ·cases r<;>first|exact aM _|exact(by decide:1<=2)
 ·exact Zfe
 ·cases r<;>first|exact aM _|exact(by decide:1<=2)
 ·cases r<;>first|exact aM _|exact(by decide:1<=2)
 ·cases r with
  |put x y g z=>show(if y=z then [] else [Rw.put x z g y]).length<=2;split<;>first|exact aM _|exact(by decide:1<=2)
  |ifr y g z t=>show(if y=z then [] else [Rw.ifr z g y t]).length<=2;split<;>first|exact aM _|exact(by decide:1<=2)
  |_=>exact aM _
 ·cases r with
  |go t=>show(if sz<=t then [] else [Rw.go (t+1)]).length<=2;split<;>first|exact aM _|exact(by decide:1<=2)
  |ifr y g z t=>show(if sz<=t then [] else [Rw.ifr y g z (t+1)]).length<=2;split<;>first|exact aM _|exact(by decide:1<=2)
  |_=>exact aM _
theorem W0{p:Stp}(a:p∈stp sz)(h:Zx m sz r):C (rT (n+2)) s p.t [.obj p.c,rwE r,.int (sz:Int)] (.tup ((p.f r).map rwE))/\C (rT (n+2)) s p.v [.obj p.c] (.str p.w)/\List.lookup p.c [(146,148),(169,171),(149,151),(157,159),(152,154),(160,162),(163,165)]=some p.t/\List.lookup p.c [(146,147),(169,170),(149,150),(157,158),(152,153),(160,161),(163,164)]=some p.v:=by
 simp only[stp,aF,aU,or_false]at a;rcases a with rfl|rfl|rfl|rfl|rfl|rfl
 ·exact⟨Zhx h,.of (v:=c_Sign_word) rfl rfl (.ret (.r rf)),rfl,rfl⟩
 ·exact⟨Zhv h,.of (v:=c_More_word) rfl rfl (.ret (.r rf)),rfl,rfl⟩
 ·exact⟨Zhz h,.of (v:=c_Turn_word) rfl rfl (.ret (.r rf)),rfl,rfl⟩
 ·exact⟨Zhw,.of (v:=c_Out_word) rfl rfl (.ret (.r rf)),rfl,rfl⟩
 ·exact⟨Zhy,.of (v:=c_Swap_word) rfl rfl (.ret (.r rf)),rfl,rfl⟩
 ·exact⟨Zhu,.of (v:=c_Far_word) rfl rfl (.ret (.r rf)),rfl,rfl⟩
theorem ZgG{e:Nat}{p:Stp}(i:Rs m rs)(d:p∈stp rs.length)(h:Zx m rs.length r):Ap (rT (n+3)) s j Xv [some (pgD tk m rs),some (.tup (rs.map rwE)),jL e,jL j,jN k,some (rwE r),some (.obj p.c)] [some (pgD tk m rs),some (.tup (rs.map rwE)),jL e,jL j,jN k,some (rwE r),some (.obj p.c)] (((p.f r).map λq=>(k,p.w,q)).map tD):=by
 refine .one (.ext rfl ?_);rw[bN];refine Vg (b:=one) (en:=rwE) (g:=tD ∘ λq=>(k,p.w,q)) (l:=p.f r) (.of (x:=.tup ((p.f r).map rwE)) (.methO (xs:=[rwE r,.int (rs.length:Int)]) (.r rf) (W0 (n:=n) (s:=s) d h).2.2.1 (.cons (.r rf) (.cons ?_ .nil)) ?_) λst=>rfl) (by have:=Q2 (r:=r) d;omega) λq o=>.cons (.r rf) (.cons (.methO (xs:=[]) (.r rf) (W0 (n:=n) (s:=s) d h).2.2.2 (.r rf) ?_) (.cons (.r rf) .nil))
 ·have:=Y.lnT (F:=rT (n+3)) (s:=s) (a:=.v 1) (U:=[some (pgD tk m rs),some (.tup (rs.map rwE)),jL e,jL j,jN k,some (rwE r),some (.obj p.c)]) (xs:=rs.map rwE) (.r rf)
  rw[aB]at this;exact this
 ·exact(W0 (n:=n+1) d h).1
 ·exact(W0 (n:=n+1) d h).2.1
theorem ZeV:(fkR sz k r).length<=12:=by
 have h:∀ l:Li Stp,(∀ p∈l,(p.f r).length<=2)->(l.flatMap λp=>(p.f r).map λq=>(k,p.w,q)).length<=2 * l.length:=λl=>by
  induction l with
  |nil=>intro _;exact aD _
  |cons p l a=>
   intro h;rw[bU,aI,aB,aQ];have e:=h p lQ7;have d:=a λq b=>h q (lM7 _ b)
   omega
 exact h (stp sz) λp c=>Q2 c
theorem Zal:∀ {rs:Li Rw}{k:Nat},Xj k (rs.map rwE)=(rs.zipIdx k).map λp=>(D.int (p.2:Int),rwE p.1)
 |[],_=>rfl
 |r :: rs,k=>by
  rw[aO,Xj,Zal,List.zipIdx_cons,aO]
theorem Qs:(fkL rs).length<=12 * rs.length:=by
 have h:∀ {l:Li (Rw×Nat)},(l.flatMap λp=>fkR rs.length p.2 p.1).length<=12 * l.length:=λ{l}=>by
  induction l with
  |nil=>exact aD _
  |cons p l a=>
   rw[bU,aI,aQ];have:=ZeV (sz:=rs.length) (k:=p.2) (r:=p.1);omega
 have:=h (l:=rs.zipIdx);rw[List.length_zipIdx]at this;exact this
theorem Qa(h:Rs m rs):C (rT (n+4)) s 172 [pgD tk m rs] (.tup ((fkL rs).map tD)):=λst g=>by
 have S:=Qs (rs:=rs);have R:=h.l;have r:ex (rT (n+3)) (.set 2 (.lstE (.aC (.new 169) (.aC (.new 149) (.aC (.new 157) (.aC (.new 152) (.aC (.new 160) (.u (.new 163))))))))) [some (pgD tk m rs),some (.tup (rs.map rwE)),none,none,none,none,none] st=some (.nx [some (pgD tk m rs),some (.tup (rs.map rwE)),jL st.length,none,none,none,none],st++[(true,(stp rs.length).map λp=>.obj p.c)]):=Zn rfl
 have b:(st++[(true,(stp rs.length).map λp=>D.obj p.c)])[st.length]?=some (true,(stp rs.length).map λp=>.obj p.c):=Zv
 obtain⟨a,d⟩:∃ a,st++[(true,(stp rs.length).map λp=>D.obj p.c)]=a:=⟨_,rfl⟩
 rw[d]at r b;have g2:Grw st a:=by rw[<-d];exact .push
 have H:ex (rT (n+3)) (.set 3 (.lstE .aN)) [some (pgD tk m rs),some (.tup (rs.map rwE)),jL st.length,none,none,none,none] a=some (.nx [some (pgD tk m rs),some (.tup (rs.map rwE)),jL st.length,jL a.length,none,none,none],a++[(true,[])]):=Zn rfl;have M:=Zt b;obtain⟨B,A,e,o,Q,J,x⟩:=ZhD (F:=rT (n+3)) (s:=a) (j:=a.length) (q:=Xw) (i:=4) (i':=5) (E:=λy z w=>[some (pgD tk m rs),some (.tup (rs.map rwE)),jL st.length,jL a.length,y,z,w]) (u:=λp:Rw×Nat=>D.int (p.2:Int)) (v:=λp=>rwE p.1) (g:=λp=>(fkR rs.length p.2 p.1).map tD) (l:=rs.zipIdx) (λ_ _ _ _ _=>rfl) (aD _) (λp L w st1 acc g1 N k=>by
  have ok:Zx m rs.length p.1:=h.ok _ (List.fst_mem_of_mem_zipIdx L);obtain⟨e,G,P,I,t⟩:=ZeD (F:=rT (n+3)) (s:=a) (j:=a.length) (q:=Xv) (i:=6) (la:=st.length) (bb:=true) (E:=λw=>[some (pgD tk m rs),some (.tup (rs.map rwE)),jL st.length,jL a.length,jN p.2,some (rwE p.1),w]) (en:=λp:Stp=>D.obj p.c) (g:=λq=>((q.f p.1).map λz=>(p.2,q.w,z)).map tD) (all:=stp rs.length) (λ_ _=>rfl) (aD _) (by omega) (λq K=>ZgG h K ok) 6 0 (y:=w) rfl g1 (g1.get b) N (by rw[cF];rw[show(stp rs.length).flatMap (λq=>((q.f p.1).map λz=>(p.2,q.w,z)).map tD)=(fkR rs.length p.2 p.1).map tD from(cT ..).symm];exact k)
  rw[cF,show(stp rs.length).flatMap (λq=>((q.f p.1).map λz=>(p.2,q.w,z)).map tD)=(fkR rs.length p.2 p.1).map tD from(cT ..).symm]at t
  exact⟨_,G,⟨_,_,e,rfl⟩,(Zc ((Va (bb:=true) (xs:=(stp rs.length).map λp=>.obj p.c) rfl (g1.get b)).trans P)).trans Zh,I,t⟩) (y:=none) (z:=none) (w:=none) (.push:Grw a (a++[(true,[])])) Zv (by rw[cY,bE,<-cT,aB];show(fkL rs).length<=900;omega)
 rw[dG,<-cT]at x;have O:ex (rT (n+3)) (.forE 4 5 (.v 1) Xw) [some (pgD tk m rs),some (.tup (rs.map rwE)),jL st.length,jL a.length,none,none,none] (a++[(true,[])])=some (.nx [some (pgD tk m rs),some (.tup (rs.map rwE)),jL st.length,jL a.length,B,A,e],o):=by
  rw[<-Q,<-Zal];rfl
 refine⟨o,XE (v:=c_fakes) rfl rfl ((Zc (Zn rfl)).trans ((Zc r).trans ((Zc H).trans ((Zc O).trans (Zi (ZJ (Yf (c:=(true,(fkL rs).map tD)) rfl x))))))),?_⟩;exact g2.trans (J.grw (aD _) .push)
variable{v:Int}
section
variable{q:Rw}
theorem Ze0(h:Sm v):arI (v+1)≠v:=by
 unfold Sm at h;unfold arI;have:=Zo (v+1+1000000000) (j:=2000000000) (by decide)
 intro e;have a:=Int.mul_ediv_add_emod (v+1+1000000000) 2000000000;generalize (v+1+1000000000) / 2000000000=u at *
 omega
theorem We(h:Xg m o):∀ q∈Xn o,Xg m q/\q≠o:=λq a=>by
 cases o with
 |nm i=>cases a
 |nu v=>
  rw[aR.mp a];exact⟨WH,λe=>Ze0 h (by injection e)⟩
theorem ZfX:(∀ g∈psL,nxt psL g∈psL/\nxt psL g≠g)/\∀ g∈isL,(nxt isL g∈isL/\nxt isL g≠g)/\(cnt g∈isL/\cnt g≠g)/\nxt isL g≠cnt g:=by decide +kernel
theorem Zf2(h:Zx m sz r){p:Stp}(b:p∈stp sz):∀ q∈p.f r,Zx m sz q:=λq hq=>by
 simp only[stp,aF,aU,or_false]at b;rcases b with rfl|rfl|rfl|rfl|rfl|rfl
 ·cases r with
  |put x y g z=>rw[aR.mp hq];exact⟨h.1,h.2.1,(ZfX.1 g h.2.2.1).1,h.2.2.2⟩
  |ifr y g z t=>rw[aR.mp hq];exact⟨h.1,(ZfX.2 g h.2.1).1.1,h.2.2⟩
  |_=>cases hq
 ·cases r with
  |put x y g z=>
   rcases bP.mp hq with hq|hq
   ·obtain⟨u,a,rfl⟩:=aS.mp hq;exact⟨h.1,(We h.2.1 u a).1,h.2.2⟩
   ·obtain⟨u,a,rfl⟩:=aS.mp hq;exact⟨h.1,h.2.1,h.2.2.1,(We h.2.2.2 u a).1⟩
  |ifr y g z t=>
   rcases bP.mp hq with hq|hq
   ·obtain⟨u,a,rfl⟩:=aS.mp hq;exact⟨(We h.1 u a).1,h.2⟩
   ·obtain⟨u,a,rfl⟩:=aS.mp hq;exact⟨h.1,h.2.1,(We h.2.2.1 u a).1,h.2.2.2⟩
  |tell y=>obtain⟨u,a,rfl⟩:=aS.mp hq;exact(We h u a).1
  |_=>cases hq
 ·cases r with
  |ifr y g z t=>rw[aR.mp hq];exact⟨h.1,(ZfX.2 g h.2.1).2.1.1,h.2.2⟩
  |_=>cases hq
 ·cases r with
  |skip=>cases hq
  |_=>rw[aR.mp hq];trivial
 ·cases r with
  |put x y g z=>
   have hq:q∈if y=z then [] else [Rw.put x z g y]:=hq
   split at hq
   ·cases hq
   ·rw[aR.mp hq];exact⟨h.1,h.2.2.2,h.2.2.1,h.2.1⟩
  |ifr y g z t=>
   have hq:q∈if y=z then [] else [Rw.ifr z g y t]:=hq
   split at hq
   ·cases hq
   ·rw[aR.mp hq];exact⟨h.2.2.1,h.2.1,h.1,h.2.2.2⟩
  |_=>cases hq
 ·cases r with
  |go t=>
   have hq:q∈if sz<=t then [] else [Rw.go (t+1)]:=hq
   split at hq
   ·cases hq
   ·rw[aR.mp hq];show t+1<=sz;omega
  |ifr y g z t=>
   have hq:q∈if sz<=t then [] else [Rw.ifr y g z (t+1)]:=hq
   split at hq
   ·cases hq
   ·rw[aR.mp hq];exact⟨h.1,h.2.1,h.2.2.1,by omega⟩
  |_=>cases hq
theorem UE{p:Nat×Str×Rw}(d:Rs m rs)(h:p∈fkL rs):p.1 < rs.length/\Zx m rs.length p.2.2:=by
 obtain⟨u,b,f⟩:=dP.mp h;obtain⟨t,c,e⟩:=dP.mp f;obtain⟨q,a,rfl⟩:=aS.mp e;exact⟨by have:=List.snd_lt_of_mem_zipIdx b;simpa using this,Zf2 (d.ok _ (List.fst_mem_of_mem_zipIdx b)) c q a⟩
theorem Rs.set(a:Rs m rs)(h:Zx m rs.length q):Rs m (rs.set k q):=by
 refine⟨by rw[bJ];exact a.l,λr h'=>?_⟩
 rw[bJ];rcases eJ h' with h'|h'
 ·exact a.ok r h'
 ·rw[h'];exact h
end
mutual
theorem W4:∀ {x y:D},Zk x y=true->x=y
 |.non,.non,_=>rfl
 |.bl a,.bl b,h=>by have h:(a==b)=true:=h;rw[eq_of_beq h]
 |.int a,.int b,h=>by rw[of_decide_eq_true (p:=a=b) h]
 |.str a,.str b,h=>by rw[of_decide_eq_true (p:=a=b) h]
 |.tup a,.tup b,h=>by rw[W5 (xs:=a) (ys:=b) h]
theorem W5:∀ {xs ys:Li D},Zr xs ys=true->xs=ys
 |[],[],_=>rfl
 |x :: xs,y :: ys,h=>by
  have h:(Zk x y&&Zr xs ys)=true:=h;rw[bA7]at h;rw[W4 h.1,W5 h.2]
end
theorem ZE{a b:Str}{c ys:Li D}(h:D.tup (.str a :: c)=.tup (.str b :: ys)):a=b:=by injection h with h;injection h with h _;injection h
theorem XC{o z:Op}(h:opE o=opE z):o=z:=by
 cases o with
 |nm i=>cases z with
  |nm j=>
   have h:D.tup [.str "name",.int (i:Int)]=.tup [.str "name",.int (j:Int)]:=h
   injection h with h;injection h with _ h;injection h with h _;injection h with h;rw[Int.ofNat.inj h]
  |nu v=>exact absurd (ZE h) (by decide +kernel)
 |nu u=>cases z with
  |nm j=>exact absurd (ZE h) (by decide +kernel)
  |nu v=>
   have h:D.tup [.str "number",.int u]=.tup [.str "number",.int v]:=h
   injection h with h;injection h with _ h;injection h with h _;injection h with h;rw[h]
theorem Vt{r q:Rw}(h:rwE r=rwE q):r=q:=by
 have B:S "put"≠S "if"/\S "put"≠S "go"/\S "put"≠S "tell"/\S "put"≠S "skip"/\S "if"≠S "go"/\S "if"≠S "tell"/\S "if"≠S "skip"/\S "go"≠S "tell"/\S "go"≠S "skip"/\S "tell"≠S "skip":=by decide +kernel
 obtain⟨w,v,u,s,p,o,n,m,l,f⟩:=B;cases r with
 |put x y g z=>cases q with
  |put A a k i=>
   have h:D.tup [.str "put",.int (x:Int),opE y,.str g,opE z]=.tup [.str "put",.int (A:Int),opE a,.str k,opE i]:=h
   injection h with h;injection h with _ h;injection h with e h;injection h with d h;injection h with c h;injection h with b _;injection e with e;injection c with c
   rw[Int.ofNat.inj e,XC d,c,XC b]
  |ifr _ _ _ _=>exact absurd (ZE h) w
  |go _=>exact absurd (ZE h) v
  |tell _=>exact absurd (ZE h) u
  |skip=>exact absurd (ZE h) s
 |ifr y g z t=>cases q with
  |put _ _ _ _=>exact absurd (ZE h) w.symm
  |ifr a k i j=>
   have h:D.tup [.str "if",opE y,.str g,opE z,.int (t:Int)]=.tup [.str "if",opE a,.str k,opE i,.int (j:Int)]:=h
   injection h with h;injection h with _ h;injection h with e h;injection h with d h;injection h with c h;injection h with b _;injection b with b;injection d with d
   rw[XC e,d,XC c,Int.ofNat.inj b]
  |go _=>exact absurd (ZE h) p
  |tell _=>exact absurd (ZE h) o
  |skip=>exact absurd (ZE h) n
 |go t=>cases q with
  |put _ _ _ _=>exact absurd (ZE h) v.symm
  |ifr _ _ _ _=>exact absurd (ZE h) p.symm
  |go j=>
   have h:D.tup [.str "go",.int (t:Int)]=.tup [.str "go",.int (j:Int)]:=h
   injection h with h;injection h with _ h;injection h with h _;injection h with h;rw[Int.ofNat.inj h]
  |tell _=>exact absurd (ZE h) m
  |skip=>exact absurd (ZE h) l
 |tell y=>cases q with
  |put _ _ _ _=>exact absurd (ZE h) u.symm
  |ifr _ _ _ _=>exact absurd (ZE h) o.symm
  |go _=>exact absurd (ZE h) m.symm
  |tell a=>
   have h:D.tup [.str "tell",opE y]=.tup [.str "tell",opE a]:=h
   injection h with h;injection h with _ h;injection h with h _;rw[XC h]
  |skip=>exact absurd (ZE h) f
 |skip=>cases q with
  |put _ _ _ _=>exact absurd (ZE h) s.symm
  |ifr _ _ _ _=>exact absurd (ZE h) n.symm
  |go _=>exact absurd (ZE h) l.symm
  |tell _=>exact absurd (ZE h) f.symm
  |skip=>rfl
theorem V0:∀ {a b:Li Int},a.map D.int=b.map D.int->a=b
 |[],[],_=>rfl
 |x :: a,y :: b,h=>by
  rw[aO,aO]at h
  injection h with c d;injection c with c
  rw[c,V0 d]
mutual
theorem ZeF:∀ {n:Nat}{x:D},okD n x=true->Zk x x=true
 |_,.non,_=>rfl
 |_,.int i,_=>aL rfl
 |_,.str i,_=>aL rfl
 |n+1,.tup xs,h=>Yx (n:=n) (xs:=xs) h
 |0,.tup xs,h=>nomatch h
 |0,.bl _,h=>nomatch h
 |_+1,.bl _,h=>nomatch h
 |0,.lst _,h=>nomatch h
 |_+1,.lst _,h=>nomatch h
 |0,.dic _,h=>nomatch h
 |_+1,.dic _,h=>nomatch h
 |0,.dct _ _,h=>nomatch h
 |_+1,.dct _ _,h=>nomatch h
 |0,.obj _,h=>nomatch h
 |_+1,.obj _,h=>nomatch h
 |0,.kt _,h=>nomatch h
 |_+1,.kt _,h=>nomatch h
theorem Yx:∀ {n:Nat}{xs:Li D},ZS n xs=true->Zr xs xs=true
 |_,[],_=>rfl
 |n,x :: xs,h=>by
  have h:(okD n x&&ZS n xs)=true:=h;rw[bA7]at h;show(Zk x x&&Zr xs xs)=true;rw[ZeF h.1,Yx h.2];rfl
end
theorem Zbu(o:Op):∃ a,opE o=.tup a/\okD 8 (.tup a)=true:=by cases o<;>exact⟨_,rfl,rfl⟩
theorem UZ(r:Rw):∃ a,rwE r=.tup a/\okD 8 (.tup a)=true:=by
 cases r with
 |put x y g z=>exact⟨_,rfl,by cases y<;>cases z<;>rfl⟩
 |ifr y g z t=>exact⟨_,rfl,by cases y<;>cases z<;>rfl⟩
 |go t=>exact⟨_,rfl,rfl⟩
 |tell y=>exact⟨_,rfl,by cases y<;>rfl⟩
 |skip=>exact⟨_,rfl,rfl⟩
theorem Y.eqd(d:Y F s a U (.tup xs))(c:Y F s b U (.tup ys))(g:okD 8 (.tup xs)=true)(f:okD 8 (.tup ys)=true):Y F s (.cmp .Eq a b) U (.bl (Zr xs ys)):=.cmp d c λst=>by
 have e:eqT xs (.tup ys)=some (Zr xs ys):=if_pos (by rw[g,f];rfl)
 show(match eqT xs (.tup ys) with
  |some k=>some k
  |none=>QR st xs ys)=_
 rw[e]
open Classical in
theorem X5(a:okD 8 (.tup xs)=true):Zr xs ys=decide (xs=ys):=by
 by_cases c:xs=ys
 ·subst c;rw[aL rfl];exact Yx (n:=7) a
 ·rw[aH c]
  cases q:Zr xs ys with
  |false=>rfl
  |true=>exact absurd (W5 q) c
theorem Y.ned(d:Y F s a U (.tup xs))(c:Y F s b U (.tup ys))(g:okD 8 (.tup xs)=true)(f:okD 8 (.tup ys)=true):Y F s (.cmp .NotEq a b) U (.bl (!Zr xs ys)):=.cmp d c λst=>by
 have e:eqT xs (.tup ys)=some (Zr xs ys):=if_pos (by rw[g,f];rfl)
 show Option.map Bool.not (match eqT xs (.tup ys) with
  |some k=>some k
  |none=>QR st xs ys)=_
 rw[e];rfl
def rv(k:Nat)(vs:Li Int):Rw->Sum D (Nat×Li Int)
 |.tell y=>.inl (teD (woI vs y))
 |r=>.inr (pkN k vs r,vsN vs r)
theorem Zbf(h:rs[k]?=some r):mv rs k vs=rv k vs r:=by unfold mv;rw[h];cases r<;>rfl
def Als(m j:Nat)(r a:Rw):Prop:=∀ vs,Vs m vs->rv j vs a=rv j vs r
section
variable{a b:Int}{x:Nat}
theorem ZdR(h:Sm a):arI a=a:=by unfold Sm at h;unfold arI;omega
theorem ZeE:arI (a+arI (-b))=arI (a - b):=by unfold arI;omega
theorem YR:rkI a (S "+") b=arI (a+b):=if_pos rfl
theorem ZbH:rkI a (S "-") b=arI (a - b):=by
 unfold rkI;rw[if_neg (by decide +kernel),if_pos rfl]
theorem Vr:rkI a (S "*") b=arI (a * b):=by
 unfold rkI;rw[if_neg (by decide +kernel),if_neg (by decide +kernel),if_pos rfl]
theorem ZfE:rkI a (S "/") b=if b=0 then 0 else arI (fdI a b):=by
 unfold rkI;rw[if_neg (by decide +kernel),if_neg (by decide +kernel),if_neg (by decide +kernel),if_pos rfl]
theorem ZfF:rkI a (S "mod") b=if b=0 then a else a - b * fdI a b:=by
 unfold rkI;rw[if_neg (by decide +kernel),if_neg (by decide +kernel),if_neg (by decide +kernel),if_neg (by decide +kernel)]
theorem Zao:fdI a 1=a:=by unfold fdI;rw[if_pos (by decide),dE]
theorem ZfW(a:Vs m vs)(b:x < m)(h:v=woI vs (.nm x)):vs.set x v=vs:=by
 have c:=a.l;subst h;show vs.set x (vs.getD x 0)=vs;rw[bB,lG7 (by omega),Option.getD_some,List.set_getElem_self]
theorem QZ:soI a (S "<") b=decide (a < b):=if_pos rfl
theorem QY:soI a (S "<=") b=decide (a<=b):=by
 unfold soI;rw[if_neg (by decide +kernel),if_pos rfl]
theorem ZbS:soI a (S "=") b=decide (a=b):=by
 unfold soI;rw[if_neg (by decide +kernel),if_neg (by decide +kernel),if_pos rfl]
theorem Zej:soI a (S ">=") b=decide (b<=a):=by
 unfold soI;rw[if_neg (by decide +kernel),if_neg (by decide +kernel),if_neg (by decide +kernel),if_pos rfl]
theorem Zek:soI a (S ">") b=decide (b < a):=by
 unfold soI;rw[if_neg (by decide +kernel),if_neg (by decide +kernel),if_neg (by decide +kernel),if_neg (by decide +kernel),if_pos rfl]
theorem ZbT:soI a (S "!=") b=!decide (a=b):=by
 unfold soI;rw[if_neg (by decide +kernel),if_neg (by decide +kernel),if_neg (by decide +kernel),if_neg (by decide +kernel),if_neg (by decide +kernel)]
theorem ZdD:soI a g a=soI b g b:=by
 unfold soI;rw[aH (Int.lt_irrefl a),aH (Int.lt_irrefl b),aL (Int.le_refl a),aL (Int.le_refl b),aL (rfl:a=a),aL (rfl:b=b)]
end
def RX(F:Nat->Fn)(q:CS)(U:Env)(P:D->Prop):Prop:=∃ d,(∀ s,R F s q U d)/\P d
def CX(F:Nat->Fn)(f:Nat)(ds:Li D)(P:D->Prop):Prop:=∃ d,(∀ s,C F s f ds d)/\P d
variable{P Q:D->Prop}
section
variable{k:Bool}
theorem CX.of{v:FD}(h:T f=some v)(b:ds.length=v.ps)(a:RX (rT n) v.body (ds.map some++List.replicate (v.ns - ds.length) none) P):CX (rT (n+1)) f ds P:=by
 obtain⟨d,e,c⟩:=a;exact⟨d,λs=>.of h b (e s),c⟩
theorem RX.pick(h:∀ s,Y F s e U (.bl k))(f:k=true->RX F p U P)(c:k=false->RX F q U P):RX F (.seq (.ite e p .skip) q) U P:=by
 cases k with
 |true=>obtain⟨d,a,b⟩:=f rfl;exact⟨d,λs=>.yB (h s) (a s),b⟩
 |false=>obtain⟨d,a,b⟩:=c rfl;exact⟨d,λs=>.no (h s) (a s),b⟩
theorem RX.ret(h:∀ s,Y F s e U d)(a:P d):RX F (.seq (.ret e) q) U P:=⟨d,λs=>.ret (h s),a⟩
theorem RX.set(h:∀ s,Y F s e U d)(c:RX F q (Zf U i d) P):RX F (.seq (.set i e) q) U P:=by
 obtain⟨d,a,b⟩:=c;exact⟨d,λs=>.set (h s) (a s),b⟩
theorem CX.mono(h:CX F f ds P)(c:∀ d,P d->Q d):CX F f ds Q:=let ⟨d,a,b⟩:=h;⟨d,a,c d b⟩
theorem RX.retC(c:∀ s,Y F s a U (.tup xs))(h:CX F f (xs++ds) P):RX F (.seq (.ret (.call f a ds)) q) U P:=by
 obtain⟨d,a,b⟩:=h;exact .ret (λs=>.call (c s) (a s)) b
theorem RX.setC(e:∀ s,Y F s a U (.tup xs))(h:CX F f (xs++ds) P)(c:∀ d,P d->RX F q (Zf U i d) Q):RX F (.seq (.set i (.call f a ds)) q) U Q:=by
 obtain⟨d,a,b⟩:=h;exact .set (λs=>.call (e s) (a s)) (c d b)
theorem RX.iset{e':CE}(h:∀ s,Y F s e U (.bl k))(p:k=true->∃ d,(∀ s,Y F s e' U d)/\RX F q (Zf U i d) P)(o:k=false->RX F q U P):RX F (.seq (.ite e (.z (.set i e')) .skip) q) U P:=by
 cases k with
 |true=>
  obtain⟨v,n,d,a,b⟩:=p rfl;refine⟨d,λs st g=>?_,b⟩
  obtain⟨s1,u,c⟩:=h s st g;obtain⟨l,t,f⟩:=n s s1 (g.trans c);obtain⟨j,r,m⟩:=a s l (g.trans (c.trans f));exact⟨j,(Zc ((Z5 u).trans ((Zc (Zn t)).trans Zh))).trans r,c.trans (f.trans m)⟩
 |false=>obtain⟨d,a,b⟩:=o rfl;exact⟨d,λs=>.no (h s) (a s),b⟩
end
def V2:Op->Bool
 |.nm _=>false
 |.nu _=>true
variable{g:Str}
section
variable{k:Bool}
theorem Y.eqo{u:Op}(f:∀ s,Y F s a U (opE o))(d:∀ s,Y F s b U (opE u)):∀ s,Y F s (.cmp .Eq a b) U (.bl (decide (o=u))):=λs=>by
 obtain⟨xs,c,i⟩:=Zbu o;obtain⟨ys,g,j⟩:=Zbu u;have e:decide (o=u)=Zr xs ys:=by
  rw[X5 i];refine decide_eq_decide.mpr ⟨λh=>?_,λh=>XC (by rw[c,g,h])⟩
  rw[h,g]at c;injection c with c;exact c.symm
 have f:=f s;have d:=d s;rw[c]at f;rw[g]at d;rw[e];exact .eqd f d i j
theorem Y.eqr{o u:Rw}(f:∀ s,Y F s a U (rwE o))(d:∀ s,Y F s b U (rwE u)):∀ s,Y F s (.cmp .Eq a b) U (.bl (decide (o=u))):=λs=>by
 obtain⟨xs,c,i⟩:=UZ o;obtain⟨ys,g,j⟩:=UZ u;have e:decide (o=u)=Zr xs ys:=by
  rw[X5 i];refine decide_eq_decide.mpr ⟨λh=>?_,λh=>Vt (by rw[c,g,h])⟩
  rw[h,g]at c;injection c with c;exact c.symm
 have f:=f s;have d:=d s;rw[c]at f;rw[g]at d;rw[e];exact .eqd f d i j
def IsPut(m sz:Nat)(r:Rw)(d:D):Prop:=∃ x y g z,d=rwE (.put x y g z)/\Zx m sz (.put x y g z)/\∀ vs,Vs m vs->vsN vs (.put x y g z)=vsN vs r
def IsIf(m sz:Nat)(r:Rw)(d:D):Prop:=∃ y g z t,d=rwE (.ifr y g z t)/\Zx m sz (.ifr y g z t)/\∀ vs j,Vs m vs->pkN j vs (.ifr y g z t)=pkN j vs r
def IsRw(m sz j:Nat)(r:Rw)(d:D):Prop:=∃ a,d=rwE a/\Zx m sz a/\Als m j r a
theorem JO(y z:Op):C (rT (n+1)) s 73 [opE y,opE z] (.bl (V2 y&&V2 z)):=by
 cases y<;>cases z<;>exact .of (v:=c_are_numbers) rfl rfl (.ret (.r rf))
theorem Zd6(o u:Op):∃ k,∀ st,Zcv .Lt (opE o) (opE u) st=some k:=by
 have a:∀ (i j:Int),∃ k:Bool,(if Zk (.int i) (.int j)=true then some (decide (0 < ([]:Li D).length)) else some (decide (i < j)))=some k:=λi j=>by
  split<;>exact⟨_,rfl⟩
 cases o<;>cases u
 ·rename_i i j
  obtain⟨k,h⟩:=a i j;exact⟨k,λst=>h⟩
 ·exact⟨_,λst=>rfl⟩
 ·exact⟨_,λst=>rfl⟩
 ·rename_i i j
  obtain⟨k,h⟩:=a i j;exact⟨k,λst=>h⟩
theorem Zci{x:Nat}{y z:Op}(h:Zx m sz (.put x y g z)):CX (rT (n+2)) 75 [rwE (.put x y g z)] (IsPut m sz (.put x y g z)):=by
 obtain⟨c,b,f,e⟩:=h;have a:IsPut m sz (.put x y g z) (rwE (.put x y g z)):=⟨x,y,g,z,rfl,⟨c,b,f,e⟩,λ_ _=>rfl⟩
 cases z with
 |nm j=>exact .of (v:=c_less_as_more) rfl rfl (.pick (k:=decide (g=S "-")&&false) (λs=>.and (.eqs (.r rf) (.r rf)) λ_=>.r rf) (λq=>by rw[Bool.and_false]at q;cases q) λ_=>.ret (λs=>.r rf) a)
 |nu v=>
  refine .of (v:=c_less_as_more) rfl rfl (.pick (k:=decide (g=S "-")&&true) (λs=>.and (.eqs (.r rf) (.r rf)) λ_=>.r rf) (λq=>?_) λ_=>.ret (λs=>.r rf) a)
  rw[dL]at q;have q:=of_decide_eq_true q;refine .ret (λs=>.adT (xs:=[.str "put",.int (x:Int),opE y]) (.tkT (i:=3) (xs:=[.str "put",.int (x:Int),opE y,.str g,opE (.nu v)]) (.r rf) (.r rf) (show 3<=5 by decide)) (.cons (.r rf) (.cons (.cons (.r rf) (.cons (.call1 (g1 (.ixt (j:=1) (xs:=[.str "number",.int v]) (.r rf) (.r rf) rfl) (d:=.int (-v)) (gp λ_=>rfl)) Ym) .nil)) .nil)) (show 3+2<=100000 by decide)) ⟨x,y,S "+",.nu (arI (-v)),rfl,⟨c,b,by decide,WH⟩,λvs _=>?_⟩
  subst q;show vs.set x (rkI (woI vs y) (S "+") (arI (-v)))=vs.set x (rkI (woI vs y) (S "-") v);rw[YR,ZbH,ZeE]
end
def YB(F:Nat->Fn)(U:Env)(e:CE):Prop:=∃ k,∀ s,Y F s e U (.bl k)
section
variable{k:Bool}
theorem YB.and(d:YB F U a)(c:YB F U b):YB F U (.and a b):=let ⟨_,x⟩:=d;let ⟨_,y⟩:=c;⟨_,λs=>.and (x s) λ_=>y s⟩
theorem YB.or(d:YB F U a)(c:YB F U b):YB F U (.or a b):=let ⟨_,x⟩:=d;let ⟨_,y⟩:=c;⟨_,λs=>.or (x s) λ_=>y s⟩
theorem YB.eqs{u v:Str}(d:∀ s,Y F s a U (.str u))(c:∀ s,Y F s b U (.str v)):YB F U (.cmp .Eq a b):=⟨_,λs=>.eqs (d s) (c s)⟩
theorem YB.eqi{u v:Int}(d:∀ s,Y F s a U (.int u))(c:∀ s,Y F s b U (.int v)):YB F U (.cmp .Eq a b):=⟨_,λs=>.cmp (d s) (c s) λ_=>rfl⟩
theorem RX.pk(h:YB F U e)(b:RX F p U P)(a:RX F q U P):RX F (.seq (.ite e p .skip) q) U P:=let ⟨_,x⟩:=h;.pick x (λ_=>b) λ_=>a
theorem RX.is{a:CE}(h:YB F U e)(c:∃ d,(∀ s,Y F s a U d)/\RX F q (Zf U i d) P)(b:RX F q U P):RX F (.seq (.ite e (.z (.set i a)) .skip) q) U P:=let ⟨_,x⟩:=h;.iset x (λ_=>c) λ_=>b
theorem Zgf{x:Nat}{y z:Op}(h:Zx m sz (.put x y g z))(f:g=S "+"\/g=S "*"):CX (rT (n+2)) 74 [rwE (.put x y g z),.int 2,.int 4] (IsPut m sz (.put x y g z)):=by
 obtain⟨c,b,d,a⟩:=h;obtain⟨k,e⟩:=Zd6 z y;refine .of (v:=c_lesser_first) rfl rfl (.pick (k:=k) (λs=>.cmp (x:=opE z) (y:=opE y) (.r rf) (.r rf) e) (λ_=>?_) λ_=>.ret (λs=>.r rf) ⟨x,y,g,z,rfl,⟨c,b,d,a⟩,λ_ _=>rfl⟩)
 refine .ret (λs=>.call (xs:=[.tup [.str "put",.int (x:Int),opE z,.str g,opE z],.int 4,opE y]) (.cons (.call (xs:=[rwE (.put x y g z),.int 2,opE z]) (.r rf) (Yg (xs:=[.str "put",.int (x:Int),opE y,.str g,opE z]) (i:=2) (show 2 < 5 by decide) (show 5<=1000 by decide))) (.cons (.r rf) (.cons (.r rf) .nil))) (Yg (xs:=[.str "put",.int (x:Int),opE z,.str g,opE z]) (i:=4) (show 4 < 5 by decide) (show 5<=1000 by decide))) ⟨x,z,g,y,rfl,⟨c,a,d,b⟩,λvs _=>?_⟩
 show vs.set x (rkI (woI vs z) g (woI vs y))=vs.set x (rkI (woI vs y) g (woI vs z));rcases f with rfl|rfl
 ·rw[YR,YR,Int.add_comm]
 ·rw[Vr,Vr,Int.mul_comm]
theorem Zge{t:Nat}{y z:Op}(h:Zx m sz (.ifr y g z t))(f:g=S "="\/g=S "!="):CX (rT (n+2)) 74 [rwE (.ifr y g z t),.int 1,.int 3] (IsIf m sz (.ifr y g z t)):=by
 obtain⟨b,d,a,c⟩:=h;obtain⟨k,e⟩:=Zd6 z y;refine .of (v:=c_lesser_first) rfl rfl (.pick (k:=k) (λs=>.cmp (x:=opE z) (y:=opE y) (.r rf) (.r rf) e) (λ_=>?_) λ_=>.ret (λs=>.r rf) ⟨y,g,z,t,rfl,⟨b,d,a,c⟩,λ_ _ _=>rfl⟩)
 refine .ret (λs=>.call (xs:=[.tup [.str "if",opE z,.str g,opE z,.int (t:Int)],.int 3,opE y]) (.cons (.call (xs:=[rwE (.ifr y g z t),.int 1,opE z]) (.r rf) (Yg (xs:=[.str "if",opE y,.str g,opE z,.int (t:Int)]) (i:=1) (show 1 < 5 by decide) (show 5<=1000 by decide))) (.cons (.r rf) (.cons (.r rf) .nil))) (Yg (xs:=[.str "if",opE z,.str g,opE z,.int (t:Int)]) (i:=3) (show 3 < 5 by decide) (show 5<=1000 by decide))) ⟨z,g,y,t,rfl,⟨a,d,b,c⟩,λvs j _=>?_⟩
 show(if soI (woI vs z) g (woI vs y)=true then t else j+1)=if soI (woI vs y) g (woI vs z)=true then t else j+1
 rcases f with rfl|rfl
 ·rw[ZbS,ZbS,decide_eq_decide.mpr ⟨Eq.symm,Eq.symm⟩]
 ·rw[ZbT,ZbT,decide_eq_decide.mpr ⟨Eq.symm,Eq.symm⟩]
theorem Zgm{x:Nat}{y z:Op}(h:Zx m sz (.put x y g z)):CX (rT (n+2)) 76 [rwE (.put x y g z)] (IsPut m sz (.put x y g z)):=by
 obtain⟨a,c,f,e⟩:=h;refine .of (v:=c_without_reckoning) rfl rfl (.set (d:=opE y) (λs=>.r rf) (.set (d:=.str g) (λs=>.r rf) (.set (d:=opE z) (λs=>.r rf) (.pick (k:=(decide (g=S "*")&&decide (z=.nu 0))||((decide (g=S "mod")&&decide (z=.nu 1))||(decide (g=S "-")&&decide (y=z)))) (λs=>.or (.and (.eqs (.r rf) (.r rf)) λ_=>Y.eqo (o:=z) (u:=.nu 0) (λs=>.r rf) (λs=>.r rf) s) λ_=>.or (.and (.eqs (.r rf) (.r rf)) λ_=>Y.eqo (o:=z) (u:=.nu 1) (λs=>.r rf) (λs=>.r rf) s) λ_=>.and (.eqs (.r rf) (.r rf)) λ_=>Y.eqo (o:=y) (u:=z) (λs=>.r rf) (λs=>.r rf) s) (λq=>?_) λ_=>.pick (k:=(decide (S "*"=g)||(decide (S "/"=g)||false))&&decide (z=.nu 1)) (λs=>.and (.cmp (x:=.str g) (.r rf) (.r rf) λst=>rfl) λ_=>Y.eqo (o:=z) (u:=.nu 1) (λs=>.r rf) (λs=>.r rf) s) (λq=>?_) λ_=>.ret (λs=>.r rf) ⟨x,y,g,z,rfl,⟨a,c,f,e⟩,λ_ _=>rfl⟩))))
 ·refine .ret (λs=>.r rf) ⟨x,.nu 0,S "+",.nu 0,rfl,⟨a,⟨by decide,by decide⟩,by decide,⟨by decide,by decide⟩⟩,λvs _=>?_⟩
  show vs.set x (rkI 0 (S "+") 0)=vs.set x (rkI (woI vs y) g (woI vs z));have b:rkI 0 (S "+") 0=0:=YR;rw[bT,bT,bA7,bA7,bA7,bA,bA,bA,bA,bA,bA]at q;rcases q with⟨rfl,rfl⟩|⟨rfl,rfl⟩|⟨rfl,rfl⟩
  ·rw[b,Vr]
   show vs.set x 0=vs.set x (arI (_ * 0));rw[Int.mul_zero];rfl
  ·rw[b,ZfF]
   show vs.set x 0=vs.set x (if (1:Int)=0 then _ else _ - 1 * fdI _ 1);rw[if_neg (by decide),Zao,Int.one_mul,Int.sub_self]
  ·rw[b,ZbH,Int.sub_self];rfl
 ·refine .ret (λs=>.r rf) ⟨x,y,S "+",.nu 0,rfl,⟨a,c,by decide,⟨by decide,by decide⟩⟩,λvs _=>?_⟩
  show vs.set x (rkI (woI vs y) (S "+") 0)=vs.set x (rkI (woI vs y) g (woI vs z));rw[cV,bA7,bT,bA,bA,bA]at q;rcases q with⟨rfl|rfl,rfl⟩
  ·rw[YR,Vr,Int.add_zero]
   show _=vs.set x (arI (_ * 1));rw[Int.mul_one]
  ·rw[YR,ZfE,Int.add_zero]
   show _=vs.set x (if (1:Int)=0 then 0 else arI (fdI _ 1));rw[if_neg (by decide),Zao]
theorem IsPut.rw{x j:Nat}{y z:Op}(h:IsPut m sz (.put x y g z) d):IsRw m sz j (.put x y g z) d:=let ⟨_,_,_,_,a,b,c⟩:=h;⟨_,a,b,λvs e=>congrArg (λw=>Sum.inr (j+1,w)) (c vs e)⟩
theorem IsIf.rw{t j:Nat}{y z:Op}(h:IsIf m sz (.ifr y g z t) d):IsRw m sz j (.ifr y g z t) d:=let ⟨_,_,_,_,a,b,c⟩:=h;⟨_,a,b,λvs e=>congrArg (λw=>Sum.inr (w,vs)) (c vs j e)⟩
theorem IsRw.tr{j:Nat}{e:Rw}(h:IsRw m sz j e d)(g:Als m j r e):IsRw m sz j r d:=let ⟨_,a,b,c⟩:=h;⟨_,a,b,λvs f=>(c vs f).trans (g vs f)⟩
theorem Zet{x j:Nat}{y z:Op}(h:Zx m sz (.put x y g z)):CX (rT (n+4)) 77 [rwE (.put x y g z)] (IsRw m sz j (.put x y g z)):=by
 have p:∀ {x:Nat}{y z:Op}{g:Str},Zx m sz (.put x y g z)->RX (rT (n+3)) (.seq (.set 0 (.call 76 (.u (.v 0)) []))
 (.seq (.ite (.cmp .Eq (.v 0) (.tupE (.aC (.t "put") (.aC (.ix (.v 0) (.i 1)) (.aC (.tupE (.aC (.t "name") (.u (.ix (.v 0) (.i 1))))) (.aC (.t "+") (.u (.c (.tup [(.str "number"),(.int 0)]))))))))) (.z (.ret (.c (.tup [(.str "skip")])))) .skip)
 (.z (.ret (.v 0))))) [some (rwE (.put x y g z))] (IsRw m sz j (.put x y g z)):=λ{x y z g} h=>by
  refine .setC (xs:=[rwE (.put x y g z)]) (λs=>.r rf) (Zgm h) λd ⟨f,D,g2,B,L,I,R⟩=>?_
  subst L;have A:Als m j (.put x y g z) (.put f D g2 B):=λvs l=>congrArg (λw=>Sum.inr (j+1,w)) (R vs l)
  refine .pick (k:=decide (Rw.put f D g2 B=.put f (.nm f) (S "+") (.nu 0))) (λs=>Y.eqr (o:=.put f D g2 B) (u:=.put f (.nm f) (S "+") (.nu 0)) (λs=>.r rf) (λs=>.r rf) s) (λq=>?_) λ_=>.ret (λs=>.r rf) ⟨_,rfl,I,A⟩
  refine .ret (λs=>.r rf) ⟨.skip,rfl,trivial,λvs l=>(A vs l).symm.symm ▸ ?_⟩
  rw[of_decide_eq_true q];show Sum.inr (j+1,vs)=Sum.inr (j+1,vs.set f (rkI (woI vs (.nm f)) (S "+") 0));rw[YR,Int.add_zero,ZdR (WY (o:=.nm f) l I.1),ZfW l I.1 rfl]
 have V:=h;obtain⟨T,H,hg,G⟩:=V;refine .of (v:=c_made_put) rfl rfl (.pick (k:=V2 y&&V2 z) (λs=>.call (xs:=[opE y,opE z]) (.r rf) (JO y z)) (λq=>?_) λ_=>?_)
 ·cases y with
  |nm _=>cases q
  |nu a=>cases z with
   |nm _=>cases q
   |nu b=>
    refine .ret (λs=>.cons (.r rf) (.cons (.r rf) (.cons (.cons (.r rf) (.cons (.call (xs:=[.int a,.str g,.int b]) (.r rf) (Zgi H G)) .nil)) (.cons (.r rf) (.cons (.r rf) .nil))))) ⟨.put x (.nu (rkI a g b)) (S "+") (.nu 0),rfl,⟨T,ZbG H G,by decide,⟨by decide,by decide⟩⟩,λvs _=>?_⟩
    show Sum.inr (j+1,vs.set x (rkI (rkI a g b) (S "+") 0))=Sum.inr (j+1,vs.set x (rkI a g b));rw[YR,Int.add_zero,ZdR (ZbG H G)]
 ·refine .setC (xs:=[rwE (.put x y g z)]) (λs=>.r rf) (Zci h) λd ⟨F,E,g1,C,M,O,N⟩=>?_
  subst M;have A:Als m j (.put x y g z) (.put F E g1 C):=λvs l=>congrArg (λw=>Sum.inr (j+1,w)) (N vs l)
  have go:∀ (k:Bool),Yy g1 [.str "+",.str "*"]=some k->(k=true->g1=S "+"\/g1=S "*")->RX (rT (n+3)) _ _ _:=λk M L=>.iset (k:=k) (i:=0) (e:=.cmp .In (.ix (.v 0) (.i 3)) (.tupE (.aC (.t "+") (.u (.t "*"))))) (e':=.call 74 (.aC (.v 0) (.aC (.i 2) (.u (.i 4)))) []) (U:=[some (rwE (.put F E g1 C))]) (P:=IsRw m sz j (.put x y g z)) (λs=>.cmp (x:=.str g1) (y:=.tup [.str "+",.str "*"]) (.r rf) (.r rf) λst=>M) (λq=>by
    obtain⟨d,W,x3,y3,g3,Z,rfl,X,Q⟩:=Zgf (n:=n+1) O (L q);obtain⟨d,K,J⟩:=p X;exact⟨_,λs=>.call (xs:=[rwE (.put F E g1 C),.int 2,.int 4]) (.r rf) (W s),d,K,J.tr λvs l=>congrArg (λw=>Sum.inr (j+1,w)) ((Q vs l).trans (N vs l))⟩) λ_=>by
    obtain⟨d,K,J⟩:=p O;exact⟨d,K,J.tr A⟩
  exact go (decide (S "+"=g1)||(decide (S "*"=g1)||false)) rfl λq=>by
   rw[bT,bA,cV,bA]at q;exact q.imp Eq.symm Eq.symm
end
section
variable{k:Bool}
def opV:Op->Int
 |.nm i=>i
 |.nu v=>v
theorem Zgy{a b:Int}:decide (a - 1 < b)=decide (a<=b):=decide_eq_decide.mpr ⟨λh=>by omega,λh=>by omega⟩
theorem Zgz{a b:Int}:decide (a < b+1)=decide (a<=b):=decide_eq_decide.mpr ⟨λh=>by omega,λh=>by omega⟩
theorem Zgd{t:Nat}{y z:Op}(h:Zx m sz (.ifr y g z t)):CX (rT (n+1)) 78 [rwE (.ifr y g z t)] (IsIf m sz (.ifr y g z t)):=by
 obtain⟨b,d,a,c⟩:=h;refine .of (v:=c_greater_as_less) rfl rfl (.pick (λs=>.eqs (.r rf) (.r rf)) (λq=>.ret (λs=>.r rf) ⟨z,S "<",y,t,rfl,⟨a,by decide,b,c⟩,λvs j _=>?_⟩) λ_=>.pick (λs=>.eqs (.r rf) (.r rf)) (λq=>.ret (λs=>.r rf) ⟨z,S "<=",y,t,rfl,⟨a,by decide,b,c⟩,λvs j _=>?_⟩) λ_=>.ret (λs=>.r rf) ⟨y,g,z,t,rfl,⟨b,d,a,c⟩,λ_ _ _=>rfl⟩)
 ·cases of_decide_eq_true q
  show(if soI (woI vs z) (S "<") (woI vs y)=true then t else j+1)=if soI (woI vs y) (S ">") (woI vs z)=true then t else j+1
  rw[QZ,Zek]
 ·cases of_decide_eq_true q
  show(if soI (woI vs z) (S "<=") (woI vs y)=true then t else j+1)=if soI (woI vs y) (S ">=") (woI vs z)=true then t else j+1
  rw[QY,Zej]
theorem Zcg{t:Nat}{y z:Op}:C (rT (n+2)) s 79 [rwE (.ifr y g z t)] (.bl ((V2 y&&V2 z)||decide (y=z))):=
 .of (v:=c_is_settled) rfl rfl (.ret (.or (.call (xs:=[opE y,opE z]) (.r rf) (JO y z)) λ_=>Y.eqo (o:=y) (u:=z) (λs=>.r rf) (λs=>.r rf) s))
theorem Jd{t j:Nat}{y z:Op}(h:Zx m sz (.ifr y g z t))(d:((V2 y&&V2 z)||decide (y=z))=true):CX (rT (n+2)) 80 [rwE (.ifr y g z t)] (IsRw m sz j (.ifr y g z t)):=by
 obtain⟨o,p,l,f⟩:=h;have c:∀ s,Y (rT (n+1)) s (.call 4 (.aC (.ix (.ix (.v 0) (.i 1)) (.i 1)) (.aC (.ix (.v 0) (.i 2)) (.u (.ix (.ix (.v 0) (.i 3)) (.i 1))))) []) [some (rwE (.ifr y g z t)),none] (.bl (soI (opV y) g (opV z))):=λs=>by
  cases y<;>cases z<;>exact .call (.r rf) Zgk
 have e:∀ vs,soI (woI vs y) g (woI vs z)=soI (opV y) g (opV z):=λvs=>by
  rw[bT,bA]at d;rcases d with d|rfl
  ·cases y with
   |nm _=>cases d
   |nu a=>cases z with
    |nm _=>cases d
    |nu b=>rfl
  ·exact ZdD
 refine .of (v:=c_settled) rfl rfl (.set c ?_);cases q:soI (opV y) g (opV z) with
 |true=>exact .ret (λs=>.ife (k:=true) (.r rf) (.r rf)) ⟨.go t,rfl,f,λvs _=>by show Sum.inr (t,vs)=Sum.inr (if soI (woI vs y) g (woI vs z)=true then t else j+1,vs);rw[e,q,if_pos rfl]⟩
 |false=>exact .ret (λs=>.ife (k:=false) (.r rf) (.r rf)) ⟨.skip,rfl,trivial,λvs _=>by show Sum.inr (j+1,vs)=Sum.inr (if soI (woI vs y) g (woI vs z)=true then t else j+1,vs);rw[e,q,if_neg (by decide)]⟩
theorem Zgg{t:Nat}{y z:Op}(h:Zx m sz (.ifr y g z t)):CX (rT (n+1)) 81 [rwE (.ifr y g z t)] (IsIf m sz (.ifr y g z t)):=by
 obtain⟨l,w,f,o⟩:=h;have b:IsIf m sz (.ifr y g z t) (rwE (.ifr y g z t)):=⟨y,g,z,t,rfl,⟨l,w,f,o⟩,λ_ _ _=>rfl⟩
 have a:g=S "<="->RX (rT n) (.seq (.ite (.and (.cmp .Eq (.ix (.v 1) (.i 0)) (.t "number")) (.cmp .Gt (.ix (.v 1) (.i 1)) (.i (-1000000000)))) (.z (.ret (.tupE (.aC (.t "if") (.aC (.tupE (.aC (.t "number") (.u (.bin .Sub (.ix (.v 1) (.i 1)) (.i 1))))) (.aC (.t "<") (.aC (.v 2) (.u (.ix (.v 0) (.i 4)))))))))) .skip)
 (.z (.ret (.v 0)))) [some (rwE (.ifr y g z t)),some (opE y),some (opE z)] (IsIf m sz (.ifr y g z t)):=λe=>by
  cases y with
  |nm i=>exact .pick (k:=false) (λs=>.and (k:=false) (m:=false) (.r rf) λq=>nomatch q) (λq=>nomatch q) λ_=>.ret (λs=>.r rf) b
  |nu v=>
   refine .pick (k:=true&&decide (-1000000000 < v)) (λs=>.and (.r rf) λ_=>.cmp (x:=.int v) (y:=.int (-1000000000)) (.r rf) (.r rf) λ_=>rfl) (λq=>?_) λ_=>.ret (λs=>.r rf) b
   have q:-1000000000 < v:=of_decide_eq_true (by rwa [dD]at q)
   have p:Sm v:=l;refine .ret (λs=>.r rf) ⟨.nu (v - 1),S "<",z,t,rfl,⟨(show Sm (v - 1) by unfold Sm at *;omega),by decide,f,o⟩,λvs j _=>?_⟩
   subst e;show(if soI (v - 1) (S "<") (woI vs z)=true then t else j+1)=if soI v (S "<=") (woI vs z)=true then t else j+1
   rw[QZ,QY,Zgy]
 refine .of (v:=c_most_as_less) rfl rfl (.set (d:=opE y) (λs=>.r rf) (.set (d:=opE z) (λs=>.r rf) (.pick (k:=!decide (g=S "<=")) (λs=>.cmp (x:=.str g) (y:=.str "<=") (.r rf) (.r rf) λ_=>rfl) (λ_=>.ret (λs=>.r rf) b) λq=>?_)))
 have e:g=S "<=":=of_decide_eq_true (by cases c:decide (g=S "<=") with|true=>rfl|false=>rw[c]at q;cases q)
 cases z with
 |nm i=>exact .pick (k:=false) (λs=>.and (k:=false) (m:=false) (.r rf) λq=>nomatch q) (λq=>nomatch q) λ_=>a e
 |nu v=>
  refine .pick (k:=true&&decide (v < 999999999)) (λs=>.and (.r rf) λ_=>.cmp (x:=.int v) (y:=.int 999999999) (.r rf) (.r rf) λ_=>rfl) (λq=>?_) λ_=>a e
  have q:v < 999999999:=of_decide_eq_true (by rwa [dD]at q)
  have p:Sm v:=f;refine .ret (λs=>.r rf) ⟨y,S "<",.nu (v+1),t,rfl,⟨l,by decide,(show Sm (v+1) by unfold Sm at *;omega),o⟩,λvs j _=>?_⟩
  subst e;show(if soI (woI vs y) (S "<") (v+1)=true then t else j+1)=if soI (woI vs y) (S "<=") v=true then t else j+1
  rw[QZ,QY,Zgz]
theorem Zgh{t j:Nat}{y z:Op}(h:Zx m sz (.ifr y g z t)):CX (rT (n+3)) 82 [rwE (.ifr y g z t),.int (j:Int)] (IsRw m sz j (.ifr y g z t)):=by
 refine .of (v:=c_made_if) rfl rfl (.pick (k:=decide ((t:Int)=(j:Int)+1)) (λs=>.cmp (x:=.int (t:Int)) (y:=.int ((j:Int)+1)) (.r rf) (.add (.r rf) (.r rf)) λ_=>rfl) (λq=>?_) λ_=>?_)
 ·have q:=of_decide_eq_true q
  refine .ret (λs=>.r rf) ⟨.skip,rfl,trivial,λvs _=>?_⟩
  show Sum.inr (j+1,vs)=Sum.inr (if soI (woI vs y) g (woI vs z)=true then t else j+1,vs)
  rw[show t=j+1 by omega];split<;>rfl
 ·refine .setC (xs:=[rwE (.ifr y g z t)]) (λs=>.r rf) (Zgd h) λd ⟨b,g1,a,c,B,o,C⟩=>?_
  subst B;have D:Als m j (.ifr y g z t) (.ifr b g1 a c):=λvs l=>congrArg (λw=>Sum.inr (w,vs)) (C vs j l)
  have f:∀ {t:Nat}{y z:Op}{g:Str},Zx m sz (.ifr y g z t)->RX (rT (n+2)) (.z (.ret (.call 81 (.u (.v 0)) []))) [some (rwE (.ifr y g z t)),jN j] (IsRw m sz j (.ifr y g z t)):=λ{t y z g} h=>.retC (xs:=[rwE (.ifr y g z t)]) (λs=>.r rf) ((Zgg h).mono λ_=>IsIf.rw)
  refine .pick (λs=>.call (xs:=[rwE (.ifr b g1 a c)]) (.r rf) Zcg) (λq=>.retC (xs:=[rwE (.ifr b g1 a c)]) (λs=>.r rf) ((Jd o q).mono λ_ w=>w.tr D)) λ_=>?_
  have go:∀ (k:Bool),Yy g1 [.str "=",.str "!="]=some k->(k=true->g1=S "="\/g1=S "!=")->RX (rT (n+2)) _ _ _:=λk B H=>.iset (k:=k) (i:=0) (e:=.cmp .In (.ix (.v 0) (.i 2)) (.tupE (.aC (.t "=") (.u (.t "!="))))) (e':=.call 74 (.aC (.v 0) (.aC (.i 1) (.u (.i 3)))) []) (U:=[some (rwE (.ifr b g1 a c)),jN j]) (P:=IsRw m sz j (.ifr y g z t)) (λs=>.cmp (x:=.str g1) (y:=.tup [.str "=",.str "!="]) (.r rf) (.r rf) λst=>B) (λq=>by
    obtain⟨d,F,J,L,I,K,rfl,G,E⟩:=Zge (n:=n) o (H q);obtain⟨d,A,p⟩:=f G;exact⟨_,λs=>.call (xs:=[rwE (.ifr b g1 a c),.int 1,.int 3]) (.r rf) (F s),d,A,p.tr λvs l=>congrArg (λw=>Sum.inr (w,vs)) ((E vs j l).trans (C vs j l))⟩) λ_=>by
    obtain⟨d,A,p⟩:=f o;exact⟨d,A,p.tr D⟩
  exact go (decide (S "="=g1)||(decide (S "!="=g1)||false)) rfl λq=>by
   rw[bT,bA,cV,bA]at q;exact q.imp Eq.symm Eq.symm
theorem JN{j:Nat}(h:Zx m sz r):CX (rT (n+5)) 83 [rwE r,.int (j:Int)] (IsRw m sz j r):=by
 have go:∀ (r:Rw),Zx m sz r->RX (rT (n+4)) (.seq (.ite (.cmp .Eq (.v 0) (.tupE (.aC (.t "go") (.u (.bin .Add (.v 1) (.i 1)))))) (.z (.ret (.c (.tup [(.str "skip")])))) .skip)
 (.z (.ret (.v 0)))) [some (rwE r),jN j] (IsRw m sz j r):=λr h=>.pick (k:=decide (r=.go (j+1))) (λs=>Y.eqr (o:=r) (u:=.go (j+1)) (λs=>.r rf) (λs=>by
   show Y _ _ _ _ (.tup [.str "go",.int ((j+1:Nat):Int)]);rw[bF];exact .cons (.r rf) (.cons (.add (.r rf) (.r rf)) .nil)) s) (λq=>by cases of_decide_eq_true q;exact .ret (λs=>.r rf) ⟨.skip,rfl,trivial,λ_ _=>rfl⟩) λ_=>.ret (λs=>.r rf) ⟨r,rfl,h,λ_ _=>rfl⟩
 cases r with
 |put x y g z=>exact .of (v:=c_made_row) rfl rfl (.pick (k:=true) (λs=>.r rf) (λ_=>.retC (xs:=[rwE (.put x y g z)]) (λs=>.r rf) (Zet h)) λq=>nomatch q)
 |ifr y g z t=>exact .of (v:=c_made_row) rfl rfl (.pick (k:=false) (λs=>.r rf) (λq=>nomatch q) λ_=>.pick (k:=true) (λs=>.r rf) (λ_=>.retC (xs:=[rwE (.ifr y g z t),.int (j:Int)]) (λs=>.r rf) (Zgh h)) λq=>nomatch q)
 |go t=>exact .of (v:=c_made_row) rfl rfl (.pick (k:=false) (λs=>.r rf) (λq=>nomatch q) λ_=>.pick (k:=false) (λs=>.r rf) (λq=>nomatch q) λ_=>go _ h)
 |tell y=>exact .of (v:=c_made_row) rfl rfl (.pick (k:=false) (λs=>.r rf) (λq=>nomatch q) λ_=>.pick (k:=false) (λs=>.r rf) (λq=>nomatch q) λ_=>go _ h)
 |skip=>exact .of (v:=c_made_row) rfl rfl (.pick (k:=false) (λs=>.r rf) (λq=>nomatch q) λ_=>.pick (k:=false) (λs=>.r rf) (λq=>nomatch q) λ_=>go _ h)
end
variable{t:Bool}
section
variable{k:Bool}
open Classical in
theorem Ze8{α:Type}{b:D->Li (Ot D)}{en:α->D}{l:Li α}{P:α->D->Prop}(j:∀ s,Wk F s it U wk (l.map en))(i:l.length<=1000)(h:∀ a∈l,∃ d,(∀ s,Y F s elt (ZU b U fr (en a)) d)/\P a d):∃ g:α->D,(∀ s,Lv s (Ye b wk fr (ev F it) (ev F elt) (ev F (.c (.bl true))) U) (l.map g))/\∀ a∈l,P a (g a):=by
 have f:∀ a (e:a∈l),(if h':a∈l then Classical.choose (h a h') else D.non)=Classical.choose (h a e):=λa e=>dif_pos e
 refine⟨λa=>if h':a∈l then Classical.choose (h a h') else .non,λs=>QE (j s) i λa e=>?_,λa e=>?_⟩
 ·show Y F s elt (ZU b U fr (en a)) (if h':a∈l then Classical.choose (h a h') else D.non)
  rw[f a e];exact(Classical.choose_spec (h a e)).1 s
 ·show P a (if h':a∈l then Classical.choose (h a h') else D.non)
  rw[f a e];exact(Classical.choose_spec (h a e)).2
theorem Y.tof(b:s[j]?=some (t,xs))(h:Y F s e U (.lst j)):Y F s (.tOf e) U (.tup xs):=λst g=>by
 obtain⟨s1,c,a⟩:=h st g;exact⟨s1,Yf c ((g.trans a).get b),a⟩
theorem Lv.tof(h:Lv s (ev F e U) xs):Y F s (.tOf e) U (.tup xs):=λst g=>by
 obtain⟨s1,j,b,d,c,a⟩:=h st g;exact⟨s1,Yf d c,a⟩
def enm{α:Type}:Nat->Li α->Li (Nat×α)
 |_,[]=>[]
 |k,x :: xs=>(k,x) :: enm (k+1) xs
theorem W7{α:Type}:∀ {k:Nat}{l:Li α},(enm k l).length=l.length
 |_,[]=>rfl
 |k,_ :: l=>by show(enm (k+1) l).length+1=_;rw[W7];rfl
theorem W8{α:Type}{x:Nat×α}:∀ {k:Nat}{l:Li α},x∈enm k l->x.2∈l
 |k,y :: l,h=>by
  rcases aF.mp (show x∈(k,y) :: enm (k+1) l from h) with rfl|h
  ·exact lQ7
  ·exact lM7 _ (W8 h)
theorem Qq{α:Type}{f:α->D}:∀ {k:Nat}{l:Li α},YG k (l.map f)=(enm k l).map λp=>.tup [.int (p.1:Int),f p.2]
 |_,[]=>rfl
 |k,x :: l=>by show _ :: YG (k+1) (l.map f)=_;rw[Qq];rfl
theorem Qp{α:Type}:∀ {k i:Nat}{l:Li α},(enm k l)[i]?=(l[i]?).map λx=>(k+i,x)
 |_,_,[]=>rfl
 |k,0,x :: l=>rfl
 |k,i+1,x :: l=>by show(enm (k+1) l)[i]?=(l[i]?).map _;rw[Qp,show k+1+i=k+(i+1) by omega]
theorem QW:∀ {ys:Li D},(∀ d∈ys,∃ r,d=rwE r)->∃ rs:Li Rw,ys=rs.map rwE
 |[],_=>⟨[],rfl⟩
 |y :: ys,h=>by
  obtain⟨r,rfl⟩:=h y lQ7;obtain⟨rs,rfl⟩:=QW λd a=>h d (lM7 _ a)
  exact⟨r :: rs,rfl⟩
def Mds(m:Nat)(rs a:Li Rw):Prop:=a.length=rs.length/\∀ (k:Nat) r r',rs[k]?=some r->a[k]?=some r'->Als m k r r'
theorem JM(y:∀ r∈rs,Zx m sz r)(z:rs.length<=1000):CX (rT (n+6)) 106 [pgD tk m rs] (λd=>∃ a:Li Rw,d=pgD tk m a/\Mds m rs a):=by
 obtain⟨g,t,f⟩:=Ze8 (F:=rT (n+5)) (U:=[some (pgD tk m rs),none]) (b:=two) (wk:=Uh) (fr:=[]) (it:=.ix (.v 0) (.i 2)) (elt:=.call 83 (.aC (.v 1) (.u (.v 0))) []) (en:=λp:Nat×Rw=>.tup [.int (p.1:Int),rwE p.2]) (l:=enm 0 rs) (P:=λp d=>IsRw m sz p.1 p.2 d)
  (λs=>.of (x:=.tup (rs.map rwE)) (.r rf) λst=>by show some (YG 0 (rs.map rwE),_)=_;rw[Qq]) (by rw[W7];exact z) (λp f=>by
   obtain⟨d,c,o⟩:=JN (n:=n) (j:=p.1) (y _ (W8 f));exact⟨d,λs=>.call (xs:=[rwE p.2,.int (p.1:Int)]) (.r rf) (c s),o⟩)
 obtain⟨a,e⟩:=QW (ys:=(enm 0 rs).map g) λd B=>by obtain⟨p,c,rfl⟩:=aS.mp B;obtain⟨h,e,_⟩:=f p c;exact⟨h,e⟩
 have w:a.length=rs.length:=by
  have:=congrArg List.length e;rw[aB,aB,W7]at this;exact this.symm
 refine⟨pgD tk m a,λs=>?_,a,rfl,w,λk r h c o=>?_⟩
 ·rw[e]at t
  exact .of (v:=c_made) rfl rfl (.setL (e:=VO) (t s) λE j b _ A=>.ret (.cons (.r rf) (.cons (.r rf) (.cons (.tof A (.r rf)) .nil))))
 ·have q:(enm 0 rs)[k]?=some (k,r):=by rw[Qp,c,bE];rfl
  obtain⟨G,D,_,C⟩:=f _ (aW q);have:((enm 0 rs).map g)[k]?=some (rwE h):=by rw[e,aV,o];rfl
  rw[aV,q]at this
  injection this with this
  rw[D]at this;rw[<-Vt this];exact C
end
def woN(c i:Nat):Nat:=c - (c &&& 2 ^ i)
theorem Zcp{a k:Nat}:decide (((a &&& 2 ^ k:Nat):Int)=0)=!a.testBit k:=by
 have:(a &&& 2 ^ k=0)↔a.testBit k=false:=by
  constructor
  ·intro h
   have:=congrArg (λz=>z.testBit k) h
   simp only[Nat.testBit_and,Nat.testBit_two_pow_self,dL,Nat.zero_testBit]at this;exact this
  ·intro h
   refine Nat.eq_of_testBit_eq λi=>?_
   rw[Nat.testBit_and,Nat.testBit_two_pow,Nat.zero_testBit];by_cases c:k=i
   ·rw[<-c,h];rfl
   ·rw[aH c,Bool.and_false]
 cases q:a.testBit k with
 |false=>rw[aL (by rw[this.mpr q];rfl)];rfl
 |true=>rw[aH (λh=>by have:=this.mp (Int.ofNat.inj h);rw[q]at this;cases this)];rfl
variable{E:Ot D->Env}
variable{it:CE}{i':Nat}{u:Ot Rw}
section
variable{c:Nat}{o:Ot Rw}
theorem Y.band(e:Y F s a U (.int (c:Int)))(d:Y F s b U (.int (k:Int))):Y F s (.bin .BitAnd a b) U (.int ((c &&& k:Nat):Int)):=.bi e d (by
 show(if 0<=(c:Int)/\0<=(k:Int) then some (((c:Int).toNat &&& (k:Int).toNat:Nat):Int) else if 0<=(c:Int)/\(k:Int) < 0 then some ((c:Int) - (((c:Int).toNat &&& (-(k:Int) - 1).toNat:Nat):Int)) else none)=_
 rw[if_pos ⟨eB _,eB _⟩,aZ,aZ])
theorem Y.bor(e:Y F s a U (.int (c:Int)))(d:Y F s b U (.int (k:Int))):Y F s (.bin .BitOr a b) U (.int ((c ||| k:Nat):Int)):=.bi e d (by
 show(if 0<=(c:Int)/\0<=(k:Int) then some (((c:Int).toNat ||| (k:Int).toNat:Nat):Int) else none)=_
 rw[if_pos ⟨eB _,eB _⟩,aZ,aZ])
theorem Zer(a:k<=60):C (rT (n+2)) s 114 [.int (c:Int),.int (k:Int)] (.bl (c.testBit k)):=
 .of (v:=c_has_bit) rfl rfl (.ret (.cmp (.band (.r rf) (.call1 (.r rf) (U8 a))) (.r rf) λst=>by
  show(some (decide (((c &&& 2 ^ k:Nat):Int)=0))).map Bool.not=_;rw[Zcp];show some (!!c.testBit k)=_;rw[Bool.not_not]))
theorem Zhr{v:Nat}:J4 .BitAnd (c:Int) (-(v:Int) - 1)=some ((c - (c &&& v):Nat):Int):=by
 have a:c &&& v<=c:=Nat.and_le_left;show(if 0<=(c:Int)/\0<=-(v:Int) - 1 then some (((c:Int).toNat &&& (-(v:Int) - 1).toNat:Nat):Int) else if 0<=(c:Int)/\-(v:Int) - 1 < 0 then some ((c:Int) - (((c:Int).toNat &&& (-(-(v:Int) - 1) - 1).toNat:Nat):Int)) else none)=_
 rw[if_neg (by omega),if_pos (by omega),aZ,show(-(-(v:Int) - 1) - 1).toNat=v by omega,Int.ofNat_sub a]
theorem Zgl(a:k<=60):C (rT (n+2)) s 57 [.int (c:Int),.int (k:Int)] (.int ((woN c k:Nat):Int)):=
 .of (v:=c_without_bit) rfl rfl (.ret (.bi (i:=(c:Int)) (j:=-((2 ^ k:Nat):Int) - 1) (.r rf) (g1 (.call1 (.r rf) (U8 a)) (gp λ_=>rfl)) Zhr))
theorem Zeq(a:k<=60):C (rT (n+2)) s 56 [.int (k:Int)] (.int ((2 ^ k - 1:Nat):Int)):=by
 refine .of (v:=c_all_bits) rfl rfl (.ret ?_);rw[Int.ofNat_sub (Nat.one_le_two_pow)];exact .sub (.call1 (.r rf) (U8 a)) (.r rf)
def Bs(F:Nat->Fn)(s:Za)(q:CS)(U:Env)(o:Ot D):Prop:=∀ st,Grw s st->∃ st',ex F q U st=some (match o with|some d=>.rt d|none=>.nx U,st')/\Grw st st'
theorem Bs.skip:Bs F s .skip U none:=λst _=>⟨st,rfl,.refl⟩
theorem Bs.ite{o:Ot D}(h:Y F s e U (.bl t))(l:t=true->Y F s a U d)(k:t=false->Bs F s q U o):Bs F s (.seq (.ite e (.z (.ret a)) .skip) q) U (if t=true then some d else o):=λst g=>by
 obtain⟨s1,j,b⟩:=h st g;cases t with
 |true=>
  obtain⟨c,i,f⟩:=l rfl s1 (g.trans b);exact⟨c,Zi ((Z5 j).trans (Zi (ZJ i))),b.trans f⟩
 |false=>
  obtain⟨c,i,f⟩:=k rfl s1 (g.trans b);exact⟨c,(Zc ((Yu j).trans Zh)).trans i,b.trans f⟩
def skR{α:Type}(f:α->Ot D):Li α->Ot D
 |[]=>none
 |x :: l=>match f x with
  |some d=>some d
  |none=>skR f l
theorem ZfY{α:Type}{en:α->D}{f:α->Ot D}{E:Ot D->Env}(c:∀ y d,Zf (E y) i d=E (some d)):∀ {l:Li α},(∀ x∈l,Bs F s q (E (some (en x))) (f x))->∀ {y:Ot D}{st:Za},Grw s st->∃ a st',Zj (λd U s=>ex F q (Zf U i d) s) (l.map en) (E y) st=some (match skR f l with|some d=>.rt d|none=>.nx (E a),st')/\Grw st st'
 |[],_,y,st,_=>⟨y,st,rfl,.refl⟩
 |x :: l,h,y,st,g=>by
  obtain⟨s1,n,b⟩:=h x lQ7 st g;obtain⟨a,e,m,j⟩:=ZfY c (λz k=>h z (lM7 _ k)) (y:=some (en x)) (g.trans b)
  show ∃ a st',(match ex F q (Zf (E y) i (en x)) st with
   |some (.nx U',st')=>Zj (λd U s=>ex F q (Zf U i d) s) (l.map en) U' st'
   |some (.ct U',st')=>Zj (λd U s=>ex F q (Zf U i d) s) (l.map en) U' st'
   |some (.bk U',st')=>some (.nx U',st')
   |some (.rt v,st')=>some (.rt v,st')
   |none=>none)=_/\_
  rw[c,n];unfold skR;cases f x with
  |some d=>exact⟨y,s1,rfl,b⟩
  |none=>exact⟨a,e,m,b.trans j⟩
theorem R.seekD{l:Li α}{en:α->D}{f:α->Ot D}{y:Ot D}(u:∀ y d,Zf (E y) i d=E (some d))(r:Y F s it (E y) (.tup (l.map en)))(t:∀ x∈l,Bs F s q (E (some (en x))) (f x))(o:∀ y,R F s p (E y) d):R F s (.seq (.for1 i false it q) p) (E y) ((skR f l).getD d):=λst g=>by
 obtain⟨s1,j,a⟩:=r st g;obtain⟨k,h,b,e⟩:=ZfY u t (y:=y) (g.trans a);cases c:skR f l with
 |some v=>rw[c]at b;exact⟨h,Zi ((for_tup j).trans b),a.trans e⟩
 |none=>
  rw[c]at b;obtain⟨m,w,n⟩:=o k h (g.trans (a.trans e));exact⟨m,(Zc ((for_tup j).trans b)).trans w,a.trans (e.trans n)⟩
theorem R.seekR{N:Nat}{f:Nat->Ot D}{y:Ot D}(A:∀ y d,Zf (E y) i d=E (some d))(w:Y F s it (E y) (.int (N:Int)))(hN:N<=1000000)(z:∀ x,x < N->Bs F s q (E (jN x)) (f x))(u:∀ y,R F s p (E y) d):R F s (.seq (.for1 i true it q) p) (E y) ((skR f (List.range N)).getD d):=λst g=>by
 obtain⟨s1,C,a⟩:=w st g;obtain⟨n,m,b,h⟩:=ZfY (en:=λ(k:Nat)=>D.int (k:Int)) (l:=List.range N) A (λx t=>z x (cH.mp t)) (y:=y) (g.trans a)
 have j:=YX (F:=F) (i:=i) (e:=it) (q:=q) (v:=(N:Int)) (by omega) (by omega) C
 rw[aZ]at j;cases c:skR f (List.range N) with
 |some v=>rw[c]at b;exact⟨m,Zi (j.trans b),a.trans h⟩
 |none=>
  rw[c]at b;obtain⟨o,B,r⟩:=u n m (g.trans (a.trans h));exact⟨o,(Zc (j.trans b)).trans B,a.trans (h.trans r)⟩
theorem Zhj{α:Type}{u v:α->D}{f:α->Ot D}{E:Ot D->Ot D->Env}(j:∀ y z c d,Zf (Zf (E y z) i c) i' d=E (some c) (some d)):∀ {l:Li α},(∀ x∈l,Bs F s q (E (some (u x)) (some (v x))) (f x))->∀ {y z:Ot D}{st:Za},Grw s st->∃ b a st',ZZ (λ_=>True) (λx y U s=>ex F q (Zf (Zf U i x) i' y) s) (l.map λx=>(u x,v x)) (E y z) st=some (match skR f l with|some d=>.rt d|none=>.nx (E b a),st')/\Grw st st'
 |[],_,y,z,st,_=>⟨y,z,st,if_pos trivial,.refl⟩
 |x :: l,h,y,z,st,g=>by
  obtain⟨s1,p,e⟩:=h x lQ7 st g;obtain⟨b,a,k,o,m⟩:=Zhj j (λz n=>h z (lM7 _ n)) (y:=some (u x)) (z:=some (v x)) (g.trans e)
  rw[aO,ZZ,if_pos trivial];simp only[j];rw[p];unfold skR;cases f x with
  |some d=>exact⟨y,z,s1,rfl,e⟩
  |none=>exact⟨b,a,k,o,e.trans m⟩
theorem VQ{α:Type}{f:α->D}:∀ {k:Nat}{l:Li α},Xj k (l.map f)=(enm k l).map λp=>(D.int (p.1:Int),f p.2)
 |_,[]=>rfl
 |k,x :: l=>by show _ :: Xj (k+1) (l.map f)=_;rw[VQ];rfl
theorem R.seekE{α:Type}{l:Li α}{en:α->D}{f:Nat×α->Ot D}{E:Ot D->Ot D->Env}{y z:Ot D}(B:∀ y z c d,Zf (Zf (E y z) i c) i' d=E (some c) (some d))(t:Y F s it (E y z) (.tup (l.map en)))(A:∀ x∈enm 0 l,Bs F s q (E (jN x.1) (some (en x.2))) (f x))(r:∀ y z,R F s p (E y z) d):R F s (.seq (.forE i i' it q) p) (E y z) ((skR f (enm 0 l)).getD d):=λst g=>by
 obtain⟨s1,G,a⟩:=t st g;obtain⟨m,k,h,b,e⟩:=Zhj (u:=λp:Nat×α=>D.int (p.1:Int)) (v:=λp=>en p.2) B A (y:=y) (z:=z) (g.trans a)
 have j:ex F (.forE i i' it q) (E y z) st=ZZ (λ_=>True) (λx y U s=>ex F q (Zf (Zf U i x) i' y) s) ((enm 0 l).map λp=>(D.int (p.1:Int),en p.2)) (E y z) s1:=by
  rw[<-VQ];show VR i i' (ev F it) (ex F q) (E y z) st=_;unfold VR;rw[G];rfl
 cases c:skR f (enm 0 l) with
 |some w=>rw[c]at b;exact⟨h,Zi (j.trans b),a.trans e⟩
 |none=>
  rw[c]at b;obtain⟨n,C,o⟩:=r m k h (g.trans (a.trans e));exact⟨n,(Zc (j.trans b)).trans C,a.trans (e.trans o)⟩
theorem QX{α:Type}{f:α->Ot D}:∀ {l:Li α},skR f l=some d->∃ x∈l,f x=some d
 |x :: l,h=>by
  unfold skR at h;cases c:f x with
  |some v=>rw[c]at h;cases h;exact⟨x,lQ7,c⟩
  |none=>rw[c]at h;obtain⟨z,a,e⟩:=QX h;exact⟨z,lM7 _ a,e⟩
end
def ZgA:D:=.tup [.str "end"]
def roD:Ot Rw->D
 |none=>ZgA
 |some r=>rwE r
def isE:Ot Rw->Bool
 |none=>true
 |some (.tell _)=>true
 |_=>false
def XD:Rw->Li (Nat×Op)
 |.put _ y _ z=>[(2,y),(4,z)]
 |.ifr y _ z _=>[(1,y),(3,z)]
 |.tell y=>[(1,y)]
 |_=>[]
def inB(b:Nat):Op->Bool
 |.nm i=>b.testBit i
 |.nu _=>true
def rdO(b:Nat)(r:Rw):Bool:=(XD r).all λp=>inB b p.2
def eaB(b:Nat)(o u:Ot Rw):Bool:=decide (o=u)&&(match o with|none=>true|some r=>rdO b r)
def caB(b:Nat):Rw->Rw->Bool
 |.ifr y g z t,.ifr c d a _=>Zr [opE y,.str g,opE z] [opE c,.str d,opE a]&&rdO b (.ifr y g z t)
 |_,_=>false
def woX(b:Nat):Rw->Nat
 |.put x _ _ _=>woN b x
 |_=>b
def isP:Rw->Bool
 |.put _ _ _ _=>true
 |_=>false
def tgR:Rw->Nat
 |.put x _ _ _=>x
 |_=>0
def stN(b:Nat)(r q:Rw):Nat:=if (isP r&&(decide (some r=some q)&&rdO b r))=true then b ||| 2 ^ tgR r else woX (woX b r) q
def pbN(k:Nat):Rw->Li Nat
 |.go t=>[t]
 |.ifr _ _ _ t=>[t,k+1]
 |_=>[k+1]
section
variable{c:Nat}{q:Rw}{o:Ot Rw}
theorem ZgL:S "put"≠S "end"/\S "if"≠S "end"/\S "go"≠S "end"/\S "tell"≠S "end"/\S "skip"≠S "end":=by decide +kernel
theorem ZbI(o:Ot Rw):∃ a,roD o=.tup a/\okD 8 (.tup a)=true:=by
 cases o with
 |none=>exact⟨_,rfl,rfl⟩
 |some r=>exact UZ r
theorem ZfG(h:roD o=roD u):o=u:=by
 obtain⟨f,e,d,c,b⟩:=ZgL;have a:∀ r:Rw,rwE r≠ZgA:=λr h=>by
  cases r with
  |put _ _ _ _=>exact absurd (ZE h) f
  |ifr _ _ _ _=>exact absurd (ZE h) e
  |go _=>exact absurd (ZE h) d
  |tell _=>exact absurd (ZE h) c
  |skip=>exact absurd (ZE h) b
 cases o with
 |none=>cases u with
  |none=>rfl
  |some r=>exact absurd h.symm (a r)
 |some r=>cases u with
  |none=>exact absurd h (a r)
  |some q=>rw[Vt h]
theorem Y.eqro(g:Y F s a U (roD o))(f:Y F s b U (roD u)):Y F s (.cmp .Eq a b) U (.bl (decide (o=u))):=by
 obtain⟨j,c,i⟩:=ZbI o;obtain⟨ys,d,k⟩:=ZbI u;have e:decide (o=u)=Zr j ys:=by
  rw[X5 i];refine decide_eq_decide.mpr ⟨λh=>?_,λh=>ZfG (by rw[c,d,h])⟩
  rw[h,d]at c;injection c with c;exact c.symm
 rw[c]at g;rw[d]at f;rw[e];exact .eqd g f i k
inductive RoP(m:Nat)(rs:List Rw)(k:Nat):Option Rw->Prop where
 |e (h:rs.length<=k):RoP m rs k none
 |r {r r':Rw} (h:rs[k]?=some r) (ok:Zx m rs.length r') (al:Als m k r r'):RoP m rs k (some r')
theorem Qb(p:Rs m rs):CX (rT (n+6)) 115 [pgD tk m rs,.int (k:Int)] (λd=>∃ o,d=roD o/\RoP m rs k o):=by
 have f:∀ s,Y (rT (n+5)) s (.cmp .GtE (.v 1) (.len (.ix (.v 0) (.i 2)))) [some (pgD tk m rs),jN k] (.bl (decide ((rs.length:Int)<=(k:Int)))):=λs=>by
  have:=Y.cmp (F:=rT (n+5)) (s:=s) (op:=.GtE) (a:=.v 1) (b:=.len (.ix (.v 0) (.i 2))) (U:=[some (pgD tk m rs),jN k]) (x:=.int (k:Int)) (y:=.int ((rs.map rwE).length:Int)) (.r rf) (.lnT (.r rf)) λ_=>rfl
  rw[aB]at this;exact this
 by_cases h:rs.length<=k
 ·exact .of (v:=c_row_at) rfl rfl (.pick f (λ_=>.ret (λs=>.r rf) ⟨none,rfl,.e h⟩) λq=>absurd (of_decide_eq_false q) (by omega))
 ·have c:=lG7 (l:=rs) (i:=k) (by omega)
  obtain⟨d,t,g,u,ok,w⟩:=JN (n:=n) (j:=k) (p.ok _ (aW c));subst u;exact .of (v:=c_row_at) rfl rfl (.pick f (λq=>absurd (of_decide_eq_true q) (by omega)) λ_=>.ret (λs=>.call (xs:=[rwE rs[k],.int (k:Int)]) (.cons (.ixt (j:=k) (xs:=rs.map rwE) (.r rf) (.r rf) (by rw[aV,c];rfl)) (.r rf)) (t s)) ⟨some g,rfl,.r c ok w⟩)
theorem JI:C (rT (n+1)) s 116 [roD o] (.bl (isE o)):=by
 have a:Y (rT n) s (.cmp .Eq (.v 0) (.c (.tup [.str "end"]))) [some (roD o)] (.bl (decide (o=none))):=.eqro (u:=none) (.r rf) (.r rf);cases o with
 |none=>exact .of (v:=c_ends_run) rfl rfl (.ret (.or (k:=true) (m:=false) a λq=>nomatch q))
 |some r=>cases r<;>exact .of (v:=c_ends_run) rfl rfl (.ret (.or (k:=false) a λ_=>.r rf))
theorem Zfm:∀ p∈XD r,∃ b,rwE r=.tup b/\b[p.1]?=some (opE p.2):=λp a=>by
 cases r with
 |put x y g z=>
  simp only[XD,aF,aU,or_false]at a;rcases a with rfl|rfl<;>exact⟨_,rfl,rfl⟩
 |ifr y g z t=>
  simp only[XD,aF,aU,or_false]at a;rcases a with rfl|rfl<;>exact⟨_,rfl,rfl⟩
 |tell y=>
  simp only[XD,aF,aU,or_false]at a;subst a;exact⟨_,rfl,rfl⟩
 |go t=>cases a
 |skip=>cases a
theorem Zfn(h:Zx m sz r):∀ p∈XD r,Xg m p.2:=λp a=>by
 cases r with
 |put x y g z=>
  simp only[XD,aF,aU,or_false]at a;rcases a with rfl|rfl
  ·exact h.2.1
  ·exact h.2.2.2
 |ifr y g z t=>
  simp only[XD,aF,aU,or_false]at a;rcases a with rfl|rfl
  ·exact h.1
  ·exact h.2.2.1
 |tell y=>
  simp only[XD,aF,aU,or_false]at a;subst a;exact h
 |go t=>cases a
 |skip=>cases a
theorem JQ:C (rT (n+1)) s 113 [rwE r] (.tup ((XD r).map λp=>.int (p.1:Int))):=by
 cases r<;>exact .of (v:=c_operand_places) rfl rfl (.ret (.r rf))
theorem WZ(f:m<=60)(h:Zx m sz r):C (rT (n+3)) s 117 [rwE r,.int (c:Int)] (.bl (rdO c r)):=by
 have e:D.bl (rdO c r)=(skR (λp:Nat×Op=>if (!inB c p.2)=true then some (.bl false) else none) (XD r)).getD (.bl true):=by
  unfold rdO
  induction XD r with
  |nil=>rfl
  |cons p l d=>
   unfold skR;rw[bC];cases inB c p.2 with
   |true=>exact d
   |false=>rfl
 rw[e];refine .of (v:=c_reads_only) rfl rfl (.seekD (i:=2) (l:=XD r) (en:=λp=>.int (p.1:Int)) (E:=λy=>[some (rwE r),jN c,y]) (λ_ _=>rfl) (.call (xs:=[rwE r]) (.r rf) JQ) (λp b=>?_) λy=>.ret (.r rf))
 obtain⟨xs,o,g⟩:=Zfm p b;have a:Y (rT (n+2)) s (.ix (.v 0) (.v 2)) [some (rwE r),jN c,jN p.1] (opE p.2):=by
  rw[o];exact .ixt (j:=p.1) (xs:=xs) (.r rf) (.r rf) g
 have ok:=Zfn h p b;refine .ite (t:=!inB c p.2) ?_ (λ_=>.r rf) λ_=>.skip
 cases q:p.2 with
 |nm x=>
  rw[q]at a ok;exact .and (k:=true) (.cmp (x:=.str "name") (.ixt (j:=0) a (.r rf) rfl) (.r rf) λ_=>rfl) λ_=>.not (.call (xs:=[.int (c:Int),.int (x:Int)]) (.cons (.r rf) (.cons (.ixt (j:=1) a (.r rf) rfl) .nil)) (Zer (cU (aT ok f))))
 |nu v=>
  rw[q]at a;exact .and (k:=false) (m:=false) (.cmp (x:=.str "number") (.ixt (j:=0) a (.r rf) rfl) (.r rf) λ_=>rfl) λq=>nomatch q
theorem U9(b:m<=60)(h:∀ r,o=some r->Zx m sz r):C (rT (n+4)) s 118 [roD o,roD u,.int (c:Int)] (.bl (eaB c o u)):=by
 refine .of (v:=c_end_alike) rfl rfl (.ret (.and (.eqro (.r rf) (.r rf)) λ_=>?_))
 have a:Y (rT (n+3)) s (.cmp .Eq (.v 0) (.c (.tup [.str "end"]))) [some (roD o),some (roD u),jN c] (.bl (decide (o=none))):=.eqro (u:=none) (.r rf) (.r rf);cases o with
 |none=>exact .or (k:=true) (m:=false) a λq=>nomatch q
 |some r=>exact .or (k:=false) a λ_=>.call (xs:=[rwE r,.int (c:Int)]) (.r rf) (WZ b (h r rfl))
theorem Zce(d:m<=60)(h:Zx m sz r):C (rT (n+4)) s 119 [rwE r,rwE q,.int (c:Int)] (.bl (caB c r q)):=by
 cases r with
 |ifr y g z t=>cases q with
  |ifr b e a f=>
   refine .of (v:=c_choose_alike) rfl rfl (.ret (.and (k:=true) (.r rf) λ_=>.and (k:=true) (.r rf) λ_=>.and (.eqd (xs:=[opE y,.str g,opE z]) (ys:=[opE b,.str e,opE a]) (.r rf) (.r rf) ?_ ?_) λ_=>.call (xs:=[rwE (.ifr y g z t),.int (c:Int)]) (.r rf) (WZ d h)))
   ·cases y<;>cases z<;>rfl
   ·cases b<;>cases a<;>rfl
  |_=>exact .of (v:=c_choose_alike) rfl rfl (.ret (.and (k:=true) (.r rf) λ_=>.and (k:=false) (m:=false) (.r rf) λq=>nomatch q))
 |_=>exact .of (v:=c_choose_alike) rfl rfl (.ret (.and (k:=false) (m:=false) (.r rf) λq=>nomatch q))
theorem Q0{A B y:Ot D}(d:m<=60)(h:Zx m sz r):∀ st,Grw s st->∃ st',ex (rT (n+3)) Zz [A,B,jN c,some (rwE r)] st=some (.nx [A,B,some (.int ((woX c r:Nat):Int)),some (rwE r)],st')/\Grw st st':=λst g=>by
 cases r with
 |put x y g z=>
  obtain⟨s1,e,b⟩:=Y.call (F:=rT (n+3)) (s:=st) (f:=57) (a:=.aC (.v 2) (.u (.ix (.v 3) (.i 1)))) (U:=[A,B,jN c,some (rwE (.put x y g z))]) (xs:=[.int (c:Int),.int (x:Int)]) (ds:=[]) (.r rf) (Zgl (n:=n+1) (cU (aT h.1 d))) st .refl;exact⟨s1,(Zc ((Z5 rfl).trans ((Zc (Zn e)).trans Zh))).trans Zh,b⟩
 |_=>exact⟨st,(Zc ((Yu rfl).trans Zh)).trans Zh,.refl⟩
theorem Zew(a:m<=60)(h:Zx m sz r)(p:Zx m sz q):C (rT (n+4)) s 120 [rwE r,rwE q,.int (c:Int)] (.int ((stN c r q:Nat):Int)):=by
 have b:R (rT (n+3)) s (.seq (.for1 3 false (.tupE (.aC (.v 0) (.u (.v 1)))) Zz) (.z (.ret (.v 2)))) [some (rwE r),some (rwE q),jN c,none] (.int ((woX (woX c r) q:Nat):Int)):=λst g=>by
  obtain⟨s1,E,l⟩:=Q0 (n:=n) (s:=st) (c:=c) (A:=some (rwE r)) (B:=some (rwE q)) (y:=none) a h st .refl;obtain⟨e,D,j⟩:=Q0 (n:=n) (s:=s1) (c:=woX c r) (A:=some (rwE r)) (B:=some (rwE q)) (y:=none) a p s1 .refl;refine⟨e,(Zc (U':=[some (rwE r),some (rwE q),some (.int ((woX (woX c r) q:Nat):Int)),some (rwE q)]) (s':=e) ((for_tup (xs:=[rwE r,rwE q]) rfl).trans ?_)).trans (Zi (ZJ rfl)),l.trans j⟩
  show(match ex (rT (n+3)) Zz [some (rwE r),some (rwE q),jN c,some (rwE r)] st with
   |some (.nx U',st')=>Zj (λd U s=>ex (rT (n+3)) Zz (Zf U 3 d) s) [rwE q] U' st'
   |some (.ct U',st')=>Zj (λd U s=>ex (rT (n+3)) Zz (Zf U 3 d) s) [rwE q] U' st'
   |some (.bk U',st')=>some (.nx U',st')
   |some (.rt v,st')=>some (.rt v,st')
   |none=>none)=_
  rw[E];show(match ex (rT (n+3)) Zz [some (rwE r),some (rwE q),some (.int ((woX c r:Nat):Int)),some (rwE q)] s1 with
   |some (.nx U',st')=>Zj (λd U s=>ex (rT (n+3)) Zz (Zf U 3 d) s) [] U' st'
   |some (.ct U',st')=>Zj (λd U s=>ex (rT (n+3)) Zz (Zf U 3 d) s) [] U' st'
   |some (.bk U',st')=>some (.nx U',st')
   |some (.rt v,st')=>some (.rt v,st')
   |none=>none)=_
  rw[D];rfl
 have f:Y (rT (n+3)) s (.cmp .Eq (.ix (.v 0) (.i 0)) (.t "put")) [some (rwE r),some (rwE q),jN c,none] (.bl (isP r)):=by cases r<;>exact .r rf
 refine .of (v:=c_staying) rfl rfl (.pick (k:=isP r&&(decide (some r=some q)&&rdO c r)) (.and f λ_=>.and (.eqro (o:=some r) (u:=some q) (.r rf) (.r rf)) λ_=>.call (xs:=[rwE r,.int (c:Int)]) (.r rf) (WZ a h)) (λz=>?_) λz=>?_)
 ·unfold stN
  rw[if_pos z];cases r with
  |put x y g w=>exact .ret (.bor (.r rf) (.call1 (x:=.int (x:Int)) (.r rf) (U8 (cU (aT h.1 a)))))
  |_=>cases z
 ·unfold stN
  rw[if_neg (by rw[z];decide)]
  exact b
theorem VB:C (rT (n+1)) s 121 [rwE r,.int (k:Int)] (.tup ((pbN k r).map λ(x:Nat)=>D.int (x:Int))):=by
 have one:∀ {U:Env},U[1]?=some (jN k)->Y (rT n) s (.bin .Add (.v 1) (.i 1)) U (.int ((k+1:Nat):Int)):=λ{U} h=>by
  rw[bF];exact .add (.v h) (.r rf)
 cases r with
 |go t=>exact .of (v:=c_places_behind) rfl rfl (.yes (.r rf) (.r rf))
 |ifr y g z t=>
  show C _ _ _ _ (.tup [.int (t:Int),.int ((k+1:Nat):Int)]);exact .of (v:=c_places_behind) rfl rfl (.no (.r rf) (.yes (.r rf) (.cons (.r rf) (.cons (one rfl) .nil))))
 |_=>
  show C _ _ _ _ (.tup [.int ((k+1:Nat):Int)]);exact .of (v:=c_places_behind) rfl rfl (.no (.r rf) (.no (.r rf) (.ret (.cons (one rfl) .nil))))
end
def trD(t:Nat×Nat×Nat):D:=.tup [.int (t.1:Int),.int (t.2.1:Int),.int (t.2.2:Int)]
structure FolT(m:Nat)(rs rs':List Rw)(k j c:Nat)(ts:List (Nat×Nat×Nat)):Prop where
 l:ts.length<=4
 b:∀ t∈ts,t.1<=rs.length/\t.2.1<=rs'.length/\t.2.2 < 2 ^ m
def ZhA(m:Nat)(rs a:Li Rw)(k j c:Nat)(d:D):Prop:=d=.non\/∃ b,d=.tup (b.map trD)/\FolT m rs a k j c b
variable{rs':Li Rw}{ws:Li Int}
section
variable{c:Nat}{q:Rw}{o:Ot Rw}{y:Op}
theorem ZfZ(h:caB c r q=true):∃ y g z t b e a d,r=.ifr y g z t/\q=.ifr b e a d:=by
 cases r with
 |ifr y g z t=>cases q with
  |ifr b e a d=>exact⟨y,g,z,t,b,e,a,d,rfl,rfl⟩
  |_=>cases h
 |_=>cases h
theorem Zep:woX c r<=c:=by
 cases r with
 |put x y g z=>exact Nat.sub_le _ _
 |_=>exact aD _
theorem Zhk(a:c < 2 ^ m)(ok:Zx m sz r):stN c r q < 2 ^ m:=by
 unfold stN;split
 ·rename_i z
  rw[bA7]at z;cases r with
  |put x y g w=>exact Nat.or_lt_two_pow a (Nat.pow_lt_pow_right (by decide) ok.1)
  |_=>cases z.1
 ·exact Nat.lt_of_le_of_lt (aP Zep Zep) a
theorem Zec(a:k < sz)(ok:Zx m sz r):∀ x∈pbN k r,x<=sz:=λx hx=>by
 cases r with
 |go t=>rw[aR.mp hx];exact ok
 |ifr y g z t=>
  rcases aF.mp hx with rfl|hx
  ·exact ok.2.2.2
  ·rw[aR.mp hx];exact a
 |_=>rw[aR.mp hx];exact a
theorem UR:(pbN k r).length<=2:=by cases r<;>first|exact aD _|exact Nat.le_succ _
def Zap(k j c:Nat)(r q:Rw):Li (Nat×Nat×Nat):=(pbN k r).flatMap λp=>(pbN j q).map λa=>(p,a,stN c r q)
theorem Qt:(Zap k j c r q).length<=4:=by
 have d:=UR (k:=j) (r:=q);have h:∀ l:Li Nat,(l.flatMap λp=>(pbN j q).map λa=>(p,a,stN c r q)).length<=2 * l.length:=λl=>by
  induction l with
  |nil=>exact aD _
  |cons x l b=>rw[bU,aI,aB,aQ];omega
 have:=h (pbN k r);have:=UR (k:=k) (r:=r);unfold Zap;omega
theorem JK(P:Rs m rs)(F:Rs m rs')(A:m<=60)(G:c < 2 ^ m):CX (rT (n+7)) 122 [pgD tk m rs,pgD tk m rs',.int (k:Int),.int (j:Int),.int (c:Int)] (ZhA m rs rs' k j c):=by
 refine .of (v:=c_follow) rfl rfl (.setC (xs:=[pgD tk m rs,.int (k:Int)]) (λs=>.r rf) (Qb P) λd ⟨o,S,K⟩=>.setC (xs:=[pgD tk m rs',.int (j:Int)]) (λs=>.r rf) (Qb F) λd' ⟨u,R,J⟩=>?_)
 subst S;subst R
 have w:∀ r,o=some r->Zx m rs.length r:=λr e=>by
  subst e;cases K with|r h ok H=>exact ok
 have C:∀ r,u=some r->Zx m rs'.length r:=λr e=>by
  subst e;cases J with|r h ok H=>exact ok
 refine .pick (k:=isE o||isE u) (λs=>.or (.call1 (.r rf) JI) λ_=>.call1 (.r rf) JI) (λB=>?_) λB=>?_
 ·cases q:eaB c o u with
  |true=>
   exact .ret (d:=.tup []) (λs=>.ife (k:=true) (by rw[<-q];exact .call (xs:=[roD o,roD u,.int (c:Int)]) (.r rf) (U9 (n:=n+2) A w)) (.r rf)) (.inr ⟨[],rfl,aM _,λt h=>(nomatch h)⟩)
  |false=>exact .ret (d:=.non) (λs=>.ife (k:=false) (by rw[<-q];exact .call (xs:=[roD o,roD u,.int (c:Int)]) (.r rf) (U9 (n:=n+2) A w)) (.r rf)) (.inl rfl)
 ·rw[Bool.or_eq_false_iff]at B
  cases o with
  |none=>cases B.1
  |some r=>cases u with
   |none=>cases B.2
   |some q=>
    have b:=w r rfl;have o2:=C q rfl;have M:k < rs.length:=by cases K with|r h ok H=>exact Zt h
    have L:j < rs'.length:=by cases J with|r h ok H=>exact Zt h
    refine .pick (k:=caB c r q) (λs=>.call (xs:=[rwE r,rwE q,.int (c:Int)]) (.r rf) (Zce (n:=n+2) A b)) (λQ=>?_) λ_=>?_
    ·obtain⟨y,g,z,t,V,Z,T,I,rfl,rfl⟩:=ZfZ Q
     refine .ret (d:=.tup [trD (t,I,c),trD (k+1,j+1,c)]) (λs=>?_) (.inr ⟨[(t,I,c),(k+1,j+1,c)],rfl,(show 2<=4 by decide),λp hp=>?_⟩)
     ·have one:∀ {i v:Nat}{U:Env},U[i]?=some (jN v)->Y (rT (n+6)) s (.bin .Add (.v i) (.i 1)) U (.int ((v+1:Nat):Int)):=λ{i v U} h=>by
       rw[bF];exact .add (.v h) (.r rf)
      exact .cons (.cons (.r rf) (.cons (.r rf) (.cons (.r rf) .nil))) (.cons (.cons (one (i:=2) rfl) (.cons (one (i:=3) rfl) (.cons (.r rf) .nil))) .nil)
     ·rcases aF.mp hp with rfl|hp
      ·exact⟨b.2.2.2,o2.2.2.2,G⟩
      ·rw[aR.mp hp];exact⟨M,L,G⟩
    ·refine .set (λs=>.call (xs:=[rwE r,rwE q,.int (c:Int)]) (.r rf) (Zew (n:=n+2) (sz:=max rs.length rs'.length) A ?_ ?_)) ⟨.tup ((Zap k j c r q).map trD),λs=>?_,.inr ⟨_,rfl,Qt,λp hp=>?_⟩⟩
     ·cases r<;>first|exact b|exact aP b (Nat.le_max_left _ _)|exact⟨b.1,b.2.1,b.2.2.1,aP b.2.2.2 (Nat.le_max_left _ _)⟩
     ·cases q<;>first|exact o2|exact aP o2 (Nat.le_max_right _ _)|exact⟨o2.1,o2.2.1,o2.2.2.1,aP o2.2.2.2 (Nat.le_max_right _ _)⟩
     ·have e:(Zap k j c r q).map trD=(pbN k r).flatMap λp=>(pbN j q).map λa=>trD (p,a,stN c r q):=by
       unfold Zap;rw[cT];exact congrArg (λf=>(pbN k r).flatMap f) (funext λp=>bN)
      rw[e];refine .gather (i0:=8) (i:=9) (E:=λy l=>[some (pgD tk m rs),some (pgD tk m rs'),jN k,jN j,jN c,some (rwE r),some (rwE q),jI (stN c r q:Nat),jL l,y]) (en:=λ(p:Nat)=>D.int (p:Int)) (λ_=>rfl) (λ_ _ _=>rfl) (λ_ _=>rfl) (λl=>.call (xs:=[rwE r,.int (k:Int)]) (.r rf) VB) (λl W p hp=>.one (.ext rfl (Vg (en:=λ(p:Nat)=>D.int (p:Int)) (g:=λa=>trD (p,a,stN c r q)) (.of (x:=.tup ((pbN j q).map λ(x:Nat)=>D.int (x:Int))) (.call (xs:=[rwE q,.int (j:Int)]) (.r rf) VB) λst=>rfl) (by have:=UR (k:=j) (r:=q);omega) λa X=>.cons (.r rf) (.cons (.r rf) (.cons (.r rf) .nil))))) ?_
      rw[<-e,aB];have:=Qt (k:=k) (j:=j) (c:=c) (r:=r) (q:=q);omega
     ·obtain⟨x,O,hp⟩:=dP.mp hp
      obtain⟨z,N,rfl⟩:=aS.mp hp;exact⟨Zec M b x O,Zec L o2 z N,Zhk G b⟩
end
abbrev Tr:=Nat×Nat×Nat
def lk:Li Tr->Nat->Nat->Ot Nat
 |[],_,_=>none
 |t :: a,k,j=>if t.1=k/\t.2.1=j then some t.2.2 else lk a k j
def pt:Li Tr->Nat->Nat->Nat->Li Tr
 |[],k,j,b=>[(k,j,b)]
 |t :: a,k,j,b=>if t.1=k/\t.2.1=j then (k,j,b) :: a else t :: pt a k j b
def ky(t:Tr):Nat×Nat:=(t.1,t.2.1)
def sb(a:Li Tr):Nat:=(a.map λt=>t.2.2).sum
variable{ts us:Li Tr}{ah:Li (Nat×Nat)}
section
variable{b c k' j':Nat}{t u:Tr}
theorem UM:∀ {ts:Li Tr},lk ts k j=some b->(k,j,b)∈ts
 |t :: ts,h=>by
  unfold lk at h;split at h
  ·rename_i e;cases h;rw[<-e.1,<-e.2];exact lQ7
  ·exact lM7 _ (UM h)
theorem UL:∀ {ts:Li Tr},(k,j)∈ts.map ky->∃ b,lk ts k j=some b
 |t :: ts,h=>by
  unfold lk;split
  ·exact⟨_,rfl⟩
  ·rename_i n
   rcases aF.mp h with h|h
   ·exact absurd ⟨(congrArg Prod.fst h).symm,(congrArg Prod.snd h).symm⟩ n
   ·exact UL h
theorem QF:∀ {ts:Li Tr},lk ts k j=none->∀ t∈ts,¬(t.1=k/\t.2.1=j)
 |t :: ts,h,u,hu=>by
  unfold lk at h;split at h
  ·cases h
  ·rename_i n
   rcases aF.mp hu with rfl|hu
   ·exact n
   ·exact QF h u hu
theorem US:∀ {ts:Li Tr},u∈pt ts k j b->u=(k,j,b)\/u∈ts
 |[],h=>.inl (aR.mp h)
 |t :: ts,h=>by
  unfold pt at h;split at h
  ·rcases aF.mp h with h|h
   ·exact .inl h
   ·exact .inr (lM7 _ h)
  ·rcases aF.mp h with rfl|h
   ·exact .inr lQ7
   ·exact(US h).imp_right (lM7 _)
theorem Zee:∀ {ts:Li Tr},(ts.map ky).Nodup->((pt ts k j b).map ky).Nodup
 |[],_=>bM.mpr ⟨λh=>(nomatch h),List.nodup_nil⟩
 |t :: ts,h=>by
  have h:(ky t :: ts.map ky).Nodup:=h;unfold pt;split
  ·rename_i e
   have e:ky t=(k,j):=by show(t.1,t.2.1)=_;rw[e.1,e.2]
   rw[e]at h;exact h
  ·rename_i n
   rw[bM]at h;refine bM.mpr ⟨λq=>?_,Zee h.2⟩
   obtain⟨u,hu,a⟩:=aS.mp q;rcases US hu with rfl|hu
   ·exact n ⟨(congrArg Prod.fst a).symm,(congrArg Prod.snd a).symm⟩
   ·exact h.1 (aS.mpr ⟨u,hu,a⟩)
theorem Vo:∀ {ts:Li Tr}{x:Nat×Nat},x=(k,j)\/x∈ts.map ky->x∈(pt ts k j b).map ky
 |[],x,h=>h.elim (λe=>by rw[e];exact lQ7) λh=>nomatch h
 |t :: ts,x,h=>by
  unfold pt;split
  ·rename_i e
   have e:ky t=(k,j):=by show(t.1,t.2.1)=_;rw[e.1,e.2]
   rcases h with h|h
   ·rw[h];exact lQ7
   ·rcases aF.mp h with h|h
    ·rw[h,e];exact lQ7
    ·exact lM7 _ h
  ·rcases h with h|h
   ·exact lM7 _ (Vo (.inl h))
   ·rcases aF.mp h with h|h
    ·rw[h];exact lQ7
    ·exact lM7 _ (Vo (.inr h))
theorem QV:∀ {ts:Li Tr},lk ts k j=some c->(pt ts k j b).length=ts.length/\sb (pt ts k j b)+c=sb ts+b
 |t :: ts,h=>by
  unfold lk at h;unfold pt;split at h
  ·rename_i e
   cases h;rw[if_pos e];refine⟨rfl,?_⟩;show b+sb ts+t.2.2=t.2.2+sb ts+b;omega
  ·rename_i n
   rw[if_neg n];obtain⟨a,d⟩:=QV h;refine⟨congrArg (·+1) a,?_⟩;show t.2.2+sb (pt ts k j b)+c=t.2.2+sb ts+b;omega
theorem QU:∀ {ts:Li Tr},lk ts k j=none->(pt ts k j b).length=ts.length+1/\sb (pt ts k j b)=sb ts+b
 |[],_=>⟨rfl,by show b+0=0+b;omega⟩
 |t :: ts,h=>by
  unfold lk at h;unfold pt;split at h
  ·cases h
  ·rename_i n
   rw[if_neg n];obtain⟨a,c⟩:=QU h;refine⟨congrArg (·+1) a,?_⟩;show t.2.2+sb (pt ts k j b)=t.2.2+sb ts+b;omega
theorem Zd8{α:Type}[DecidableEq α]:∀ {l l':Li α},l.Nodup->(∀ x∈l,x∈l')->l.length<=l'.length
 |[],_,_,_=>aM _
 |x :: l,l',h,c=>by
  rw[bM]at h;have b:=c x lQ7;have:=Zd8 (l':=l'.erase x) h.2 λz a=>(List.mem_erase_of_ne λe=>h.1 (by rw[<-e];exact a)).mpr (c z (lM7 _ a))
  rw[List.length_erase_of_mem b]at this;have:=List.length_pos_of_mem b;rw[aQ];omega
def ZeA(sz:Nat):Li (Nat×Nat):=(List.range (sz+1)).flatMap λk=>(List.range (sz+1)).map λj=>(k,j)
theorem JW:(ZeA sz).length=(sz+1) * (sz+1):=by
 have h:∀ l:Li Nat,(l.flatMap λk=>(List.range (sz+1)).map λj=>(k,j)).length=l.length * (sz+1):=λl=>by
  induction l with
  |nil=>exact(Nat.zero_mul _).symm
  |cons x l a=>rw[bU,aI,a,aB,bR,aQ,Nat.add_mul,Nat.one_mul,Nat.add_comm]
 unfold ZeA;rw[h,bR]
theorem U5(c:(ts.map ky).Nodup)(d:∀ t∈ts,t.1<=sz/\t.2.1<=sz/\t.2.2 < 2 ^ m):ts.length<=(sz+1) * (sz+1):=by
 have:=Zd8 (l':=ZeA sz) c λx a=>by
  obtain⟨t,b,rfl⟩:=aS.mp a;obtain⟨f,e,_⟩:=d t b;exact dP.mpr ⟨t.1,cH.mpr (by omega),aS.mpr ⟨t.2.1,cH.mpr (by omega),rfl⟩⟩
 rwa [JW,aB]at this
def mu(m sz:Nat)(ts:Li Tr)(ah:Li (Nat×Nat)):Nat:=2 * (sb ts+2 ^ m * ((sz+1) * (sz+1) - ts.length))+ah.length
structure In(m sz M:Nat)(ts:List Tr)(ah:List (Nat×Nat)):Prop where
 nd:(ts.map ky).Nodup
 bd:∀ t∈ts,t.1<=sz/\t.2.1<=sz/\t.2.2 < 2 ^ m
 ai:∀ x∈ah,x∈ts.map ky
 mu:mu m sz ts ah<=M
def s1(x:Li Tr×Li (Nat×Nat))(u:Tr):Li Tr×Li (Nat×Nat):=
 if lk x.1 u.1 u.2.1=some (u.2.2 &&& (lk x.1 u.1 u.2.1).getD u.2.2) then x else (pt x.1 u.1 u.2.1 (u.2.2 &&& (lk x.1 u.1 u.2.1).getD u.2.2),x.2++[(u.1,u.2.1)])
theorem In.step{M:Nat}(h:In m sz M ts ah)(hu:u.1<=sz/\u.2.1<=sz/\u.2.2 < 2 ^ m):In m sz M (s1 (ts,ah) u).1 (s1 (ts,ah) u).2:=by
 unfold s1;generalize i:u.2.2 &&& (lk ts u.1 u.2.1).getD u.2.2=b;have bl:b < 2 ^ m:=by
  rw[<-i];exact Nat.lt_of_le_of_lt Nat.and_le_left hu.2.2
 dsimp only;split
 ·rename_i e
  exact h
 ·rename_i e
  have d:=Zee (k:=u.1) (j:=u.2.1) (b:=b) h.nd;have l:∀ t∈pt ts u.1 u.2.1 b,t.1<=sz/\t.2.1<=sz/\t.2.2 < 2 ^ m:=λt ht=>by
   rcases US ht with rfl|ht
   ·exact⟨hu.1,hu.2.1,bl⟩
   ·exact h.bd t ht
  have n:=U5 d l;refine⟨d,l,λx hx=>?_,?_⟩
  ·rcases bP.mp hx with hx|hx
   ·exact Vo (.inr (h.ai x hx))
   ·exact Vo (.inl (aR.mp hx))
  ·have g:=h.mu
   unfold Dp.mu at g ⊢
   rw[aI];show 2 * (sb (pt ts u.1 u.2.1 b)+2 ^ m * ((sz+1) * (sz+1) - (pt ts u.1 u.2.1 b).length))+(ah.length+1)<=M;cases q:lk ts u.1 u.2.1 with
   |some c=>
    obtain⟨a,f⟩:=QV (b:=b) q;rw[a];have:b<=c:=by rw[<-i,q];exact Nat.and_le_right
    have:b≠c:=λz=>e (by rw[q,z])
    omega
   |none=>
    obtain⟨a,f⟩:=QU (b:=b) q;rw[a,f];rw[a]at n;obtain⟨w,o⟩:∃ w,(sz+1) * (sz+1) - ts.length=w+1:=⟨(sz+1) * (sz+1) - ts.length - 1,by omega⟩
    rw[show(sz+1) * (sz+1) - (ts.length+1)=w by omega]
    rw[o,Nat.mul_succ]at g;omega
structure Cl(m sz:Nat)(ts:List Tr):Prop where
 nd:(ts.map ky).Nodup
 bd:∀ t∈ts,t.1<=sz/\t.2.1<=sz/\t.2.2 < 2 ^ m
theorem UP(h:rs.length<=k):mv rs k vs=.inl noD:=by unfold mv;rw[eG h]
end
def prN(p:Nat×Nat):D:=.tup [.int (p.1:Int),.int (p.2:Int)]
def iN(b:Nat):D:=.int (b:Int)
def bI:CS:=.seq (.set 9 (.bin .BitAnd (.v 8) (.dgN (.v 2) (.tupE (.aC (.v 6) (.u (.v 7)))) (.v 8))))
 (.z (.ite (.cmp .NotEq (.dgN (.v 2) (.tupE (.aC (.v 6) (.u (.v 7)))) (.c .non)) (.v 9)) (.seq (.dput 2 (.v 6) (.v 7) (.v 9))
 (.z (.app 3 (.tupE (.aC (.v 6) (.u (.v 7))))))) .skip))
def cW:CE:=.cmp .Gt (.len (.v 3)) (.i 0)
def bW:CS:=.seq (.set 4 (.pop (.v 3)))
 (.seq (.set 5 (.call 122 (.aC (.v 0) (.aC (.v 1) (.aC (.ix (.v 4) (.i 0)) (.aC (.ix (.v 4) (.i 1)) (.u (.ix (.v 2) (.v 4))))))) []))
 (.seq (.ite (.cmp .Is (.v 5) (.c .non)) (.z (.ret (.c .non))) .skip)
 (.z (.for4 6 7 8 (.v 5) bI))))
variable{A B:D}{x4 x5 x6 x7 x8 x9:Ot D}
section
variable{b c M q:Nat}{dn:Li Tr}{u p:Tr}
def En(A B:D)(q w:Nat)(x4 x5 x6 x7 x8 x9:Ot D):Env:=[some A,some B,some (.dic q),jL w,x4,x5,x6,x7,x8,x9]
theorem isk:isK (k:Int) (j:Int) (trD u)=decide (u.1=k/\u.2.1=j):=by
 show(decide ((u.1:Int)=(k:Int))&&decide ((u.2.1:Int)=(j:Int)))=_;rw[<-Bool.decide_and];exact decide_eq_decide.mpr ⟨λh=>⟨Int.ofNat.inj h.1,Int.ofNat.inj h.2⟩,λh=>⟨congrArg Int.ofNat h.1,congrArg Int.ofNat h.2⟩⟩
theorem VM:∀ {ts:Li Tr},Z4 (ts.map trD) (k:Int) (j:Int)=(lk ts k j).map iN
 |[]=>rfl
 |t :: ts=>by
  unfold Z4 lk;rw[aO,cQ,isk];by_cases h:t.1=k/\t.2.1=j
  ·rw[if_pos h,aL h];rfl
  ·rw[if_neg h,aH h];exact VM
theorem ZbD:∀ {ts:Li Tr},lk ts k j=none->pt ts k j b=ts++[(k,j,b)]
 |[],_=>rfl
 |t :: ts,h=>by
  unfold lk at h;split at h
  ·cases h
  ·rename_i n
   unfold pt;rw[if_neg n,ZbD h];rfl
theorem ZbE:∀ {ts:Li Tr},(ts.map ky).Nodup->lk ts k j=some c->(ts.map trD).map (λe=>if isK (k:Int) (j:Int) e=true then D.tup [.int (k:Int),.int (j:Int),.int (b:Int)] else e)=(pt ts k j b).map trD
 |t :: ts,a,h=>by
  have a:(ky t :: ts.map ky).Nodup:=a;rw[bM]at a;unfold lk at h;unfold pt;rw[aO,aO,isk];split at h
  ·rename_i e
   rw[if_pos e,if_pos (aL e),aO];refine congrArg (D.tup [.int (k:Int),.int (j:Int),.int (b:Int)] :: ·) ?_;rw[bN];refine List.map_congr_left λu d=>?_
   show(if isK (k:Int) (j:Int) (trD u)=true then _ else trD u)=trD u
   rw[isk,if_neg λz=>a.1 ?_]
   have z:=of_decide_eq_true z;exact aS.mpr ⟨u,d,by show(u.1,u.2.1)=(t.1,t.2.1);rw[z.1,z.2,e.1,e.2]⟩
  ·rename_i n
   rw[if_neg n,if_neg (λz=>n (of_decide_eq_true z)),aO,ZbE a.2 h]
theorem ZcA(nd:(ts.map ky).Nodup):Wa (ts.map trD) (k:Int) (j:Int) (.int (b:Int))=(pt ts k j b).map trD:=by
 unfold Wa;cases h:lk ts k j with
 |none=>
  rw[if_neg λz=>?_,ZbD h,cG];rfl
  obtain⟨e,d,z⟩:=List.any_eq_true.mp z;obtain⟨u,a,rfl⟩:=aS.mp d;rw[isk]at z;exact QF h u a (of_decide_eq_true z)
 |some c=>
  rw[if_pos (List.any_eq_true.mpr ⟨trD (k,j,c),aS.mpr ⟨_,UM h,rfl⟩,by rw[isk];exact aL ⟨rfl,rfl⟩⟩)]
  exact ZbE nd h
theorem UC(a:st[q]?=some (true,ts.map trD)):dAt [.int (k:Int),.int (j:Int)] q st=some ((lk ts k j).map iN):=by
 show o2 (λ(p:Int×Int) (c:Y5)=>Z4 c.2 p.1 p.2) (some ((k:Int),(j:Int))) st[q]?=_
 rw[a];show some (Z4 (ts.map trD) (k:Int) (j:Int))=_;rw[VM]
theorem Y.dg{a:CE}(l:s[q]?=some (true,ts.map trD))(p:Y F s a U (.dic q)){kk:CE}(n:Y F s kk U (.tup [.int (k:Int),.int (j:Int)]))(m:Y F s e U d):Y F s (.dgN a kk e) U (((lk ts k j).map iN).getD d):=λst g=>by
 obtain⟨s1,u,b⟩:=p st g;obtain⟨i,t,f⟩:=n s1 (g.trans b);obtain⟨c,r,h⟩:=m i (g.trans (b.trans f));refine⟨c,?_,b.trans (f.trans h)⟩;show YC (ev F a) (ev F kk) (ev F e) gtD U st=_;unfold YC;simp only[u,t,r];show(dAt [.int (k:Int),.int (j:Int)] q c).map (λo=>(o.getD d,c))=_
 rw[UC ((g.trans (b.trans (f.trans h))).get l)];rfl
theorem Xm{b:Y5}(g:Grw s st)(h:s.length<=q):Grw s (st.set q b):=⟨λi a=>by rw[cA (by omega)];exact g.old i a,by rw[bJ];exact g.len⟩
theorem ZcX(nd:(ts.map ky).Nodup)(T:ts.length<=100)(V:ah.length<=890)(E:q≠w)(x:st[q]?=some (true,ts.map trD))(P:st[w]?=some (true,ah.map prN))(M:s.length<=q)(L:s.length<=w)(g:Grw s st) :
  ∃ p st',ex F bI (En A B q w x4 x5 (jN u.1) (jN u.2.1) (jN u.2.2) x9) st=some (.nx (En A B q w x4 x5 (jN u.1) (jN u.2.1) (jN u.2.2) p),st')/\Grw s st'/\st'[q]?=some (true,(s1 (ts,ah) u).1.map trD)/\st'[w]?=some (true,(s1 (ts,ah) u).2.map prN):=by
 have O:((lk ts u.1 u.2.1).map iN).getD (.int (u.2.2:Int))=.int (((lk ts u.1 u.2.1).getD u.2.2:Nat):Int):=by cases lk ts u.1 u.2.1<;>rfl
 have C:=Y.dg (F:=F) (s:=st) (a:=.v 2) (kk:=.tupE (.aC (.v 6) (.u (.v 7)))) (e:=.v 8) (U:=En A B q w x4 x5 (jN u.1) (jN u.2.1) (jN u.2.2) x9) (k:=u.1) (j:=u.2.1) (d:=.int (u.2.2:Int)) x (.r rf) (.r rf) (.r rf);rw[O]at C;obtain⟨t,z,l⟩:=Y.band (c:=u.2.2) (a:=.v 8) (.r rf) C st .refl;generalize N:u.2.2 &&& (lk ts u.1 u.2.1).getD u.2.2=v at z
 have J:=Y.dg (F:=F) (s:=t) (a:=.v 2) (kk:=.tupE (.aC (.v 6) (.u (.v 7)))) (e:=.c .non) (U:=En A B q w x4 x5 (jN u.1) (jN u.2.1) (jN u.2.2) (jN v)) (k:=u.1) (j:=u.2.1) (d:=.non) (l.get x) (.r rf) (.r rf) (.r rf);have I:Y F t (.cmp .NotEq (.dgN (.v 2) (.tupE (.aC (.v 6) (.u (.v 7)))) (.c .non)) (.v 9)) (En A B q w x4 x5 (jN u.1) (jN u.2.1) (jN u.2.2) (jN v)) (.bl (!decide (lk ts u.1 u.2.1=some v))):=.cmp (y:=.int (v:Int)) J (.r rf) λst=>by
  cases lk ts u.1 u.2.1 with
  |none=>rfl
  |some c=>
   show some (!decide ((c:Int)=(v:Int)))=some (!decide (some c=some v));have e:decide ((c:Int)=(v:Int))=decide (some c=some v):=decide_eq_decide.mpr ⟨λh=>congrArg some (by omega),λh=>by injection h with h;omega⟩
   rw[e]
 obtain⟨b,o,n⟩:=I t .refl;unfold s1;dsimp only;rw[N];have f:=(l.trans n).get x;have m:=(l.trans n).get P;by_cases c:lk ts u.1 u.2.1=some v
 ·rw[aL c]at o
  rw[if_pos c];exact⟨_,b,(Zc (Zn z)).trans ((Zc ((Yu o).trans Zh)).trans Zh),g.trans (l.trans n),f,m⟩
 ·rw[aH c]at o
  rw[if_neg c];have S:ex F (.dput 2 (.v 6) (.v 7) (.v 9)) (En A B q w x4 x5 (jN u.1) (jN u.2.1) (jN u.2.2) (jN v)) b=some (.nx (En A B q w x4 x5 (jN u.1) (jN u.2.1) (jN u.2.2) (jN v)),b.set q (true,(pt ts u.1 u.2.1 v).map trD)):=by
   show(match b[q]? with
    |some (true,D)=>if D.length < Zu then some (Fl.nx _,b.set q (true,Wa D (u.1:Int) (u.2.1:Int) (.int (v:Int)))) else none
    |_=>none)=_
   rw[f];show(if (ts.map trD).length < Zu then _ else _)=_
   rw[if_pos (by rw[aB];unfold Zu;omega),ZcA nd]
  have H:q < b.length:=Zt f;obtain⟨K,R,G,Q⟩:=Ap.app (F:=F) (s:=b.set q (true,(pt ts u.1 u.2.1 v).map trD)) (j:=w) (i:=3) (e:=.tupE (.aC (.v 6) (.u (.v 7)))) (U:=En A B q w x4 x5 (jN u.1) (jN u.2.1) (jN u.2.2) (jN v)) (d:=prN (u.1,u.2.1)) rfl (.r rf) _ (ah.map prN) .refl (by rw[cA E];exact m) (by rw[aB];show _+1<=900;omega)
  refine⟨_,K,(Zc (Zn z)).trans ((Zc ((Z5 o).trans ((Zc S).trans ((Zc R).trans Zh)))).trans Zh),G.grw L (Xm (g.trans (l.trans n)) M),?_,by rw[Q,cG];rfl⟩
  rw[G.old q (by rw[bJ];exact H) E,bV H]
theorem Qx(z:(sz+1) * (sz+1)<=100)(E:M<=890)(k:q≠w)(j:s.length<=q)(i:s.length<=w):∀ (us ts:Li Tr) (ah:Li (Nat×Nat)) (st:Za) (x6 x7 x8 x9:Ot D),(∀ u∈us,u.1<=sz/\u.2.1<=sz/\u.2.2 < 2 ^ m)->In m sz M ts ah->st[q]?=some (true,ts.map trD)->st[w]?=some (true,ah.map prN)->Grw s st->
  ∃ e d c a st',Zj (ZbY 6 7 8 (ex F bI)) (us.map trD) (En A B q w x4 x5 x6 x7 x8 x9) st=some (.nx (En A B q w x4 x5 e d c a),st')/\Grw s st'/\st'[q]?=some (true,(us.foldl s1 (ts,ah)).1.map trD)/\st'[w]?=some (true,(us.foldl s1 (ts,ah)).2.map prN)
 |[],ts,ah,st,x6,x7,x8,x9,_,_,h,f,g=>⟨x6,x7,x8,x9,st,rfl,g,h,f⟩
 |u :: us,ts,ah,st,x6,x7,x8,x9,l,b,h,f,g=>by
  have N:=U5 b.nd b.bd;have y:=b.mu;unfold mu at y;obtain⟨a,x,H,g1,L,J⟩:=ZcX (F:=F) (A:=A) (B:=B) (x4:=x4) (x5:=x5) (u:=u) (x9:=x9) b.nd (by omega) (by omega) k h f j i g
  obtain⟨r,p,o,n,t,G,g2,K,I⟩:=Qx z E k j i us _ _ x (jN u.1) (jN u.2.1) (jN u.2.2) a (λv C=>l v (lM7 _ C)) (b.step (l u lQ7)) L J g1
  refine⟨r,p,o,n,t,?_,g2,K,I⟩;show(match ex F bI (En A B q w x4 x5 (jN u.1) (jN u.2.1) (jN u.2.2) x9) st with
   |some (.nx U',st')=>Zj (ZbY 6 7 8 (ex F bI)) (us.map trD) U' st'
   |some (.ct U',st')=>Zj (ZbY 6 7 8 (ex F bI)) (us.map trD) U' st'
   |some (.bk U',st')=>some (.nx U',st')
   |some (.rt v,st')=>some (.rt v,st')
   |none=>none)=_
  rw[H];exact G
theorem In.all:∀ {us ts:Li Tr}{ah:Li (Nat×Nat)},(∀ u∈us,u.1<=sz/\u.2.1<=sz/\u.2.2 < 2 ^ m)->In m sz M ts ah->In m sz M (us.foldl s1 (ts,ah)).1 (us.foldl s1 (ts,ah)).2
 |[],ts,ah,_,h=>h
 |u :: us,ts,ah,a,h=>In.all (us:=us) (λv b=>a v (lM7 _ b)) (h.step (a u lQ7))
theorem wl(hz:(sz+1) * (sz+1)<=100)(hr:Rs m rs)(hr':Rs m rs')(h1:rs.length=sz)(h2:rs'.length=sz)(hm:m<=60):∀ (M:Nat) (ts:Li Tr) (ah:Li (Nat×Nat)),M<=890->In m sz M ts ah->∃ r:Ot (Li Tr),(∀ t,r=some t->Cl m sz t)/\∀ (l:Nat),M < l->∀ (s st:Za) (q w:Nat) (x4 x5 x6 x7 x8 x9:Ot D),q≠w->s.length<=q->s.length<=w->st[q]?=some (true,ts.map trD)->st[w]?=some (true,ah.map prN)->Grw s st->
  ∃ st',Grw s st'/\match r with
   |none=>Z9 (ev (rT (n+7)) cW) (ex (rT (n+7)) bW) l (En (pgD tk m rs) (pgD tk m rs') q w x4 x5 x6 x7 x8 x9) st=some (.rt .non,st')
   |some t=>(∃ y4 y5 Q O N L,Z9 (ev (rT (n+7)) cW) (ex (rT (n+7)) bW) l (En (pgD tk m rs) (pgD tk m rs') q w x4 x5 x6 x7 x8 x9) st=some (.nx (En (pgD tk m rs) (pgD tk m rs') q w y4 y5 Q O N L),st'))/\st'[q]?=some (true,t.map trD):=λM=>by
 induction M with
 |zero=>
  intro ts ah _ h;have hm:=h.mu;unfold mu at hm;have:ah=[]:=List.eq_nil_of_length_eq_zero (by omega)
  subst this;refine⟨some ts,λt e=>by cases e;exact⟨h.nd,h.bd⟩,λl hf s st q w x4 x5 x6 x7 x8 x9 H J G I E g=>?_⟩
  obtain⟨f,rfl⟩:∃ f,l=f+1:=⟨l - 1,by omega⟩
  obtain⟨Z,V,R⟩:=Y.cmp (F:=rT (n+7)) (s:=st) (op:=.Gt) (a:=.len (.v 3)) (b:=.i 0) (U:=En (pgD tk m rs) (pgD tk m rs') q w x4 x5 x6 x7 x8 x9) (x:=.int 0) (y:=.int 0) (k:=false) (.lenl E (.r rf)) (.r rf) (λ_=>rfl) st .refl
  refine⟨Z,g.trans R,⟨x4,x5,x6,x7,x8,x9,?_⟩,R.get I⟩;show ZV (ev _ cW) _ _ _ st=_;unfold ZV;rw[show ev (rT (n+7)) cW _ st=_ from V]
 |succ M ih=>
  intro ts ah hM h;rcases List.eq_nil_or_concat ah with rfl|⟨z,p,K⟩
  ·refine⟨some ts,λt e=>by cases e;exact⟨h.nd,h.bd⟩,λl hf s st q w x4 x5 x6 x7 x8 x9 H J G I E g=>?_⟩
   obtain⟨f,rfl⟩:∃ f,l=f+1:=⟨l - 1,by omega⟩
   obtain⟨Z,V,R⟩:=Y.cmp (F:=rT (n+7)) (s:=st) (op:=.Gt) (a:=.len (.v 3)) (b:=.i 0) (U:=En (pgD tk m rs) (pgD tk m rs') q w x4 x5 x6 x7 x8 x9) (x:=.int 0) (y:=.int 0) (k:=false) (.lenl E (.r rf)) (.r rf) (λ_=>rfl) st .refl
   refine⟨Z,g.trans R,⟨x4,x5,x6,x7,x8,x9,?_⟩,R.get I⟩;show ZV (ev _ cW) _ _ _ st=_;unfold ZV;rw[show ev (rT (n+7)) cW _ st=_ from V]
  ·rw[List.concat_eq_append]at K
   subst K;obtain⟨c,hc⟩:=UL (h.ai p (cB _ lQ7));have hcb:=(h.bd _ (UM hc)).2.2;obtain⟨d,hd,hP⟩:=JK (n:=n) (tk:=tk) (k:=p.1) (j:=p.2) hr hr' hm hcb;have S:=h.mu
   -- a turn up to the triples
   have turn:∀ (s st:Za) (q w:Nat) (x4 x5 x6 x7 x8 x9:Ot D),q≠w->s.length<=q->s.length<=w->st[q]?=some (true,ts.map trD)->st[w]?=some (true,(z++[p]).map prN)->Grw s st->∃ o C,ev (rT (n+7)) cW (En (pgD tk m rs) (pgD tk m rs') q w x4 x5 x6 x7 x8 x9) st=some (.bl true,o)/\Grw s C/\C[q]?=some (true,ts.map trD)/\C[w]?=some (true,z.map prN)/\∀ P,ex (rT (n+7)) (.seq (.set 4 (.pop (.v 3))) (.seq (.set 5 (.call 122 (.aC (.v 0) (.aC (.v 1) (.aC (.ix (.v 4) (.i 0)) (.aC (.ix (.v 4) (.i 1)) (.u (.ix (.v 2) (.v 4))))))) [])) P)) (En (pgD tk m rs) (pgD tk m rs') q w x4 x5 x6 x7 x8 x9) o=ex (rT (n+7)) P (En (pgD tk m rs) (pgD tk m rs') q w (some (prN p)) (some d) x6 x7 x8 x9) C:=λs st q w x4 x5 x6 x7 x8 x9 H J G I E g=>by
    have hl:((z++[p]).map prN).length=z.length+1:=by rw[aB,aI];rfl
    obtain⟨o,K,k0⟩:=Y.cmp (F:=rT (n+7)) (s:=st) (op:=.Gt) (a:=.len (.v 3)) (b:=.i 0) (U:=En (pgD tk m rs) (pgD tk m rs') q w x4 x5 x6 x7 x8 x9) (x:=.int (((z++[p]).map prN).length:Int)) (y:=.int 0) (k:=true) (.lenl E (.r rf)) (.r rf) (λ_=>by
     show some (decide ((0:Int) < (((z++[p]).map prN).length:Int)))=_;rw[hl,aL (by omega)]) st .refl
    have b0:=k0.get E;have hw:w < o.length:=Zt b0;have V:ev (rT (n+7)) (.pop (.v 3)) (En (pgD tk m rs) (pgD tk m rs') q w x4 x5 x6 x7 x8 x9) o=some (prN p,o.set w (true,z.map prN)):=by
     show Zdc (.lst w) o=_;show(match o[w]? with
      |some (true,xs)=>(xs[xs.length - 1]?).map λd=>(d,o.set w (true,xs.dropLast))
      |_=>none)=_
     rw[b0];show(((z++[p]).map prN)[((z++[p]).map prN).length - 1]?).map (λd=>(d,o.set w (true,((z++[p]).map prN).dropLast)))=_
     rw[hl,cG,List.map_singleton,List.dropLast_concat,cC (by rw[aB];omega),aB,Nat.add_sub_cancel,Nat.sub_self];rfl
    have g2:Grw s (o.set w (true,z.map prN)):=Xm (g.trans k0) G;have a2:(o.set w (true,z.map prN))[q]?=some (true,ts.map trD):=by rw[cA (Ne.symm H)];exact k0.get I
    have b2:(o.set w (true,z.map prN))[w]?=some (true,z.map prN):=bV hw;generalize o.set w (true,z.map prN)=t2 at *
    have yi:Y (rT (n+7)) t2 (.ix (.v 2) (.v 4)) (En (pgD tk m rs) (pgD tk m rs') q w (some (prN p)) x5 x6 x7 x8 x9) (.int (c:Int)):=Dp.g2 (a:=.v 2) (b:=.v 4) (x:=.dic q) (y:=prN p) (.r rf) (.r rf) (gs λst k=>by
     show ixR (.dic q) (prN p) st=_;unfold ixR;show(match ((dAt [.int (p.1:Int),.int (p.2:Int)] q st).join) with|some d=>some (d,st)|none=>none)=_
     rw[UC (k.get a2),hc];rfl)
    obtain⟨C,T,k3⟩:=Y.call (F:=rT (n+7)) (s:=t2) (f:=122) (a:=.aC (.v 0) (.aC (.v 1) (.aC (.ix (.v 4) (.i 0)) (.aC (.ix (.v 4) (.i 1)) (.u (.ix (.v 2) (.v 4))))))) (U:=En (pgD tk m rs) (pgD tk m rs') q w (some (prN p)) x5 x6 x7 x8 x9) (xs:=[pgD tk m rs,pgD tk m rs',.int (p.1:Int),.int (p.2:Int),.int (c:Int)]) (ds:=[]) (.cons (.r rf) (.cons (.r rf) (.cons (.r rf) (.cons (.r rf) (.cons yi .nil))))) (hd t2) t2 .refl
    exact⟨o,C,K,g2.trans k3,k3.get a2,k3.get b2,λP=>(Zc (Zn V)).trans (Zc (Zn T))⟩
   rcases hP with rfl|⟨us,rfl,fT⟩
   ·refine⟨none,λt e=>(nomatch e),λl hf s st q w x4 x5 x6 x7 x8 x9 H J G I E g=>?_⟩
    obtain⟨f,rfl⟩:∃ f,l=f+1:=⟨l - 1,by omega⟩
    obtain⟨o,C,K,g3,a3,b3,T⟩:=turn s st q w x4 x5 x6 x7 x8 x9 H J G I E g;refine⟨C,g3,?_⟩;show ZV (ev _ cW) (Z0 (ex _ bW) _) _ _ st=_;unfold ZV;rw[K];show Z0 (ex _ bW) _ _ o=_;unfold Z0;rw[show ex (rT (n+7)) bW _ o=some (.rt .non,C) from(T _).trans (Zi ((Z5 rfl).trans (Zi (ZJ rfl))))]
   ·have hI:In m sz M ts z:=⟨h.nd,h.bd,λx hx=>h.ai x (List.mem_append_left _ hx),by
     unfold mu at S ⊢
     rw[aI]at S;have:([p]:Li (Nat×Nat)).length=1:=rfl;omega⟩
    have X:∀ u∈us,u.1<=sz/\u.2.1<=sz/\u.2.2 < 2 ^ m:=λu X=>by
     have:=fT.b u X;rw[h1,h2]at this;exact this
    have hO:=In.all X hI;obtain⟨r,hr1,hr2⟩:=ih _ _ (by omega) hO
    refine⟨r,hr1,λl hf s st q w x4 x5 x6 x7 x8 x9 H J G I E g=>?_⟩
    obtain⟨f,rfl⟩:∃ f,l=f+1:=⟨l - 1,by omega⟩
    obtain⟨o,C,K,g3,a3,b3,T⟩:=turn s st q w x4 x5 x6 x7 x8 x9 H J G I E g;obtain⟨Q,O,N,L,W,e4,g4,a4,b4⟩:=Qx (F:=rT (n+7)) (A:=pgD tk m rs) (B:=pgD tk m rs') (x4:=some (prN p)) (x5:=some (.tup (us.map trD))) hz (show M<=890 by omega) H J G us ts z C x6 x7 x8 x9 X hI a3 b3 g3
    obtain⟨t5,g5,h5⟩:=hr2 f (by omega) s W q w (some (prN p)) (some (.tup (us.map trD))) Q O N L H J G a4 b4 g4
    have e5:ex (rT (n+7)) (.for4 6 7 8 (.v 5) bI) (En (pgD tk m rs) (pgD tk m rs') q w (some (prN p)) (some (.tup (us.map trD))) x6 x7 x8 x9) C=some (.nx (En (pgD tk m rs) (pgD tk m rs') q w (some (prN p)) (some (.tup (us.map trD))) Q O N L),W):=e4;have eb:ex (rT (n+7)) bW (En (pgD tk m rs) (pgD tk m rs') q w x4 x5 x6 x7 x8 x9) o=some (.nx (En (pgD tk m rs) (pgD tk m rs') q w (some (prN p)) (some (.tup (us.map trD))) Q O N L),W):=(T _).trans ((Zc ((Yu rfl).trans Zh)).trans ((Zc e5).trans Zh))
    have ew:Z9 (ev (rT (n+7)) cW) (ex (rT (n+7)) bW) (f+1) (En (pgD tk m rs) (pgD tk m rs') q w x4 x5 x6 x7 x8 x9) st=Z9 (ev (rT (n+7)) cW) (ex (rT (n+7)) bW) f (En (pgD tk m rs) (pgD tk m rs') q w (some (prN p)) (some (.tup (us.map trD))) Q O N L) W:=by
     show ZV (ev _ cW) (Z0 (ex _ bW) _) _ _ st=_;unfold ZV;rw[K];show Z0 (ex _ bW) _ _ o=_;unfold Z0;rw[eb]
    refine⟨t5,g5,?_⟩;cases r with
    |none=>rw[ew];exact h5
    |some t=>rw[ew];exact h5
end
theorem Zbz{f:Nat->Nat->Bool}{z d:α}{a:Li α}(h:d∈pick f z a):d∈a:=by
 unfold pick at h;split at h
 ·exact h
 ·obtain⟨i,b,rfl⟩:=aS.mp h
  have:=Vn (by omega) i b
  rw[bB,lG7 this];exact cM this
theorem XW{α:Type}{en:α->D}{P:α->Prop}:∀ {ys:Li D},(∀ d∈ys,∃ r,d=en r/\P r)->∃ rs:Li α,ys=rs.map en/\∀ r∈rs,P r
 |[],_=>⟨[],rfl,λ_ h=>nomatch h⟩
 |y :: ys,h=>by
  obtain⟨r,rfl,b⟩:=h y lQ7;obtain⟨rs,rfl,a⟩:=XW λd c=>h d (lM7 _ c)
  exact⟨r :: rs,rfl,λx hx=>by
   rcases aF.mp hx with rfl|hx
   ·exact b
   ·exact a x hx⟩
def ZhC(d:D):Prop:=d=.non\/∃ a:Li Tr,d=.tup (a.map trD)
section
variable{q:Nat}
theorem ZbW(j:ts.length < 64):∃ ks:Li (Nat×Nat),ks.length<=64/\(∀ k∈ks,k∈ts.map ky)/\∀ F s q (U:Env),U[2]?=some (some (.dic q))->s[q]?=some (true,ts.map trD)->Wk F s (.ksrt (.v 2)) U Wy (ks.map prN):=by
 have f:(ZP (ts.map trD)).map prD=ts.map λt=>prN (ky t):=by
  unfold ZP;rw[bN,bN];rfl
 obtain⟨ks,e,l⟩:=XW (en:=prN) (P:=λk=>k∈ts.map ky) (ys:=pick (W3 (ZP (ts.map trD))) .non ((ZP (ts.map trD)).map prD)) λd b=>by
  have:=Zbz b;rw[f]at this;obtain⟨t,h,rfl⟩:=aS.mp this;exact⟨ky t,rfl,aS.mpr ⟨t,h,rfl⟩⟩
 refine⟨ks,?_,l,λF s q U m i st g=>?_⟩
 ·have:=congrArg List.length e
  rw[Ua,f,aB,aB]at this;omega
 ·refine⟨.lst st.length,st++[(true,ks.map prN)],λs=>s[st.length]?=some (true,ks.map prN),?_,.push,?_,λst' n=>n.get Zv⟩
  ·show Zq (Xk 2) QB U st=_
   unfold Zq Xk;rw[m];show(match st[q]? with
    |some (_,a)=>if a.length < 64 then some (D.lst st.length,st++[(true,pick (W3 (ZP a)) D.non ((ZP a).map prD))]) else none
    |none=>none)=_
   rw[g.get i];show(if (ts.map trD).length < 64 then _ else none)=_
   rw[if_pos (by rw[aB];exact j),e]
  ·show(match (st++[(true,ks.map prN)])[st.length]? with
    |some c=>if c.2.all ZaU=true then some (c.2,λs=>s[st.length]?=some c) else none
    |none=>none)=_
   rw[Zv];exact if_pos (cR.mpr λd b=>by obtain⟨k,_,rfl⟩:=aS.mp b;rfl)
theorem U4(h:Cl m sz ts)(l:ts.length < 64):∃ j:Li Tr,∀ F s A B q w x4 x5 x6 x7 x8 x9,s[q]?=some (true,ts.map trD)->Y F s (.tOf (.compT [2] (.ksrt (.v 2)) (.tupE (.aC (.v 0) (.aC (.v 1) (.u (.ix (.v 2) (.tupE (.aC (.v 0) (.u (.v 1))))))))) (.c (.bl true)))) (En A B q w x4 x5 x6 x7 x8 x9) (.tup (j.map trD)):=by
 obtain⟨ks,p,n,o⟩:=ZbW l;refine⟨ks.map λk=>(k.1,k.2,(lk ts k.1 k.2).getD 0),λF s A B q w x4 x5 x6 x7 x8 x9 f=>?_⟩
 rw[bN];refine Lv.tof (QE (U:=En A B q w x4 x5 x6 x7 x8 x9) (b:=two) (wk:=Wy) (fr:=[2]) (en:=prN) (o F s q _ rfl f) (by omega) λk e=>?_)
 obtain⟨b,i⟩:=UL (n k e);show Y F s _ [jN k.1,jN k.2,some (.dic q)] (trD (k.1,k.2,(lk ts k.1 k.2).getD 0));rw[i];exact .cons (.r rf) (.cons (.r rf) (.cons (Dp.g2 (a:=.v 2) (b:=.tupE (.aC (.v 0) (.u (.v 1)))) (x:=.dic q) (y:=prN k) (.r rf) (.r rf) (gs λst g=>by
  show(match ((dAt [.int (k.1:Int),.int (k.2:Int)] q st).join) with|some d=>some (d,st)|none=>none)=_
  rw[UC (g.get f),i];rfl)) .nil))
theorem ZhF{e:CE}{v:D}{a:Za}(h:ev F e U (st++[(true,[])])=some (v,a))(c:a[st.length]?=some (true,[])):ev F (.dd (.i 0) (.i 0) e) U st=some (.dic st.length,a.set st.length (true,[.tup [.int 0,.int 0,v]])):=by
 have b:∀ s,ev F (.i 0) U s=some (.int 0,s):=λ_=>rfl
 show ddE (ev F (.i 0)) (ev F (.i 0)) (ev F e) U st=_;unfold ddE;simp only[b,h,c];rw[if_pos (by unfold Zu;decide)]
 rfl
theorem Zfg{b:Nat}:mu m sz [(0,0,b)] [(0,0)]=2 * (b+2 ^ m * ((sz+1) * (sz+1) - 1))+1:=by
 exact rfl
theorem ZgQ{a:Nat}(h:a * ((sz+1) * (sz+1))<=440)(c:1<=a):2 * (a - 1+a * ((sz+1) * (sz+1) - 1))+1<=890:=by
 obtain⟨v,b⟩:∃ v,(sz+1) * (sz+1)=v+1:=⟨(sz+1) * (sz+1) - 1,by have:1<=(sz+1) * (sz+1):=dQ (Nat.le_add_left 1 sz) (Nat.le_add_left 1 sz);omega⟩
 rw[b,Nat.mul_succ]at h;rw[b,Nat.add_sub_cancel];omega
theorem Zck(W:Rs m rs)(A:Rs m rs')(h1:rs.length=sz)(h2:rs'.length=sz)(O:m<=60)(hz:(sz+1) * (sz+1) < 64)(hB:2 ^ m * ((sz+1) * (sz+1))<=440):CX (rT (n+8)) 201 [pgD tk m rs,pgD tk m rs'] ZhC:=by
 have R:1<=2 ^ m:=Nat.one_le_two_pow;obtain⟨M,l⟩:∃ M,M=890:=⟨_,rfl⟩;have Z:In m sz M [(0,0,2 ^ m - 1)] [(0,0)]:=by
  refine⟨bM.mpr ⟨λh=>(nomatch h),List.nodup_nil⟩,λt V=>?_,λx S=>S,?_⟩
  ·rw[aR.mp V];exact⟨aM _,aM _,by show 2 ^ m - 1 < 2 ^ m;omega⟩
  ·exact aP (cJ Zfg) (l ▸ ZgQ hB R)
 obtain⟨r,z,j⟩:=wl (n:=n) (tk:=tk) (show(sz+1) * (sz+1)<=100 by omega) W A h1 h2 O M _ _ (cJ l) Z
 -- up to the loop
 have pre:∀ st:Za,∃ t q w,st.length<=q/\st.length<=w/\q≠w/\Grw st t/\t[q]?=some (true,[(0,0,2 ^ m - 1)].map trD)/\t[w]?=some (true,[(0,0)].map prN)/\∀ P,ex (rT (n+7)) (.seq (.set 2 (.dd (.i 0) (.i 0) (.call 56 (.u (.ix (.v 0) (.i 1))) []))) (.seq (.set 3 (.lstE (.u (.tupE (.aC (.i 0) (.u (.i 0))))))) P)) [some (pgD tk m rs),some (pgD tk m rs'),none,none,none,none,none,none,none,none] st=ex (rT (n+7)) P (En (pgD tk m rs) (pgD tk m rs') q w none none none none none none) t:=λst=>by
  obtain⟨c,C,k⟩:=Y.call1 (F:=rT (n+7)) (s:=st++[(true,[])]) (f:=56) (a:=.ix (.v 0) (.i 1)) (x:=.int (m:Int)) (U:=[some (pgD tk m rs),some (pgD tk m rs'),none,none,none,none,none,none,none,none]) (.r rf) (Zeq (n:=n+5) O) _ .refl;have Q:c[st.length]?=some (true,[]):=k.get Zv;have ed:ev (rT (n+7)) (.dd (.i 0) (.i 0) (.call 56 (.u (.ix (.v 0) (.i 1))) [])) [some (pgD tk m rs),some (pgD tk m rs'),none,none,none,none,none,none,none,none] st=some (.dic st.length,c.set st.length (true,[(0,0,2 ^ m - 1)].map trD)):=by
   exact ZhF C Q
  have X:st.length < c.length:=Zt Q;have ll:(c.set st.length (true,[(0,0,2 ^ m - 1)].map trD)).length=c.length:=bJ;have gg:Grw st (c.set st.length (true,[(0,0,2 ^ m - 1)].map trD)):=Xm (Grw.push.trans k) (aD _);have c4:(c.set st.length (true,[(0,0,2 ^ m - 1)].map trD))[st.length]?=some (true,[(0,0,2 ^ m - 1)].map trD):=bV X
  generalize c.set st.length (true,[(0,0,2 ^ m - 1)].map trD)=t4 at *
  refine⟨t4++[(true,[(0,0)].map prN)],st.length,t4.length,aD _,by omega,by omega,gg.trans .push,Grw.push.get c4,Zv,λP=>?_⟩
  exact(Zc (Zn ed)).trans (Zc (Zn rfl))
 cases r with
 |none=>
  refine⟨.non,λs=>.of (v:=c_found_paper) rfl rfl λst g=>?_,.inl rfl⟩
  obtain⟨t,q,w,y,p,o,B,a,b,e⟩:=pre st;obtain⟨d,g2,D⟩:=j 1000 (by rw[l];decide) st t q w none none none none none none o y p a b B
  exact⟨d,(e _).trans (Zi D),g2⟩
 |some ts=>
  have E:=z ts rfl;have tl:=U5 E.nd E.bd;obtain⟨N,T⟩:=U4 E (by omega)
  refine⟨.tup (N.map trD),λs=>.of (v:=c_found_paper) rfl rfl λst g=>?_,.inr ⟨N,rfl⟩⟩
  obtain⟨t,q,w,y,p,o,B,a,b,e⟩:=pre st;obtain⟨d,g2,⟨L,K,J,I,H,G,D⟩,c2⟩:=j 1000 (by rw[l];decide) st t q w none none none none none none o y p a b B
  obtain⟨c,C,k⟩:=T (rT (n+7)) d (pgD tk m rs) (pgD tk m rs') q w L K J I H G c2 d .refl;have e4:ex (rT (n+7)) (.whl cW bW) (En (pgD tk m rs) (pgD tk m rs') q w none none none none none none) t=some (.nx (En (pgD tk m rs) (pgD tk m rs') q w L K J I H G),d):=D;exact⟨c,(e _).trans ((Zc e4).trans (Zi (ZJ C))),g2.trans k⟩
end
def fdN:Li D->Li D->Nat
 |x :: a,y :: ys=>if Zk x y=true then fdN a ys+1 else 0
 |_,_=>0
def trL(m:Nat)(rs:Li Rw)(L:Nat)(ins:Li Int):Li D:=stD 0 (v0 m ins) :: tl rs L 0 (v0 m ins)
theorem Zd0:∀ {A B:Li D}{i:Nat},(∀ j,j < i->∃ x y,A[j]?=some x/\B[j]?=some y/\Zk x y=true)->(∃ x y,A[i]?=some x/\B[i]?=some y/\Zk x y=false)->fdN A B=i
 |[],B,i,_,⟨x,y,h,_⟩=>nomatch h
 |a :: A,[],i,_,⟨x,y,_,h,_⟩=>nomatch h
 |a :: A,b :: B,0,_,⟨x,y,e,d,c⟩=>by
  cases e;cases d
  unfold fdN;rw[if_neg (by rw[c];decide)]
 |a :: A,b :: B,i+1,f,⟨x,y,e,d,c⟩=>by
  obtain⟨n,m,l,k,g⟩:=f 0 (Nat.succ_pos _);cases l;cases k
  unfold fdN;rw[if_pos g,Zd0 (λj h=>f (j+1) (Nat.succ_lt_succ h)) ⟨x,y,e,d,c⟩]
theorem Uc{f:Nat->Ot D}:∀ {M a:Nat},skR f (List.range' a M)=some d->∃ i,a<=i/\i < a+M/\f i=some d/\∀ j,a<=j->j < i->f j=none
 |M+1,a,h=>by
  rw[dC]at h;unfold skR at h;cases c:f a with
  |some v=>rw[c]at h;cases h;exact⟨a,aD _,by omega,c,λj m l=>by omega⟩
  |none=>
   rw[c]at h;obtain⟨i,m,l,k,g⟩:=Uc h;refine⟨i,by omega,by omega,k,λj n b=>?_⟩
   by_cases e:j=a
   ·rw[e];exact c
   ·exact g j (by omega) b
def inT(ins:Li Int):D:=.tup (inZ ins)
def tel(m:Nat)(rs a:Li Rw)(L:Nat)(ins:Li Int):Bool:=!Zk (oc rs L 0 (v0 m ins)) (oc a L 0 (v0 m ins))
def fT(t:Li Int->Bool):Nat->Li (Li Int)->Ot Nat
 |_,[]=>none
 |k,x :: l=>if t x=true then some k else fT t (k+1) l
variable{l:Li (Li Int)}
section
variable{t:Li Int->Bool}{l':Li (Li Int)}
theorem QN:∀ {vs:Li Int},ZS w (vs.map D.int)=true
 |[]=>by cases w<;>rfl
 |v :: vs=>by
  show(okD w (.int v)&&ZS w (vs.map D.int))=true;rw[QN];cases w<;>rfl
theorem Zbr:okD 8 (stD k vs)=true:=by
 show(true&&(ZS 6 (vs.map D.int)&&true))=true;rw[QN];rfl
theorem Y3:∀ {n k:Nat}{vs:Li Int},∃ a,oc rs n k vs=.tup a/\okD 8 (.tup a)=true
 |0,k,vs=>by unfold oc;split<;>exact⟨_,rfl,rfl⟩
 |n+1,k,vs=>by
  unfold oc;cases q:mv rs k vs with
  |inr p=>exact Y3
  |inl o=>
   unfold mv at q;cases z:rs[k]? with
   |none=>rw[z]at q;cases q;exact⟨_,rfl,rfl⟩
   |some r=>
    rw[z]at q;cases r with
    |tell y=>cases q;exact⟨_,rfl,rfl⟩
    |_=>cases q
theorem Zbs:∀ {n k:Nat}{vs:Li Int},∀ d∈tl rs n k vs,∃ b,d=.tup b/\okD 8 (.tup b)=true
 |0,k,vs=>λd hd=>by rw[aR.mp hd];exact Y3 (n:=0) (k:=k) (vs:=vs)
 |n+1,k,vs=>λd hd=>by
  unfold tl at hd;have a:=Y3 (rs:=rs) (n:=n+1) (k:=k) (vs:=vs);unfold oc at a;cases q:mv rs k vs with
  |inl o=>rw[q]at hd a;rw[aR.mp hd];exact a
  |inr p=>
   rw[q]at hd;rcases aF.mp hd with rfl|hd
   ·exact⟨_,rfl,Zbr⟩
   ·exact Zbs d hd
theorem JP(c:Rs m rs)(d:m<=1000)(f:ins.length<=m)(b:∀ v∈ins,Sm v)(g:L<=800):C (rT (n+7)) s 13 [pgD tk m rs,inT ins,.int (L:Int)] (oc rs L 0 (v0 m ins)):=by
 have h:=Y.lastT (F:=rT (n+6)) (s:=s) (a:=.call 12 (.aC (.v 0) (.aC (.v 1) (.u (.v 2)))) []) (U:=[some (pgD tk m rs),some (inT ins),jN L]) (xs:=stD 0 (v0 m ins) :: tl rs L 0 (v0 m ins)) (.call (xs:=[pgD tk m rs,.tup (inZ ins),.int (L:Int)]) (.r rf) (W1 c d f b g)) (cL _ _) (by have:=Ww (rs:=rs) (M:=L) (k:=0) (vs:=v0 m ins);rw[aQ];omega)
 have e:(stD 0 (v0 m ins) :: tl rs L 0 (v0 m ins)).getLastD .non=oc rs L 0 (v0 m ins):=by
  rw[<-Vy];cases q:tl rs L 0 (v0 m ins) with
  |nil=>exact absurd q ZbX
  |cons x xs=>rfl
 rw[e]at h;exact .of (v:=c_outcome) rfl rfl (.ret h)
theorem Qd(o:Rs m rs)(a:Rs m rs')(c:m<=1000)(d:ins.length<=m)(b:∀ v∈ins,Sm v)(e:L<=800):C (rT (n+8)) s 99 [pgD tk m rs,pgD tk m rs',inT ins,.int (L:Int)] (.bl (tel m rs rs' L ins)):=by
 obtain⟨xs,i,l⟩:=Y3 (rs:=rs) (n:=L) (k:=0) (vs:=v0 m ins);obtain⟨ys,h,j⟩:=Y3 (rs:=rs') (n:=L) (k:=0) (vs:=v0 m ins);have g:=JP (n:=n) (s:=s) (tk:=tk) o c d b e;have f:=JP (n:=n) (s:=s) (tk:=tk) a c d b e;unfold tel;rw[i]at g;rw[h]at f;rw[i,h];exact .of (v:=c_tells) rfl rfl (.ret (.ned (.call (xs:=[pgD tk m rs,inT ins,.int (L:Int)]) (.r rf) g) (.call (xs:=[pgD tk m rs',inT ins,.int (L:Int)]) (.r rf) f) l j))
theorem Zf1{p q:Nat×Li Int}(h:stD p.1 p.2=stD q.1 q.2):p=q:=by
 have h:D.tup [.int (p.1:Int),.tup (p.2.map D.int)]=.tup [.int (q.1:Int),.tup (q.2.map D.int)]:=h
 injection h with h;injection h with b h;injection h with a _;injection b with b;injection a with a
 exact Prod.ext (Int.ofNat.inj b) (V0 a)
theorem Vz:∀ {L k:Nat}{vs:Li Int},(∀ (i:Nat) x y,(tl rs L k vs)[i]?=some x->(tl rs' L k vs)[i]?=some y->x=y)->oc rs L k vs=oc rs' L k vs
 |0,k,vs,h=>h 0 _ _ rfl rfl
 |L+1,k,vs,h=>by
  unfold tl at h;unfold oc;cases q:mv rs k vs with
  |inl o=>cases c:mv rs' k vs with
   |inl d=>rw[q,c]at h;exact h 0 _ _ rfl rfl
   |inr p=>
    rw[q,c]at h;have e:=h 0 _ _ rfl rfl;have:=(Zfh q).1;rw[e]at this;cases this
  |inr p=>cases c:mv rs' k vs with
   |inl d=>
    rw[q,c]at h;have e:=h 0 _ _ rfl rfl;have:=(Zfh c).1;rw[<-e]at this;cases this
   |inr f=>
    rw[q,c]at h;cases Zf1 (h 0 _ _ rfl rfl)
    exact Vz λi x y a b=>h (i+1) x y a b
theorem Zeu(X:Rs m rs)(F:Rs m rs')(O:m<=1000)(H:ins.length<=m)(N:∀ v∈ins,Sm v)(Q:L<=800)(w:tel m rs rs' L ins=true):∃ (x y:D),∀ s,C (rT (n+7)) s 98 [pgD tk m rs,pgD tk m rs',inT ins,.int (L:Int)] (.tup [.int (fdN (trL m rs L ins) (trL m rs' L ins):Int),x,y]):=by
 obtain⟨A,p⟩:∃ A,stD 0 (v0 m ins) :: tl rs L 0 (v0 m ins)=A:=⟨_,rfl⟩;obtain⟨B,u⟩:∃ B,stD 0 (v0 m ins) :: tl rs' L 0 (v0 m ins)=B:=⟨_,rfl⟩;have ok:∀ {rs:Li Rw}{A:Li D}{i:Nat}{x:D},stD 0 (v0 m ins) :: tl rs L 0 (v0 m ins)=A->A[i]?=some x->∃ xs,x=.tup xs/\okD 8 (.tup xs)=true:=λ{rs A i x} e h=>by
  rw[<-e]at h;rcases aF.mp (aW h) with rfl|h
  ·exact⟨_,rfl,Zbr⟩
  ·exact Zbs _ h
 let f:Nat->Ot D:=λi=>if (!Zk (A.getD i .non) (B.getD i .non))=true then some (.tup [.int (i:Int),A.getD i .non,B.getD i .non]) else none
 have P:∀ s,C (rT (n+7)) s 98 [pgD tk m rs,pgD tk m rs',inT ins,.int (L:Int)] ((skR f (List.range (min A.length B.length))).getD .non):=λs=>by
  have tA:=W1 (n:=n) (s:=s) (tk:=tk) X O H N Q;have tB:=W1 (n:=n) (s:=s) (tk:=tk) F O H N Q;rw[p]at tA;rw[u]at tB;have lA:A.length<=802:=by rw[<-p,aQ];have:=Ww (rs:=rs) (M:=L) (k:=0) (vs:=v0 m ins);omega
  refine .of (v:=c_parting) rfl rfl (.set (.call (xs:=[pgD tk m rs,.tup (inZ ins),.int (L:Int)]) (.r rf) tA) (.set (.call (xs:=[pgD tk m rs',.tup (inZ ins),.int (L:Int)]) (.r rf) tB) (.seekR (i:=6) (E:=λy=>[some (pgD tk m rs),some (pgD tk m rs'),some (inT ins),jN L,some (.tup A),some (.tup B),y]) (f:=f) (λ_ _=>rfl) ?_ (by omega) (λi H=>?_) λy=>.ret (.r rf))))
  ·refine Dp.g2 (x:=.int (A.length:Int)) (y:=.int (B.length:Int)) (.lnT (.r rf)) (.lnT (.r rf)) (gp λst=>?_)
   show some (D.int (if (B.length:Int) < (A.length:Int) then (B.length:Int) else (A.length:Int)),st)=_
   rw[show(if (B.length:Int) < (A.length:Int) then (B.length:Int) else (A.length:Int))=((min A.length B.length:Nat):Int) by split<;>omega]
  ·have t:=lG7 (l:=A) (i:=i) (by omega)
   have iB:=lG7 (l:=B) (i:=i) (by omega)
   obtain⟨xs,ex,U⟩:=ok p t;obtain⟨ys,R,ky⟩:=ok u iB;have gA:A.getD i .non=A[i]:=by rw[bB,t];rfl
   have gB:B.getD i .non=B[i]:=by rw[bB,iB];rfl
   show Bs _ s _ _ (if (!Zk (A.getD i .non) (B.getD i .non))=true then some (.tup [.int (i:Int),A.getD i .non,B.getD i .non]) else none)
   rw[gA,gB];rw[ex]at t;rw[R]at iB;rw[ex,R];have J:Y (rT (n+6)) s (.ix (.v 4) (.v 6)) [some (pgD tk m rs),some (pgD tk m rs'),some (inT ins),jN L,some (.tup A),some (.tup B),jN i] (.tup xs):=.ixt (j:=i) (.r rf) (.r rf) t;have yB:Y (rT (n+6)) s (.ix (.v 5) (.v 6)) [some (pgD tk m rs),some (pgD tk m rs'),some (inT ins),jN L,some (.tup A),some (.tup B),jN i] (.tup ys):=.ixt (j:=i) (.r rf) (.r rf) iB
   exact .ite (.ned J yB U ky) (λ_=>.cons (.r rf) (.cons J (.cons yB .nil))) λ_=>.skip
 cases q:skR f (List.range (min A.length B.length)) with
 |some d=>
  have K:=q;rw[dB]at K;obtain⟨i,_,G,o,Z⟩:=Uc K;rw[bE]at G;have g:∀ {A:Li D}{j:Nat},j < A.length->A[j]?=some (A.getD j .non):=λ{A j} h=>by rw[bB,lG7 h];rfl
  have o:(if (!Zk (A.getD i .non) (B.getD i .non))=true then some (D.tup [.int (i:Int),A.getD i .non,B.getD i .non]) else none)=some d:=o
  have e:fdN (trL m rs L ins) (trL m rs' L ins)=i:=by
   unfold trL;rw[p,u];refine Zd0 (λj h=>⟨_,_,g (by omega),g (by omega),?_⟩) ⟨_,_,g (by omega),g (by omega),?_⟩
   ·have:=Z j (aM _) h
    have this:(if (!Zk (A.getD j .non) (B.getD j .non))=true then some (D.tup [.int (j:Int),A.getD j .non,B.getD j .non]) else none)=none:=this
    cases z:Zk (A.getD j .non) (B.getD j .non) with
    |true=>rfl
    |false=>rw[z]at this;cases this
   ·cases z:Zk (A.getD i .non) (B.getD i .non) with
    |false=>rfl
    |true=>rw[z]at o;cases o
  split at o
  ·cases o
   rw[q]at P;rw[e];exact⟨_,_,P⟩
  ·cases o
 |none=>
  exfalso
  have e:oc rs L 0 (v0 m ins)=oc rs' L 0 (v0 m ins):=Vz λi x y a b=>by
   have all:∀ {l:Li Nat},skR f l=none->∀ z∈l,f z=none:=λ{l} h=>by
    induction l with
    |nil=>intro z hz;cases hz
    |cons v l W=>
     intro z hz;unfold skR at h;cases c:f v with
     |some _=>rw[c]at h;cases h
     |none=>
      rw[c]at h;rcases aF.mp hz with rfl|hz
      ·exact c
      ·exact W h z hz
   have T:A[i+1]?=some x:=by rw[<-p];exact a
   have S:B[i+1]?=some y:=by rw[<-u];exact b
   have:=all q (i+1) (cH.mpr (by have:=Zt T;have:=Zt S;omega))
   have this:(if (!Zk (A.getD (i+1) .non) (B.getD (i+1) .non))=true then some (D.tup [.int ((i+1:Nat):Int),A.getD (i+1) .non,B.getD (i+1) .non]) else none)=none:=this
   rw[bB,bB,T,S,Option.getD_some,Option.getD_some]at this;split at this
   ·cases this
   ·rename_i z
    cases I:Zk x y with
    |true=>exact W4 I
    |false=>rw[I]at z;exact absurd rfl z
  unfold tel at w;obtain⟨xs,e1,V⟩:=Y3 (rs:=rs') (n:=L) (k:=0) (vs:=v0 m ins);rw[e,e1,show Zk (.tup xs) (.tup xs)=true from Yx (n:=7) V]at w;cases w
theorem Zeh{f:Nat×Li Int->Ot D}(a:∀ p,f p=if t p.2=true then some (iN p.1) else none):∀ {k:Nat}{l:Li (Li Int)},skR f (enm k l)=(fT t k l).map iN
 |_,[]=>rfl
 |k,x :: l=>by
  show(match f (k,x) with|some d=>some d|none=>skR f (enm (k+1) l))=_
  rw[a];unfold fT;by_cases c:t x=true
  ·rw[if_pos c,if_pos c];rfl
  ·rw[if_neg c,if_neg c];exact Zeh a
theorem Zcf(b:Rs m rs)(a:Rs m rs')(d:m<=1000)(e:∀ ins∈l,ins.length<=m/\∀ v∈ins,Sm v)(g:L<=800):C (rT (n+9)) s 281 [pgD tk m rs,pgD tk m rs',.tup (l.map inT),.int (L:Int)] (((fT (tel m rs rs' L) 0 l).map iN).getD .non):=by
 rw[<-Zeh (f:=λp:Nat×Li Int=>if tel m rs rs' L p.2=true then some (iN p.1) else none) λ_=>rfl]
 refine .of (v:=c_first_telling) rfl rfl (.seekE (i:=4) (i':=5) (l:=l) (en:=inT) (E:=λy z=>[some (pgD tk m rs),some (pgD tk m rs'),some (.tup (l.map inT)),jN L,y,z]) (λ_ _ _ _=>rfl) (.r rf) (λp c=>?_) λy z=>.ret (.r rf))
 have:=e _ (W8 c);exact .ite (.call (xs:=[pgD tk m rs,pgD tk m rs',inT p.2,.int (L:Int)]) (.r rf) (Qd b a d this.1 this.2 g)) (λ_=>.r rf) λ_=>.skip
theorem Qr:∀ {k:Nat}{l:Li (Li Int)},fT t k l=some i->k<=i/\∃ x,l[i - k]?=some x/\t x=true
 |k,x :: l,h=>by
  unfold fT at h;split at h
  ·cases h;exact⟨aD _,x,by rw[Nat.sub_self];rfl,‹_›⟩
  ·obtain⟨c,y,b,a⟩:=Qr h
   refine⟨by omega,y,?_,a⟩
   rw[show i - k=(i - (k+1))+1 by omega];exact b
theorem JJ(b:k < rs.length)(a:rs.length<=1000):C (rT (n+2)) s 180 [pgD tk m rs,.int (k:Int),rwE r] (pgD tk m (rs.set k r)):=by
 have:=Yg (n:=n) (s:=s) (xs:=rs.map rwE) (i:=k) (d:=rwE r) (by rw[aB];exact b) (by rw[aB];exact a)
 rw[<-dO]at this;exact .of (v:=c_fake_of) rfl rfl (.ret (.cons (.r rf) (.cons (.r rf) (.cons (.call (xs:=[.tup (rs.map rwE),.int (k:Int),rwE r]) (.r rf) this) .nil))))
end
def pdD(p:Int×Int):D:=.tup [.int p.1,.int p.2]
def exL(b:Li Int)(a:Li (Li Int)):Li (Li Int):=a.flatMap λins=>b.map λv=>ins++[v]
def prL(b:Li (Li Int))(d:Li (Li Int)):Li (Li Int):=d.foldl (λa c=>exL c a) b
def wdI(b:Li (Int×Int))(a:Int):Int:=b.foldl (λa p=>a * (p.2 - p.1+1)) a
def bxL(p:Int×Int):Li Int:=XG p.1 (p.2+1) 1
structure Nw(tks:List (Int×Int)):Prop where
 l:tks.length<=3
 b:∀ p∈tks,-10<=p.1/\p.1<=p.2/\p.2<=p.1+2/\p.1<=10
variable{b2:Bool}
variable{bb:Bool}{tks:Li (Int×Int)}
section
variable{x0:D}{acc ls:Li (Li Int)}
theorem Wk.lst(d:s[w]?=some (bb,xs))(h:Y F s e U (.lst w)):Wk F s e U (Xs false) xs:=λst g=>by
 obtain⟨s1,i,a⟩:=h st g;have b:=(g.trans a).get d;refine⟨.lst w,s1,λs=>s[w]?=some (bb,xs),i,a,?_,λst' f=>f.get b⟩
 show(match s1[w]? with
  |some c=>some (c.2,λs=>s[w]?=some c)
  |none=>none)=_
 rw[b]
theorem ZcY{y3 y4:Ot D}(e:st[i]?=some (bb,acc.map inT))(p:st[j]?=some (b2,ns.map D.int))(n:(exL ns acc).length<=900)(x:ns.length<=900)(o:∀ ins∈acc,ins.length<=900):∃ c d st',ex F ZA [some x0,jL i,jL j,y3,y4] st=some (.nx [some x0,jL c,jL j,jL c,d],st')/\Grw st st'/\st'[c]?=some (true,(exL ns acc).map inT):=by
 have la:=Zt e;obtain⟨h,k,u,m,l⟩:=ZeD (F:=F) (s:=st) (j:=st.length) (q:=Yi) (i:=4) (la:=i) (bb:=bb) (E:=λy=>[some x0,jL i,jL j,jL st.length,y]) (en:=inT) (g:=λins=>(ns.map λv=>ins++[v]).map inT) (all:=acc) (λ_ _=>rfl) (aD _) (by omega) (λins a=>.one (.ext rfl (by
   rw[bN];exact Vg (b:=one) (fr:=[4]) (wk:=Xs false) (en:=D.int) (Wk.lst p (.r rf)) (by omega) λv w=>by
    have:=o ins a;show Y F st _ [jI v,some (inT ins)] (inT (ins++[v]));unfold inT inZ;rw[cG];exact .adT (.r rf) (.cons (.r rf) .nil) (by rw[aB];show _+1<=_;omega)))) acc.length 0 (y:=y4) (st:=st++[(true,[])]) (acc:=[]) (bE _) .push (Grw.push.get e) Zv (by
    rw[cF,cY,bE,<-cT,aB];exact n)
 rw[cF,dG,<-cT]at l;have t:ex F (.for1 4 false (.v 1) Yi) [some x0,jL i,jL j,jL st.length,y4] (st++[(true,[])])=some (.nx [some x0,jL i,jL j,jL st.length,h],k):=by
  rw[<-u,<-aB (as:=acc) (f:=inT)];exact Va (bb:=bb) (xs:=acc.map inT) rfl (Grw.push.get e)
 exact⟨st.length,h,k,(Zc (Zn (v:=.lst st.length) (st':=st++[(true,[])]) rfl)).trans ((Zc t).trans ((Zc (Zn rfl)).trans Zh)),m.grw (aD _) .push,l⟩
theorem ZeT:(exL ns acc).length=acc.length * ns.length:=by
 unfold exL
 induction acc with
 |nil=>exact(Nat.zero_mul _).symm
 |cons x l a=>rw[bU,aI,a,aB,aQ,Nat.add_mul,Nat.one_mul,Nat.add_comm]
def Al(c:Nat)(acc:Li (Li Int)):Prop:=∀ ins∈acc,ins.length=c/\∀ v∈ins,Sm v
theorem Al.ex(h:Al k acc)(d:∀ v∈ns,Sm v):Al (k+1) (exL ns acc):=λins a=>by
 obtain⟨x,b,a⟩:=dP.mp a;obtain⟨v,c,rfl⟩:=aS.mp a;obtain⟨f,e⟩:=h x b;refine⟨by rw[aI,f];rfl,λz hz=>?_⟩
 rcases bP.mp hz with hz|hz
 ·exact e z hz
 ·rw[aR.mp hz];exact d v c
theorem Al.pr:∀ {ls:Li (Li Int)}{k:Nat}{acc:Li (Li Int)},Al k acc->(∀ ns∈ls,∀ v∈ns,Sm v)->Al (k+ls.length) (prL acc ls)
 |[],_,_,h,_=>h
 |ns :: ls,k,acc,h,a=>by
  have:=Al.pr (ls:=ls) (h.ex (a ns lQ7)) λz b=>a z (lM7 _ b)
  rw[aQ,show k+(ls.length+1)=k+1+ls.length by omega]
  exact this
def Cs(s:Za)(l:Li Nat)(ls:Li (Li Int)):Prop:=l.length=ls.length/\∀ (i:Nat) j ns,l[i]?=some j->ls[i]?=some ns->∃ b,s[j]?=some (b,ns.map D.int)
theorem Qz{q:Za}{l:Li Nat}(u:q[w]?=some (bb,l.map D.lst))(k:Cs q l ls)(C:∀ ns∈ls,ns.length<=3)(K:ls.length<=3):∀ (M i:Nat) (acc:Li (Li Int)) (c:Nat) (b:Bool) (j y3 y4:Ot D) (st:Za),i+M=ls.length->acc.length * 3 ^ M<=27->(∀ ins∈acc,ins.length<=900)->Al i acc->(∀ ns∈ls,∀ v∈ns,Sm v)->Grw q st->st[c]?=some (b,acc.map inT)->∃ f V o n m st',ZK (λd U s=>ex F ZA (Zf U 2 d) s) w M i [jL w,jL c,j,y3,y4] st=some (.nx [jL w,jL f,o,n,m],st')/\Grw st st'/\st'[f]?=some (V,(prL acc (ls.drop i)).map inT)
 |0,i,acc,c,b,j,y3,y4,st,L,_,_,_,_,g,t=>⟨c,b,j,y3,y4,st,by unfold ZK;rw[g.get u];exact if_pos (by rw[aB,k.1];omega),.refl,by rw[dJ (by omega)];exact t⟩
 |M+1,i,acc,c,b,j,y3,y4,st,L,B,O,W,A,g,t=>by
  have e:i < ls.length:=by omega
  have a:i < l.length:=by rw[k.1];exact e
  obtain⟨b2,N⟩:=k.2 i _ _ (lG7 a) (lG7 e);have I:=C _ (cM e);have x:=ZeT (ns:=ls[i]) (acc:=acc);rw[Nat.pow_succ]at B;have y:(exL ls[i] acc).length * 3 ^ M<=27:=by
   rw[x];refine aP ?_ B;rw[Nat.mul_assoc,Nat.mul_comm (3 ^ M) 3];exact Nat.mul_le_mul_left _ (Nat.mul_le_mul_right _ I)
  have H:1<=3 ^ M:=Nat.one_le_pow _ _ (by decide)
  have X:(exL ls[i] acc).length<=27:=aP (by have:=Nat.mul_le_mul_left (exL ls[i] acc).length H;rwa [Nat.mul_one]at this) y
  obtain⟨f,p,G,x,z,Q⟩:=ZcY (F:=F) (x0:=.lst w) (y3:=y3) (y4:=y4) t (g.get N) (by omega) (by omega) O
  have h:=W.ex (A _ (cM e));obtain⟨S,T,o,n,m,E,R,J,P⟩:=Qz u k C K M (i+1) (exL ls[i] acc) f true (jL l[i]) (jL f) p G (by omega) y (λins r=>by have:=(h ins r).1;omega) h A (g.trans z) Q
  refine⟨S,T,o,n,m,E,?_,z.trans J,by rw[bQ e];exact P⟩
  conv=>lhs;unfold ZK
  have r:(l.map D.lst)[i]?=jL l[i]:=by rw[aV,lG7 a];rfl
  simp only[g.get u,r];show(match ex F ZA [jL w,jL c,jL l[i],y3,y4] st with
   |some (.nx U',st')=>ZK (λd U s=>ex F ZA (Zf U 2 d) s) w M (i+1) U' st'
   |some (.ct U',st')=>ZK (λd U s=>ex F ZA (Zf U 2 d) s) w M (i+1) U' st'
   |some (.bk U',st')=>some (.nx U',st')
   |some (.rt v,st')=>some (.rt v,st')
   |none=>none)=_
  rw[x];exact R
theorem JL{s0:Za}{l:Li Nat}(f:s0[w]?=some (bb,l.map D.lst))(d:Cs s0 l ls)(q:∀ ns∈ls,ns.length<=3)(b:ls.length<=3)(p:∀ ns∈ls,∀ v∈ns,Sm v):C (rT (n+1)) s0 134 [.lst w] (.tup ((prL [[]] ls).map inT)):=λst g=>by
 obtain⟨u,x,k,j,i,a,t,m,e⟩:=Qz (F:=rT n) f d q b ls.length 0 [[]] st.length true none none none (st++[(true,[.tup []])]) (bE _) (by
  have r:(1:Nat) * 3 ^ ls.length<=3 ^ 3:=by rw[Nat.one_mul];exact Nat.pow_le_pow_right (by decide) b
  exact r) (λins h=>by rw[aR.mp h];exact aM _) (λins h=>by rw[aR.mp h];exact⟨rfl,λv o=>nomatch o⟩) p (g.trans .push) Zv
 rw[cF]at e;have s:ex (rT n) (.for1 2 false (.v 0) ZA) [jL w,jL st.length,none,none,none] (st++[(true,[.tup []])])=some (.nx [jL w,jL u,k,j,i],a):=by
  rw[<-t,show ls.length=(l.map D.lst).length by rw[aB,d.1]]
  exact Va (bb:=bb) (xs:=l.map D.lst) rfl ((g.trans .push).get f)
 exact⟨a,XE (v:=c_inputs_of) rfl rfl ((Zc (Zn (v:=.lst st.length) (st':=st++[(true,[.tup []])]) rfl)).trans ((Zc s).trans (Zi (ZJ (Yf (c:=(x,(prL [[]] ls).map inT)) rfl e))))),Grw.push.trans m⟩
theorem Qn{α:Type}{en:α->D}{g:α->Li D}{ok:Za->Prop}{fe fc:D->Za->Res}(o:∀ d st,fc d st=some (.bl true,st))(e:∀ st,ok st):∀ {l:Li α},(∀ a∈l,Lv s (fe (en a)) (g a))->∀ st,Grw s st->∃ (c:Li Nat) (st':Za),ZX ok fe fc (l.map en) st=some (c.map D.lst,st')/\Grw st st'/\c.length=l.length/\∀ (i:Nat) j a,c[i]?=some j->l[i]?=some a->∃ b,st'[j]?=some (b,g a)
 |[],_,st,k=>⟨[],st,if_pos (e st),.refl,rfl,λi j a h=>nomatch h⟩
 |x :: xs,h,st,k=>by
  obtain⟨s1,j,b,y,v,m⟩:=h x lQ7 st k;obtain⟨c,q,w,f,r,z⟩:=Qn o e (λd u=>h d (lM7 _ u)) s1 (k.trans m)
  refine⟨j :: c,q,?_,m.trans f,congrArg (·+1) r,λi t a n p=>?_⟩
  ·rw[aO,ZX,if_pos (e st),o]
   simp only[y,w,aO]
  ·cases i with
   |zero=>cases n;cases p;exact⟨b,f.get v⟩
   |succ i=>exact z i t a n p
theorem Zaa{p:Int×Int}:∀ v∈bxL p,p.1<=v/\v<=p.2:=λv a=>by
 obtain⟨k,b,rfl⟩:=aS.mp a;have:=cH.mp b;unfold Yj at this;rw[if_pos (by decide),dE]at this
 split at this<;>omega
theorem ZeN{p:Int×Int}(h:p.1<=p.2/\p.2<=p.1+2):(bxL p).length<=3:=by
 unfold bxL XG Yj;rw[aB,bR,if_pos (by decide),if_pos (by omega),dE]
 omega
theorem Zen:∀ {tks:Li (Int×Int)}{a:Int},(∀ p∈tks,p.1<=p.2/\p.2<=p.1+2)->0 < a->0 < wdI tks a/\wdI tks a<=a * 3 ^ tks.length
 |[],a,_,h=>⟨h,by show a<=a * 1;omega⟩
 |p :: tks,a,b,h=>by
  have d:=b p lQ7;obtain⟨f,e⟩:=Zen (tks:=tks) (a:=a * (p.2 - p.1+1)) (λz c=>b z (lM7 _ c)) (Int.mul_pos h (by omega))
  refine⟨f,Int.le_trans e ?_⟩;rw[aQ,Int.pow_succ,Int.mul_assoc,Int.mul_comm (3 ^ tks.length) 3];exact Int.mul_le_mul_of_nonneg_left (Int.mul_le_mul_of_nonneg_right (by omega) (Int.le_of_lt (Int.pow_pos (by decide)))) (Int.le_of_lt h)
theorem Nw.wd(h:Nw tks):0 < wdI tks 1/\wdI tks 1<=27:=by
 obtain⟨f,d⟩:=Zen (tks:=tks) (a:=1) (λp c=>⟨(h.b p c).2.1,(h.b p c).2.2.1⟩) (by decide)
 refine⟨f,Int.le_trans d ?_⟩;have g:=h.l;have:tks.length=0\/tks.length=1\/tks.length=2\/tks.length=3:=by omega
 rcases this with e|e|e|e<;>rw[e]<;>decide
theorem Q9{x:Ot D}:∀ {tks:Li (Int×Int)}{a:Int}{y z:Ot D}{st:Za},(∀ p∈tks,ZR (p.2 - p.1+1)=true)->∃ c b,Zj (Wp 2 3 (ex F Z1)) (tks.map pdD) [x,jI a,y,z] st=some (.nx [x,jI (wdI tks a),c,b],st)
 |[],a,y,z,st,_=>⟨y,z,rfl⟩
 |p :: tks,a,y,z,st,h=>by
  have e:ex F Z1 [x,jI a,jI p.1,jI p.2] st=some (.nx [x,some (.int (a * (p.2 - p.1+1))),jI p.1,jI p.2],st):=by
   have:ev F (.bin .Mult (.v 1) (.bin .Add (.bin .Sub (.v 3) (.v 2)) (.i 1))) [x,jI a,jI p.1,jI p.2] st=some (.int (a * (p.2 - p.1+1)),st):=by
    show Uv .Mult (.int a) (.int (p.2 - p.1+1)) st=_;show(match (if ZR a||ZR (p.2 - p.1+1) then some (a * (p.2 - p.1+1)) else none) with|some k=>some (D.int k,st)|none=>none)=_
    rw[h p lQ7,Bool.or_true];rfl
   exact(Zc (Zn this)).trans Zh
  obtain⟨c,b,f⟩:=Q9 (tks:=tks) (a:=a * (p.2 - p.1+1)) (y:=jI p.1) (z:=jI p.2) (st:=st) λq d=>h q (lM7 _ d)
  refine⟨c,b,?_⟩;show(match ex F Z1 [x,jI a,jI p.1,jI p.2] st with
   |some (.nx U',st')=>Zj (Wp 2 3 (ex F Z1)) (tks.map pdD) U' st'
   |some (.ct U',st')=>Zj (Wp 2 3 (ex F Z1)) (tks.map pdD) U' st'
   |some (.bk U',st')=>some (.nx U',st')
   |some (.rt v,st')=>some (.rt v,st')
   |none=>none)=_
  rw[e];exact f
theorem Ul(h:Nw tks):C (rT (n+2)) s 135 [pgD (.tup (tks.map pdD)) m rs] (.bl false):=by
 have l:=h.wd;have c:C (rT (n+1)) s 133 [pgD (.tup (tks.map pdD)) m rs] (.int (wdI tks 1)):=λst g=>by
  obtain⟨f,d,e⟩:=Q9 (F:=rT n) (x:=some (pgD (.tup (tks.map pdD)) m rs)) (tks:=tks) (a:=1) (y:=none) (z:=none) (st:=st) λp j=>UK (by have:=h.b p j;omega)
  have k:ex (rT n) (.for2 2 3 (.ix (.v 0) (.i 0)) Z1) [some (pgD (.tup (tks.map pdD)) m rs),jI 1,none,none] st=some (.nx [some (pgD (.tup (tks.map pdD)) m rs),jI (wdI tks 1),f,d],st):=e;exact⟨st,XE (v:=c_width) rfl rfl ((Zc (Zn rfl)).trans ((Zc k).trans (Zi (ZJ rfl)))),.refl⟩
 exact .of (v:=c_is_wide) rfl rfl (.ret (.cmp (.call1 (.r rf) c) (.r rf) λ_=>by show some (decide ((64:Int) < wdI tks 1))=_;rw[aH (by omega)]))
theorem Zcm(h:Nw tks):C (rT (n+4)) s 139 [pgD (.tup (tks.map pdD)) m rs] (.tup ((prL [[]] (tks.map bxL)).map inT)):=by
 have t:C (rT (n+3)) s 136 [pgD (.tup (tks.map pdD)) m rs] (.tup ((prL [[]] (tks.map bxL)).map inT)):=by
  refine .of (v:=c_box) rfl rfl (.no (.call1 (.r rf) (Ul h)) (.ret λst g=>?_))
  obtain⟨u,f,J,A,y,L⟩:=Qn (s:=st) (ok:=λ_=>True) (fe:=λd=>ev (rT (n+2)) (.lstR (.v 0) (.bin .Add (.v 1) (.i 1))) (ZU two [some (pgD (.tup (tks.map pdD)) m rs)] [] d)) (fc:=λd=>ev (rT (n+2)) (.c (.bl true)) (ZU two [some (pgD (.tup (tks.map pdD)) m rs)] [] d)) (en:=pdD) (g:=λp=>(bxL p).map D.int) (l:=tks) (λ_ _=>rfl) (λ_=>trivial) (λp a st k=>by
   have a:=h.b p a;refine⟨st++[(true,(bxL p).map D.int)],st.length,true,?_,Zv,.push⟩;show(if XY p.1 (p.2+1) 1=true/\p.2+1 - p.1<=1000 then some (D.lst st.length,st++[(true,(XG p.1 (p.2+1) 1).map D.int)]) else none)=_
   exact if_pos ⟨aL ⟨⟨by omega,by omega⟩,⟨by omega,by omega⟩,.inl rfl⟩,by omega⟩) st .refl
  have I:ev (rT (n+2)) (.compT [] (.ix (.v 0) (.i 0)) (.lstR (.v 0) (.bin .Add (.v 1) (.i 1))) (.c (.bl true))) [some (pgD (.tup (tks.map pdD)) m rs)] st=some (.lst f.length,f++[(true,u.map D.lst)]):=by
   show Ye two Wy [] _ _ _ _ st=_;unfold Ye;rw[show ev (rT (n+2)) (.ix (.v 0) (.i 0)) [some (pgD (.tup (tks.map pdD)) m rs)] st=some (.tup (tks.map pdD),st) from rfl];have B:Wy (.tup (tks.map pdD)) st=some (tks.map pdD,λ_=>True):=if_pos (cR.mpr λd F=>by obtain⟨p,_,rfl⟩:=aS.mp F;rfl)
   simp only[B];rw[if_pos (by rw[aB];have:=h.l;omega),J]
  have K:=JL (n:=n+1) (w:=f.length) (bb:=true) (s0:=f++[(true,u.map D.lst)]) (l:=u) (ls:=tks.map bxL) Zv ⟨by rw[y,aB],λi j ns G e=>by
   rw[aV]at e;cases q:tks[i]? with
   |none=>rw[q]at e;cases e
   |some p=>rw[q]at e;cases e;obtain⟨b,t⟩:=L i j p G q;exact⟨b,Grw.push.get t⟩⟩ (λns o=>by obtain⟨p,a,rfl⟩:=aS.mp o;exact ZeN ⟨(h.b p a).2.1,(h.b p a).2.2.1⟩) (by rw[aB];exact h.l) (λns o v E=>by
   obtain⟨p,a,rfl⟩:=aS.mp o;have:=Zaa v E;have:=h.b p a;unfold Sm;omega)
  obtain⟨x,H,z⟩:=K _ .refl;refine⟨x,?_,A.trans (Grw.push.trans z)⟩;show Zq (ZQ (ev (rT (n+2)) (.compT [] (.ix (.v 0) (.i 0)) (.lstR (.v 0) (.bin .Add (.v 1) (.i 1))) (.c (.bl true)))) (evC (.tup [])) WJ) (X7 (rT (n+2) 134) []) [some (pgD (.tup (tks.map pdD)) m rs)] st=_;unfold Zq ZQ;rw[I];exact H
 exact .of (v:=c_tried) rfl rfl (.ret (.ife (k:=false) (.call1 (.r rf) (Ul (n:=n+1) h)) (.call1 (.r rf) t)))
theorem Ug(h:Nw tks):∀ ins∈prL [[]] (tks.map bxL),ins.length=tks.length/\∀ v∈ins,Sm v:=by
 have:=Al.pr (ls:=tks.map bxL) (k:=0) (acc:=[[]]) (λins h=>by rw[aR.mp h];exact⟨rfl,λv a=>nomatch a⟩) λns d v a=>by
  obtain⟨p,c,rfl⟩:=aS.mp d;have:=Zaa v a;have:=h.b p c;unfold Sm;omega
 rw[bE,aB]at this;exact this
theorem JR(h:Nw tks)(c:m<=1000)(g:tks.length<=m)(b:Rs m rs)(a:Rs m rs')(e:L<=800):C (rT (n+9)) s 140 [pgD (.tup (tks.map pdD)) m rs,pgD (.tup (tks.map pdD)) m rs',.int (L:Int)] ((skR (λins=>if tel m rs rs' L ins=true then some (inT ins) else none) (prL [[]] (tks.map bxL))).getD .non):=by
 refine .of (v:=c_sought) rfl rfl (.seekD (i:=3) (en:=inT) (E:=λy=>[some (pgD (.tup (tks.map pdD)) m rs),some (pgD (.tup (tks.map pdD)) m rs'),jN L,y]) (λ_ _=>rfl) (.call1 (.r rf) (Zcm (n:=n+4) h)) (λins d=>?_) λy=>.ret (.r rf))
 obtain⟨j,f⟩:=Ug h ins d;exact .ite (.call (xs:=[pgD (.tup (tks.map pdD)) m rs,pgD (.tup (tks.map pdD)) m rs',inT ins,.int (L:Int)]) (.r rf) (Qd b a c (by omega) f e)) (λ_=>.r rf) λ_=>.skip
end
def vdD(b:Bool)(d:Ot (Li Tr))(pn:Li Int->Nat)(c:D)(t:Li Int->Bool)(tr:Li (Li Int)):D:=
 if b=true then .tup [.str "same"] else match fT t 0 tr with
 |some i=>.tup [.str "trial",.int (i:Int),.int (pn (tr.getD i []):Int)]
 |none=>match d with
  |some a=>.tup [.str "paper",.tup (a.map trD)]
  |none=>c
inductive ReP:D->Prop where
 |f (ins:List Int) (i:Nat):ReP (.tup [.str "found",inT ins,.int (i:Int)])
 |t:ReP (.tup [.str "table"])
def ppD:Ot (Li Tr)->D
 |none=>.non
 |some a=>.tup (a.map trD)
theorem UQ{α:Type}{f:α->D}:∀ {l:Li α},(∀ a∈l,okD w (f a)=true)->ZS w (l.map f)=true
 |[],_=>by cases w<;>rfl
 |a :: l,h=>by
  show(okD w (f a)&&ZS w (l.map f))=true;rw[h a lQ7,UQ λz b=>h z (lM7 _ b)];rfl
theorem Zfj{r:Rw}:okD 6 (rwE r)=true:=by
 cases r with
 |put x y g z=>cases y<;>cases z<;>rfl
 |ifr y g z t=>cases y<;>cases z<;>rfl
 |tell y=>cases y<;>rfl
 |go t=>rfl
 |skip=>rfl
theorem Zea:okD 8 (pgD (.tup (tks.map pdD)) m rs)=true:=by
 show(ZS 6 (tks.map pdD)&&(true&&(ZS 6 (rs.map rwE)&&true)))=true;rw[UQ λ_ _=>rfl,UQ λ_ _=>Zfj];rfl
theorem Zbc{α:Type}{f:α->D}(d:∀ a b,f a=f b->a=b):∀ {l c:Li α},l.map f=c.map f->l=c
 |[],[],_=>rfl
 |a :: l,b :: c,h=>by
  rw[aO,aO]at h
  injection h with g e
  rw[d a b g,Zbc d e]
theorem Zfc{a:Li Rw}{vs:Li Int}(d:Mds m rs a)(h:Mds m rs' a)(b:Vs m vs)(i:rs.length=rs'.length):mv rs k vs=mv rs' k vs:=by
 by_cases c:k < rs.length
 ·have g:=lG7 c
  have f:=lG7 (show k < rs'.length by omega)
  have e:=lG7 (l:=a) (show k < a.length by rw[d.1];exact c)
  rw[Zbf g,Zbf f,<-d.2 k _ _ g e vs b,<-h.2 k _ _ f e vs b]
 ·rw[UP (by omega),UP (by omega)]
theorem QM(h:∀ k vs,Vs m vs->mv rs k vs=mv rs' k vs)(c:rs.length=rs'.length)(b:Rs m rs):∀ (L k:Nat) (vs:Li Int),Vs m vs->oc rs L k vs=oc rs' L k vs
 |0,k,vs,_=>by unfold oc;rw[c]
 |L+1,k,vs,a=>by
  unfold oc;rw[<-h k vs a];cases q:mv rs k vs with
  |inl o=>rfl
  |inr p=>exact QM h c b L p.1 p.2 (Zbg a b q)
theorem Jf(A:Rs m rs)(b:Rs m rs')(M:rs.length=sz)(K:rs'.length=sz)(hm:m<=60)(hz:(sz+1) * (sz+1) < 64)(hB:2 ^ m * ((sz+1) * (sz+1))<=440)(hN:Nw tks)(ht:tks.length<=m):∃ sm E,(sm=true->∀ (L:Nat) ins,ins.length<=m->(∀ v∈ins,Sm v)->tel m rs rs' L ins=false)/\∀ L:Nat,L<=800->∃ p,ReP p/\∀ tr:Li (Li Int),(∀ ins∈tr,ins.length<=m/\∀ v∈ins,Sm v)->∀ s,C (rT (n+10)) s 282 [pgD (.tup (tks.map pdD)) m rs,pgD (.tup (tks.map pdD)) m rs',.tup (tr.map inT),.int (L:Int)] (vdD sm E (λins=>fdN (trL m rs L ins) (trL m rs' L ins)) p (tel m rs rs' L) tr):=by
 obtain⟨d1,c1,h,rfl,V⟩:=JM (n:=n+3) (tk:=.tup (tks.map pdD)) A.ok (by have:=A.l;omega)
 obtain⟨d2,c2,g,rfl,U⟩:=JM (n:=n+3) (tk:=.tup (tks.map pdD)) b.ok (by have:=b.l;omega)
 obtain⟨d3,c3,p3⟩:=Zck (n:=n+1) (tk:=.tup (tks.map pdD)) A b M K hm hz hB;obtain⟨E,e3⟩:∃ E,d3=ppD E:=by
  rcases p3 with rfl|⟨Z,rfl⟩
  ·exact⟨none,rfl⟩
  ·exact⟨some Z,rfl⟩
 subst e3;have no:∀ L ins,oc rs L 0 (v0 m ins)=oc rs' L 0 (v0 m ins)->tel m rs rs' L ins=false:=λL ins e=>by
  unfold tel;obtain⟨xs,e1,k1⟩:=Y3 (rs:=rs') (n:=L) (k:=0) (vs:=v0 m ins);rw[e,e1,show Zk (.tup xs) (.tup xs)=true from Yx (n:=7) k1];rfl
 refine⟨Zk (pgD (.tup (tks.map pdD)) m g) (pgD (.tup (tks.map pdD)) m h),E,λq L ins hl hs=>?_,λL Y=>?_⟩
 ·have e:=W4 q
  have e:D.tup [.tup (tks.map pdD),.int (m:Int),.tup (g.map rwE)]=.tup [.tup (tks.map pdD),.int (m:Int),.tup (h.map rwE)]:=e
  injection e with e;injection e with _ e;injection e with _ e;injection e with e _;injection e with e
  have e:g=h:=Zbc (λ_ _=>Vt) e
  subst e;exact no L ins (QM (λk vs hv=>Zfc V U hv (M.trans K.symm)) (M.trans K.symm) A L 0 _ (Zb4 hl hs))
 have B:m<=1000:=by omega
 obtain⟨w,N⟩:∃ w,(λins=>fdN (trL m rs L ins) (trL m rs' L ins))=w:=⟨_,rfl⟩
 have I:∀ (ins:Li Int),ins.length<=m->(∀ v∈ins,Sm v)->tel m rs rs' L ins=true->∃ x y,∀ s,C (rT (n+9)) s 98 [pgD (.tup (tks.map pdD)) m rs,pgD (.tup (tks.map pdD)) m rs',inT ins,.int (L:Int)] (.tup [.int (w ins:Int),x,y]):=λins M K h3=>by
  rw[<-N];exact Zeu (n:=n+2) (tk:=.tup (tks.map pdD)) A b B M K Y h3
 -- what comes behind a paper
 have G:∃ p,ReP p/\∀ s (S Q P:Ot D),R (rT (n+9)) s (.seq (.set 6 (.call 140 (.aC (.v 0) (.aC (.v 1) (.u (.v 3)))) []))
 (.seq (.ite (.cmp .IsNot (.v 6) (.c .non)) (.z (.ret (.tupE (.aC (.t "found") (.aC (.v 6) (.u (.ix (.call 98 (.aC (.v 0) (.aC (.v 1) (.aC (.v 6) (.u (.v 3))))) []) (.i 0)))))))) .skip)
 (.z (.ret (.ife (.call 135 (.u (.v 0)) []) (.tupE (.u (.t "unknown"))) (.tupE (.u (.t "table")))))))) [some (pgD (.tup (tks.map pdD)) m rs),some (pgD (.tup (tks.map pdD)) m rs'),S,jN L,Q,P,none] p:=by
  have O:=λs=>JR (n:=n) (s:=s) hN B ht A b Y
  cases q:skR (λins=>if tel m rs rs' L ins=true then some (inT ins) else none) (prL [[]] (tks.map bxL)) with
  |some d=>
   rw[q]at O;obtain⟨ins,F,J⟩:=QX q;have J:(if tel m rs rs' L ins=true then some (inT ins) else none)=some d:=J
   split at J
   ·rename_i T
    cases J;obtain⟨o1,o2⟩:=Ug hN ins F;obtain⟨x,y,X⟩:=I ins (by omega) o2 T
    exact⟨_,.f ins (w ins),λs S Q P=>.set (.call (xs:=[pgD (.tup (tks.map pdD)) m rs,pgD (.tup (tks.map pdD)) m rs',.int (L:Int)]) (.r rf) (O s)) (.yes (.r rf) (.cons (.r rf) (.cons (.r rf) (.cons (.ixt (j:=0) (xs:=[.int (w ins:Int),x,y]) (.call (xs:=[pgD (.tup (tks.map pdD)) m rs,pgD (.tup (tks.map pdD)) m rs',inT ins,.int (L:Int)]) (.r rf) (X s)) (.r rf) rfl) .nil))))⟩
   ·cases J
  |none=>
   rw[q]at O;exact⟨_,.t,λs S Q P=>.set (.call (xs:=[pgD (.tup (tks.map pdD)) m rs,pgD (.tup (tks.map pdD)) m rs',.int (L:Int)]) (.r rf) (O s)) (.no (.r rf) (.ret (.ife (k:=false) (.call1 (.r rf) (Ul (n:=n+7) hN)) (.r rf))))⟩
 obtain⟨p,W,hR⟩:=G;rw[N];refine⟨p,W,λtr H s=>?_⟩
 have cf:=Zcf (n:=n) (s:=s) (tk:=.tup (tks.map pdD)) A b B H Y;unfold vdD;refine .of (v:=c_verdict) rfl rfl (.pick (k:=Zk (pgD (.tup (tks.map pdD)) m g) (pgD (.tup (tks.map pdD)) m h)) (.eqd (.call1 (.r rf) (c2 s)) (.call1 (.r rf) (c1 s)) Zea Zea) (λq=>?_) λq=>?_)
 ·rw[if_pos q];exact .ret (.r rf)
 ·rw[if_neg (by rw[q];decide)]
  refine .set (.call (xs:=[pgD (.tup (tks.map pdD)) m rs,pgD (.tup (tks.map pdD)) m rs',.tup (tr.map inT),.int (L:Int)]) (.r rf) cf) ?_;cases z:fT (tel m rs rs' L) 0 tr with
  |some i=>
   obtain⟨_,ins,F,T⟩:=Qr z;rw[Nat.sub_zero]at F;have o:=H ins (aW F);obtain⟨x,y,X⟩:=I ins o.1 o.2 T;have eg:tr.getD i []=ins:=by rw[bB,F];rfl
   show R _ s _ _ (.tup [.str "trial",.int (i:Int),.int (w (tr.getD i []):Int)]);rw[eg];exact .yes (.r rf) (.cons (.r rf) (.cons (.r rf) (.cons (.ixt (j:=0) (xs:=[.int (w ins:Int),x,y]) (.call (xs:=[pgD (.tup (tks.map pdD)) m rs,pgD (.tup (tks.map pdD)) m rs',inT ins,.int (L:Int)]) (.cons (.r rf) (.cons (.r rf) (.cons (.ixt (j:=i) (xs:=tr.map inT) (.r rf) (.r rf) (by rw[aV,F];rfl)) (.cons (.r rf) .nil)))) (X s)) (.r rf) rfl) .nil)))
  |none=>
   refine .no (.r rf) (.set (.call (xs:=[pgD (.tup (tks.map pdD)) m rs,pgD (.tup (tks.map pdD)) m rs']) (.r rf) (c3 s)) ?_);cases E with
   |some Z=>exact .yes (.r rf) (.r rf)
   |none=>exact .no (.r rf) (hR s _ _ _)
theorem Zcd(h:xs.length<=10):C (rT (n+1)) s 181 [.tup xs] .non:=λst g=>by
 have:Y (rT n) s (.cmp .Gt (.len (.v 0)) (.i 10)) [some (.tup xs)] (.bl false):=.cmp (.lnT (.r rf)) (.r rf) λ_=>by show some (decide ((10:Int) < (xs.length:Int)))=_;rw[aH (by omega)]
 obtain⟨s1,b,a⟩:=this st g;exact⟨s1,ZiO (v:=c_check_trials) rfl rfl ((Zc ((Yu b).trans Zh)).trans Zh),a⟩
theorem Uk{h:Nat×Str×Rw->D}(i:Rs m rs)(w:l.length<=10)(t:∀ p∈fkL rs,∀ s,C (rT (n+10)) s 282 [pgD tk m rs,pgD tk m (rs.set p.1 p.2.2),.tup (l.map inT),.int (L:Int)] (h p)):C (rT (n+11)) s 283 [pgD tk m rs,.tup (l.map inT),.int (L:Int)] (.tup ((fkL rs).map h)):=by
 refine .of (v:=c_verdicts) rfl rfl λst g=>?_
 obtain⟨s1,B,q⟩:=Y.call1 (F:=rT (n+10)) (s:=st) (f:=181) (a:=.v 1) (x:=.tup (l.map inT)) (U:=[some (pgD tk m rs),some (.tup (l.map inT)),jN L]) (.r rf) (Zcd (n:=n+9) (by rw[aB];exact w)) st .refl
 have E:=i.l;have H:=Qs (rs:=rs);obtain⟨k,A,o⟩:=Lv.tof (F:=rT (n+10)) (e:=.comp3 [2,0,1] (.call 172 (.u (.v 0)) []) (.call 282 (.aC (.v 4) (.aC (.call 180 (.aC (.v 4) (.aC (.v 0) (.u (.v 2)))) []) (.aC (.v 5) (.u (.v 3))))) []) (.c (.bl true))) (U:=[some (pgD tk m rs),some (.tup (l.map inT)),jN L]) (QE (F:=rT (n+10)) (s:=s1) (U:=[some (pgD tk m rs),some (.tup (l.map inT)),jN L]) (b:=Q5) (wk:=Zb6) (fr:=[2,0,1]) (it:=.call 172 (.u (.v 0)) []) (elt:=.call 282 (.aC (.v 4) (.aC (.call 180 (.aC (.v 4) (.aC (.v 0) (.u (.v 2)))) []) (.aC (.v 5) (.u (.v 3))))) []) (en:=tD) (g:=h) (l:=fkL rs) (.of (x:=.tup ((fkL rs).map tD)) (.call1 (.r rf) (Qa (n:=n+6) i)) λst=>if_pos (cR.mpr λd y=>by obtain⟨p,_,rfl⟩:=aS.mp y;rfl)) (by omega) λp j=>by
  obtain⟨z,G⟩:=UE i j;exact .call (xs:=[pgD tk m rs,pgD tk m (rs.set p.1 p.2.2),.tup (l.map inT),.int (L:Int)]) (.cons (.r rf) (.cons (.call (xs:=[pgD tk m rs,.int (p.1:Int),rwE p.2.2]) (.r rf) (JJ (n:=n+8) z (by omega))) (.cons (.r rf) (.cons (.r rf) .nil)))) (t p j s1)) s1 .refl
 exact⟨k,(Zc (Zhs B)).trans (Zi (ZJ A)),q.trans o⟩
def S0(a:Li Int):Za:=[(false,a.map D.int)]
def ceI(a:Li Int)(k:Nat):Int:=if k < a.length then a.getD k 0 else if a=[] then ((k:Int) * k+7) * 48271 % 2147483629 else (a.getD 0 0 % 2147483647+7) * ((k:Int) * k+48271) % 2147483629
def smL:Li Int:=[-1000000000,-999999999,-2,-1,0,1,2,999999999]
def smI(c:Int):Int:=if c % 8=0 then smL.getD (c / 8 % 8).toNat 0 else if c % 8=1 then c / 8 * 48271 % 2000000000 - 1000000000 else c / 8 % 7 - 3
def opI(c:Int)(m:Nat):Op:=if 0 < c % 3 then .nm (c / 3 % m).toNat else .nu (smI (c / 3))
section
variable{c:Int}
theorem Zhf(g:Grw (S0 ns) s):s[0]?=some (false,ns.map D.int):=g.get rfl
theorem Y.lts{i j:Int}(d:Y F s a U (.int i))(c:Y F s b U (.int j)):Y F s (.cmp .Lt a b) U (.bl (decide (i < j))):=.cmp d c λ_=>rfl
theorem Y.gts{i j:Int}(d:Y F s a U (.int i))(c:Y F s b U (.int j)):Y F s (.cmp .Gt a b) U (.bl (decide (j < i))):=.cmp d c λ_=>rfl
theorem Y.eqi{i j:Int}(d:Y F s a U (.int i))(c:Y F s b U (.int j)):Y F s (.cmp .Eq a b) U (.bl (decide (i=j))):=.cmp d c λ_=>rfl
theorem Yw(f:k<=1000):C (rT (n+1)) (S0 ns) 27 [.lst 0,.int (k:Int)] (.int (ceI ns k)):=by
 have a:(S0 ns)[0]?=some (false,ns.map D.int):=rfl;have e:(ns.map D.int).length=ns.length:=aB ..;have b:ZR (k:Int)=true:=UK (by omega)
 have o:(k:Int) * k<=1000000:=by
  have:k * k<=1000 * 1000:=dQ f f;omega
 have m:0<=(k:Int) * k:=Int.mul_nonneg (by omega) (by omega)
 unfold ceI;refine .of (v:=c__law_cell_at) rfl rfl (.pick (k:=decide ((k:Int) < ((ns.map D.int).length:Int))) (.lts (.r rf) (.lenl a (.r rf))) (λq=>?_) λq=>?_)
 ·have q:=of_decide_eq_true q
  rw[e]at q;rw[if_pos (by omega)]
  refine .ret (.ixl (j:=k) a (.r rf) (.r rf) ?_);show(ns.map D.int)[k]?=_;rw[aV,bB,lG7 (by omega)];rfl
 ·have q:=of_decide_eq_false q
  rw[e]at q;rw[if_neg (by omega)]
  have l:Y (rT n) (S0 ns) (.cmp .Eq (.v 0) (.lstE .aN)) [jL 0,jN k] (.bl (decide (ns=[]))):=λst g=>by
   refine⟨st++[(true,[])],?_,.push⟩;show(match (o2 (λ(c d:Y5)=>ZeS c.2 d.2) (st++[(true,[])])[0]? (st++[(true,[])])[st.length]?).join with|some k=>some (D.bl k,st++[(true,[])])|none=>none)=_
   rw[Zhf (g.trans .push),Zv];cases ns with
   |nil=>rfl
   |cons v ns=>rw[aH (cL _ _)];rfl
  refine .pick l (λz=>?_) λz=>?_
  ·rw[if_pos (of_decide_eq_true z)]
   exact .ret (.md (.mul (.add (.mul (.r rf) (.r rf) b) (.r rf)) (.r rf) rfl) (.r rf) (by decide))
  ·have z:=of_decide_eq_false z
   rw[if_neg z];cases ns with
   |nil=>exact absurd rfl z
   |cons v ns=>
    have h:Y (rT n) (S0 (v :: ns)) (.ix (.v 0) (.i 0)) [jL 0,jN k] (.int v):=.ixl (j:=0) a (.r rf) (.r rf) rfl;exact .ret (.md (.mul (.add (.md h (.r rf) (by decide)) (.r rf)) (.add (.mul (.r rf) (.r rf) b) (.r rf)) (UK (by omega))) (.r rf) (by decide))
theorem Zei:Sm (smI c):=by
 unfold smI;split
 ·have h:=Zo (c / 8) (j:=8) (by decide)
  have:(c / 8 % 8).toNat < 8:=by omega
  generalize (c / 8 % 8).toNat=i at *
  exact(by unfold Sm smL;decide:∀ i:Nat,i < 8->Sm (smL.getD i 0)) i this
 ·split
  ·have h:=Zo (c / 8 * 48271) (j:=2000000000) (by decide)
   unfold Sm;omega
  ·have h:=Zo (c / 8) (j:=7) (by decide)
   unfold Sm;omega
theorem Qc:C (rT (n+1)) s 19 [.int c] (.int (smI c)):=by
 unfold smI;refine .of (v:=c__law_small_by) rfl rfl (.setL (xs:=smL.map D.int) (.mk (.r rf)) λe j b g d=>.pick (.eqi (.md (.r rf) (.r rf) (by decide)) (.r rf)) (λq=>?_) λq=>.pick (.eqi (.md (.r rf) (.r rf) (by decide)) (.r rf)) (λz=>?_) λz=>?_)
 ·rw[if_pos (of_decide_eq_true q)]
  have h:=Zo (c / 8) (j:=8) (by decide)
  have a:(c / 8 % 8).toNat < smL.length:=by show _ < 8;omega
  refine .ret (.ixl (j:=(c / 8 % 8).toNat) d (.r rf) (by rw[bL h.1];exact .md (.fd (.r rf) (.r rf) (by decide)) (.r rf) (by decide)) ?_)
  show(smL.map D.int)[_]?=_;rw[aV,bB,lG7 a];rfl
 ·rw[if_neg (of_decide_eq_false q),if_pos (of_decide_eq_true z)]
  exact .ret (.sub (.md (.mul (.fd (.r rf) (.r rf) (by decide)) (.r rf) rfl) (.r rf) (by decide)) (.r rf))
 ·rw[if_neg (of_decide_eq_false q),if_neg (of_decide_eq_false z)]
  exact .ret (.sub (.md (.fd (.r rf) (.r rf) (by decide)) (.r rf) (by decide)) (.r rf))
theorem Zeb(a:0 < m):Xg m (opI c m):=by
 unfold opI;split
 ·have h:=Zo (c / 3) (j:=(m:Int)) (by omega)
  show(c / 3 % (m:Int)).toNat < m;omega
 ·exact Zei
theorem WG(a:0 < m):C (rT (n+2)) s 28 [.int c,.int (m:Int)] (opE (opI c m)):=by
 unfold opI;refine .of (v:=c__law_operand) rfl rfl (.pick (.gts (.md (.r rf) (.r rf) (by decide)) (.r rf)) (λq=>?_) λq=>?_)
 ·rw[if_pos (of_decide_eq_true q)]
  have h:=Zo (c / 3) (j:=(m:Int)) (by omega)
  show R _ _ _ _ (.tup [.str "name",.int ((c / 3 % (m:Int)).toNat:Int)]);rw[bL h.1];exact .ret (.cons (.r rf) (.cons (.md (.fd (.r rf) (.r rf) (by decide)) (.r rf) (by omega)) .nil))
 ·rw[if_neg (of_decide_eq_false q)]
  exact .ret (.cons (.r rf) (.cons (.call1 (.fd (.r rf) (.r rf) (by decide)) Qc) .nil))
theorem Y.pickL{l:Li α}{f:α->D}{i:Int}(e:∀ s,Lv s (ev F a U) (l.map f))(d:∀ s,Y F s b U (.int i))(g:0<=i)(h:i < l.length):∃ x∈l,∀ s,Y F s (.ix a b) U (f x):=by
 have c:i.toNat < l.length:=by omega
 refine⟨l[i.toNat],cM c,λs=>.ixL (e s) (j:=i.toNat) (by rw[bL g];exact d s) ?_⟩
 rw[aV,lG7 c];rfl
def IsR(m sz:Nat)(d:D):Prop:=∃ r,d=rwE r/\Zx m sz r
theorem Zgj{more:Int}(p:0 < m)(H:m<=1000)(K:sz<=1000):CX (rT (n+3)) 29 [.int c,.int more,.int (m:Int),.int (sz:Int)] (IsR m sz):=by
 obtain⟨k,J,w⟩:∃ o,(∀ s,Y (rT (n+2)) s (.call 28 (.aC (.bin .Mod (.bin .Mult (.v 1) (.i 48271)) (.i 2147483647)) (.u (.v 2))) []) [jI c,jI more,jN m,jN sz,none,none,none,none,none] (opE o))/\Xg m o:=⟨_,λs=>.call (xs:=[.int (more * 48271 % 2147483647),.int (m:Int)]) (.cons (.md (.mul (.r rf) (.r rf) rfl) (.r rf) (by decide)) (.cons (.r rf) .nil)) (WG p),Zeb p⟩
 obtain⟨o2,I,A⟩:∃ o,(∀ s,Y (rT (n+2)) s (.call 28 (.aC (.bin .Mod (.bin .Mult (.bin .Add (.v 1) (.i 5)) (.i 1226874159)) (.i 2147483647)) (.u (.v 2))) []) [jI c,jI more,jN m,jN sz,some (opE k),none,none,none,none] (opE o))/\Xg m o:=⟨_,λs=>.call (xs:=[.int ((more+5) * 1226874159 % 2147483647),.int (m:Int)]) (.cons (.md (.mul (.add (.r rf) (.r rf)) (.r rf) rfl) (.r rf) (by decide)) (.cons (.r rf) .nil)) (WG p),Zeb p⟩
 have C:=Zo ((c+1) * 742938285 % 2147483647) (j:=(sz:Int)+1) (by omega)
 obtain⟨e,E⟩:∃ t:Nat,(c+1) * 742938285 % 2147483647 % ((sz:Int)+1)=(t:Int):=⟨_,(bL C.1).symm⟩;rw[E]at C;have B:=Zo ((more+3) * 950706376 % 2147483647) (j:=(m:Int)) (by omega)
 obtain⟨x,ex⟩:∃ t:Nat,(more+3) * 950706376 % 2147483647 % (m:Int)=(t:Int):=⟨_,(bL B.1).symm⟩;rw[ex]at B;generalize y:c * 48271 % 2147483647=sg;refine .of (v:=c__law_row) rfl rfl (.set J (.set I (.set (d:=.int sg) (λs=>by rw[<-y];exact .md (.mul (.r rf) (.r rf) rfl) (.r rf) (by decide)) (.set (d:=.int (e:Int)) (λs=>by rw[<-E];exact .md (.md (.mul (.add (.r rf) (.r rf)) (.r rf) rfl) (.r rf) (by decide)) (.add (.r rf) (.r rf)) (by omega)) (.pick (λs=>.lts (.md (.r rf) (.r rf) (by decide)) (.r rf)) (λ_=>.set (d:=.int (x:Int)) (λs=>by rw[<-ex];exact .md (.md (.mul (.add (.r rf) (.r rf)) (.r rf) rfl) (.r rf) (by decide)) (.r rf) (by omega)) ?_) λ_=>.pick (λs=>.lts (.md (.r rf) (.r rf) (by decide)) (.r rf)) (λ_=>?_) λ_=>.pick (λs=>.eqi (.md (.r rf) (.r rf) (by decide)) (.r rf)) (λ_=>?_) λ_=>.ret (λs=>.cons (.r rf) (.cons (.r rf) .nil)) ⟨.tell k,rfl,w⟩)))))
 ·have h:=Zo sg (j:=5) (by decide)
  obtain⟨g,z,q⟩:=Y.pickL (F:=rT (n+2)) (a:=.lstE (.aC (.t "+") (.aC (.t "-") (.aC (.t "*") (.aC (.t "/") (.u (.t "mod"))))))) (b:=.bin .Mod (.v 6) (.i 5)) (U:=[jI c,jI more,jN m,jN sz,some (opE k),some (opE o2),jI sg,jN e,jN x]) (l:=psL) (f:=D.str) (λs=>.mk (.r rf)) (λs=>.md (.r rf) (.r rf) (by decide)) h.1 h.2
  exact .ret (λs=>.cons (.r rf) (.cons (.r rf) (.cons (.r rf) (.cons (q s) (.cons (.r rf) .nil))))) ⟨.put x k g o2,rfl,by omega,w,z,A⟩
 ·have h:=Zo sg (j:=6) (by decide)
  obtain⟨g,z,q⟩:=Y.pickL (F:=rT (n+2)) (a:=.lstE (.aC (.t "<") (.aC (.t "<=") (.aC (.t "=") (.aC (.t ">=") (.aC (.t ">") (.u (.t "!=")))))))) (b:=.bin .Mod (.v 6) (.i 6)) (U:=[jI c,jI more,jN m,jN sz,some (opE k),some (opE o2),jI sg,jN e,none]) (l:=isL) (f:=D.str) (λs=>.mk (.r rf)) (λs=>.md (.r rf) (.r rf) (by decide)) h.1 h.2
  exact .ret (λs=>.cons (.r rf) (.cons (.r rf) (.cons (q s) (.cons (.r rf) (.cons (.r rf) .nil))))) ⟨.ifr k g o2 e,rfl,w,z,A,by omega⟩
 ·have h:=Zo sg (j:=2) (by decide)
  obtain⟨r,hr,G⟩:=Y.pickL (F:=rT (n+2)) (a:=.lstE (.aC (.tupE (.aC (.t "go") (.u (.v 7)))) (.u (.tupE (.u (.t "skip")))))) (b:=.bin .Mod (.v 6) (.i 2)) (U:=[jI c,jI more,jN m,jN sz,some (opE k),some (opE o2),jI sg,jN e,none]) (l:=[.go e,.skip]) (f:=rwE) (λs=>.mk (.r rf)) (λs=>.md (.r rf) (.r rf) (by decide)) h.1 h.2
  refine .ret G ⟨r,rfl,?_⟩;rcases aF.mp hr with rfl|hr
  ·show e<=sz;omega
  ·rw[aR.mp hr];trivial
def stI(c:Int):Int×Int:=(c / 8 % 7 - 3,c / 8 % 7 - 3+c / 56 % 3)
theorem Je:C (rT (n+1)) s 284 [.int c] (pdD (stI c)):=
 .of (v:=c__law_stretch) rfl rfl (.set (.sub (.md (.fd (.r rf) (.r rf) (by decide)) (.r rf) (by decide)) (.r rf)) (.ret (.cons (.r rf) (.cons (.add (.r rf) (.md (.fd (.r rf) (.r rf) (by decide)) (.r rf) (by decide))) .nil))))
theorem Zhl:-10<=(stI c).1/\(stI c).1<=(stI c).2/\(stI c).2<=(stI c).1+2/\(stI c).1<=10:=by
 have b:=Zo (c / 8) (j:=7) (by decide)
 have a:=Zo (c / 56) (j:=3) (by decide)
 unfold stI;dsimp only;omega
def liI(c:Int):Int:=if c / 11 % 8=3 then 30 else c % 11
theorem ZhQ:0<=liI c/\liI c<=30:=by
 have h:=Zo c (j:=11) (by decide)
 unfold liI;split<;>omega
theorem Zch:C (rT (n+1)) s 102 [.int c] (.int (liI c)):=by
 unfold liI;refine .of (v:=c__law_limit) rfl rfl (.pick (.eqi (.md (.fd (.r rf) (.r rf) (by decide)) (.r rf) (by decide)) (.r rf)) (λq=>?_) λq=>?_)
 ·rw[if_pos (of_decide_eq_true q)];exact .ret (.r rf)
 ·rw[if_neg (of_decide_eq_false q)];exact .ret (.md (.r rf) (.r rf) (by decide))
end
variable{mo:Nat}{rs:Li Rw}
section
variable{c:Int}{Q:D->Za->Prop}
theorem rl2{I:Env->Prop}{P:Nat->D->Prop}(p:s.length<=j)(r:∀ k,k < N->∀ U st b,I U->Grw s st->st[j]?=some (true,b)->b.length < 800->∃ d c st',P k d/\I c/\ex F q (Zf U i (.int (k:Int))) st=some (.nx c,st')/\Kj j st st'/\st'[j]?=some (true,b++[d])):∀ (M a:Nat),a+M=N->∀ U st b,I U->Grw s st->st[j]?=some (true,b)->b.length+M<=800->∃ xs c st',xs.length=M/\(∀ (t:Nat) d,xs[t]?=some d->P (a+t) d)/\I c/\Zj (λd U s=>ex F q (Zf U i d) s) ((List.range' a M).map λ(k:Nat)=>D.int (k:Int)) U st=some (.nx c,st')/\Kj j st st'/\st'[j]?=some (true,b++xs)
 |0,a,_,U,st,b,n,g,h,_=>⟨[],U,st,rfl,λt d h=>(nomatch h),n,rfl,Grw.refl.kj,by rw[bH];exact h⟩
 |M+1,a,J,U,st,b,n,g,h,H=>by
  obtain⟨d,f,s1,z,m,E,o,B⟩:=r a (by omega) U st b n g h (by omega)
  obtain⟨xs,e,u,y,x,l,C,w,A⟩:=rl2 p r M (a+1) (by omega) f s1 (b++[d]) m (o.grw p g) B (by rw[aI];show _+1+M<=800;omega)
  refine⟨d :: xs,e,u,by rw[aQ,y],λt G h=>?_,l,?_,o.trans w,by rw[A,bD];rfl⟩
  ·cases t with
   |zero=>cases h;exact z
   |succ t=>have:=x t G h;rw[show a+1+t=a+(t+1) by omega]at this;exact this
  ·rw[dC,aO]
   show(match ex F q (Zf U i (.int (a:Int))) st with
    |some (.nx c,st')=>Zj _ _ c st'
    |some (.ct c,st')=>Zj _ _ c st'
    |some (.bk c,st')=>some (.nx c,st')
    |some (.rt v,st')=>some (.rt v,st')
    |none=>none)=_
   rw[E];exact C
theorem RP.fillW{I:Nat->Env->Prop}{P:Nat->D->Prop}{v:Int}(z:∀ j,Y F s e (Zf U i0 (.lst j)) (.int v))(u:v=(N:Int))(hN:N<=700)(B:∀ j,I j (Zf U i0 (.lst j)))(g:Grw s st)(y:∀ j,s.length<=j->∀ k,k < N->∀ U st a,I j U->Grw s st->st[j]?=some (true,a)->a.length < 800->∃ d b st',P k d/\I j b/\ex F q (Zf U i (.int (k:Int))) st=some (.nx b,st')/\Kj j st st'/\st'[j]?=some (true,a++[d]))(w:∀ j xs b st',xs.length=N->(∀ (t:Nat) d,xs[t]?=some d->P t d)->I j b->st.length<=j->Grw st st'->st'[j]?=some (true,xs)->∃ d t,ex F q' b st'=some (.rt d,t)/\Grw st t/\Q d t):RP F (.seq (.set i0 (.lstE .aN)) (.seq (.for1 i true e q) q')) U st Q:=by
 have m:Grw s (st++[(true,[])]):=g.trans .push;obtain⟨s1,J,c⟩:=z st.length (st++[(true,[])]) m;obtain⟨xs,b,l,x,r,f,H,o,C⟩:=rl2 (I:=I st.length) (P:=P) g.len (y st.length g.len) N 0 (by omega) _ s1 [] (B st.length) (m.trans c) (c.get Zv) (by show 0+N<=800;omega)
 have n:Grw st l:=(c.kj.trans o).grw (aD _) .push;obtain⟨d,t,G,E,A⟩:=w st.length xs b l x (λt d h=>by have:=r t d h;rw[bE]at this;exact this) f (aD _) n C
 refine⟨d,t,(Zc (p:=.set i0 (.lstE .aN)) (s':=st++[(true,[])]) rfl).trans ((Zc ?_).trans G),E,A⟩;rw[YX (v:=v) (by omega) (by omega) J,u,aZ,dB]
 exact H
inductive Pg(mo:Nat)(d:D):Prop where
 |mk (tks:List (Int×Int)) (m:Nat) (rs:List Rw) (e:d=pgD (.tup (tks.map pdD)) m rs) (nw:Nw tks) (t:tks.length<=m) (m4:m<=4) (r:Rs m rs) (l:rs.length<=mo)
theorem Zdg:∀ {xs:Li D},(∀ (t:Nat) d,xs[t]?=some d->IsR m sz d)->∃ rs:Li Rw,xs=rs.map rwE/\∀ r∈rs,Zx m sz r:=λ{xs} h=>XW λd b=>by
 obtain⟨t,a⟩:=List.getElem?_of_mem b;exact h t d a
theorem Za2{b:D->Li (Ot D)}{en g:α->D}{l:Li α}(f:Wk F s it U wk (l.map en))(e:l.length<=1000)(h:∀ a∈l,Y F s elt (ZU b U fr (en a)) (g a))(k:Grw s st):∃ st' j,Ye b wk fr (ev F it) (ev F elt) (ev F (.c (.bl true))) U st=some (.lst j,st')/\st'[j]?=some (true,l.map g)/\Grw st st':=by
 obtain⟨s1,j,m,i,d⟩:=Vg f e h st k;exact⟨s1,j,m,i,d⟩
theorem Zf8{v:Int}(b:v < 2 ^ 62)(a:-(2 ^ 62)<=v)(h:Y F s e U (.int v)):Wk F s e U (Xs true) ((List.range v.toNat).map λ(k:Nat)=>D.int (k:Int)):=.of h λst=>by
 unfold Xs;rw[ZaW b a]
theorem n62{v:Int}(a:0<=v)(h:v<=700):v < 2 ^ 62/\-(2 ^ 62)<=v:=⟨by omega,by omega⟩
theorem Zb7(a:N<=700)(h:Y F s e U (.int (N:Int))):Wk F s e U (Xs true) ((List.range N).map λ(k:Nat)=>D.int (k:Int)):=by
 have b:=n62 (v:=(N:Int)) (by omega) (by omega)
 have:=Zf8 b.1 b.2 h;rw[aZ]at this;exact this
theorem XL{x7 x8:Ot D}{tk:Nat}{ht:Int}(c:tk<=3)(d:st[j]?=some (true,rs.map rwE))(g:Grw (S0 ns) st):∃ (tks:Li (Int×Int)) (t:Za),tks.length=tk/\Nw tks/\Grw st t/\ex (rT (n+4)) (.seq (.set 9 Z3) (.z (.ret (.tupE (.aC (.tOf (.v 9)) (.aC (.v 4) (.u (.tOf (.v 6))))))))) [jL 0,jN mo,jI ht,jN tk,jN m,jN sz,jL j,x7,x8,none] st=some (.rt (pgD (.tup (tks.map pdD)) m rs),t):=by
 obtain⟨s1,w,G,f,e⟩:=Za2 (F:=rT (n+4)) (s:=S0 ns) (st:=st) (U:=[jL 0,jN mo,jI ht,jN tk,jN m,jN sz,jL j,x7,x8,none]) (b:=one) (wk:=Xs true) (fr:=[0]) (it:=.v 3) (elt:=.call 284 (.u (.call 27 (.aC (.v 1) (.u (.bin .Add (.i 2) (.v 0)))) [])) []) (l:=List.range tk) (en:=λ(k:Nat)=>D.int (k:Int)) (g:=λk=>pdD (stI (ceI ns (2+k)))) (Zb7 (by omega) (.r rf)) (by rw[bR];omega) (λk A=>by
  have:=cH.mp A;refine .call1 (x:=.int (ceI ns (2+k))) (.call (xs:=[.lst 0,.int ((2+k:Nat):Int)]) (.cons (.r rf) (.cons (by rw[bF];exact .add (.r rf) (.r rf)) .nil)) (Yw (n:=n+3) (by omega))) (Je (n:=n+3))) g
 have B:(List.range tk).map (λk=>pdD (stI (ceI ns (2+k))))=((List.range tk).map λk=>stI (ceI ns (2+k))).map pdD:=by rw[bN];rfl
 rw[B]at f;have h:=Y.cons (F:=rT (n+4)) (s:=s1) (U:=[jL 0,jN mo,jI ht,jN tk,jN m,jN sz,jL j,x7,x8,jL w]) (a:=.tOf (.v 9)) (b:=.aC (.v 4) (.u (.tOf (.v 6)))) (.tof f (.r rf)) (.cons (x:=.int (m:Int)) (.r rf) (.cons (.tof (e.get d) (.r rf)) .nil))
 obtain⟨o,E,q⟩:=h s1 .refl;have C:ex (rT (n+4)) (.set 9 Z3) [jL 0,jN mo,jI ht,jN tk,jN m,jN sz,jL j,x7,x8,none] st=some (.nx [jL 0,jN mo,jI ht,jN tk,jN m,jN sz,jL j,x7,x8,jL w],s1):=Zn G
 exact⟨(List.range tk).map λk=>stI (ceI ns (2+k)),o,by rw[aB,bR],⟨by rw[aB,bR];exact c,λp y=>by obtain⟨k,_,rfl⟩:=aS.mp y;exact Zhl⟩,e.trans q,(Zc C).trans (Zi (ZJ E))⟩
end
variable{sa:Nat}
section
variable{c:Int}{Q:D->Za->Prop}
theorem Zht{t:Za}(h:ev F e U st=some (d,t))(c:U[i]?=some (jL j))(b:t[j]?=some (true,xs))(a:xs≠[])(f:xs.length<=1000):ex F (.put i (.neg (.i 1)) e) U st=some (.nx U,t.set j (true,xs.set (xs.length - 1) d)):=by
 have g:0 < xs.length:=List.length_pos_iff.mpr a;show UT i (λ_ s=>some (.int (-1),s)) (ev F e) U st=_
 unfold UT;simp only[h,c];unfold X0;simp only[b];unfold ixN;rw[if_neg (by decide),if_pos (by omega),show(-1+(xs.length:Int)).toNat=xs.length - 1 by omega]
theorem Rs.of{rs:Li Rw}(h:∀ r∈rs,Zx m sz r)(b:rs.length=sz)(c:sz<=50):Rs m rs:=⟨by omega,λr a=>by rw[b];exact h r a⟩
theorem Zev(hmo:mo<=4)(g:Grw (S0 ns) st):CP (rT (n+5)) 30 [.lst 0,.int (mo:Int)] st λd _=>Pg mo d:=by
 obtain⟨f,ehd,hd0⟩:∃ v,(∀ U:Env,U[0]?=some (jL 0)->Y (rT (n+4)) (S0 ns) (.bin .Mod (.call 27 (.aC (.v 0) (.u (.i 0))) []) (.i 2147483647)) U (.int v))/\0<=v:=⟨ceI ns 0 % 2147483647,λU h=>.md (.call (xs:=[.lst 0,.int ((0:Nat):Int)]) (.cons (.v h) (.cons (.r rf) .nil)) (Yw (n:=n+3) (by omega))) (.r rf) (by decide),(Zo _ (by decide)).1⟩
 have h4:=Zo f (j:=4) (by decide)
 obtain⟨tk,J⟩:∃ t:Nat,f % 4=(t:Int):=⟨_,(bL h4.1).symm⟩;rw[J]at h4;have h2:=Zo (f / 4) (j:=2) (by decide)
 obtain⟨m,em⟩:∃ m:Nat,(if (tk:Int)+f / 4 % 2 * 1 > 1 then (tk:Int)+f / 4 % 2 * 1 else 1)=(m:Int):=⟨_,(bL (by split<;>omega)).symm⟩
 have hm:1<=m/\tk<=m/\m<=4:=by
  have:(m:Int)=_:=em.symm;split at this<;>omega
 have hz:=Zo (ceI ns 1) (j:=(mo:Int)+1) (by omega)
 obtain⟨sz,K⟩:∃ t:Nat,ceI ns 1 % ((mo:Int)+1)=(t:Int):=⟨_,(bL hz.1).symm⟩;rw[K]at hz;have hx:=Zo (f / 32) (j:=(m:Int)) (by omega)
 obtain⟨x,H⟩:∃ t:Nat,f / 32 % (m:Int)=(t:Int):=⟨_,(bL hx.1).symm⟩;rw[H]at hx;have yb:∀ {s:Za}{o x8 x7 x6 x5 x4 x1 x0:Ot D},Y (rT (n+4)) s (.max (.i 1) (.bin .Add (.v 3) (.bin .Mult (.bin .Mod (.bin .FloorDiv (.v 2) (.i 4)) (.i 2)) (.intOf (.cmp .Lt (.v 3) (.i 4)))))) [x0,x1,jI f,jN tk,x4,x5,x6,x7,x8,o] (.int (m:Int)):=λ{s o x8 x7 x6 x5 x4 x1 x0}=>by
  rw[<-em];refine Dp.g2 (x:=.int 1) (y:=.int ((tk:Int)+f / 4 % 2 * 1)) (.r rf) (.add (.r rf) (.mul (.md (.fd (.r rf) (.r rf) (by decide)) (.r rf) (by decide)) (j:=1) (g1 (x:=.bl true) (.cmp (x:=.int (tk:Int)) (y:=.int 4) (.r rf) (.r rf) λ_=>congrArg some (aL (by omega))) (gp λ_=>rfl)) rfl)) (gp λ_=>rfl)
 refine .of (v:=c__law_program) rfl rfl (.setY (ehd _ rfl) g λs1 M=>.setY (s:=S0 ns) (d:=.int (tk:Int)) (by rw[<-J];exact .md (.r rf) (.r rf) (by decide)) (g.trans M) λs2 V=>.setY (s:=S0 ns) yb (g.trans (M.trans V)) λs3 k3=>.setY (s:=S0 ns) (d:=.int (sz:Int)) (by rw[<-K];exact .md (.call (xs:=[.lst 0,.int ((1:Nat):Int)]) (.r rf) (Yw (n:=n+3) (by omega))) (.add (.r rf) (.r rf)) (by omega)) (g.trans (M.trans (V.trans k3))) λs4 k4=>?_)
 have Z:Grw (S0 ns) s4:=g.trans (M.trans (V.trans (k3.trans k4)));refine .fillW (s:=S0 ns) (N:=sz) (i0:=6) (i:=7) (I:=λj U=>∃ y z,U=[jL 0,jN mo,jI f,jN tk,jN m,jN sz,jL j,y,z,none]) (P:=λ_ d=>IsR m sz d) (λj=>.r rf) rfl (by omega) (λj=>⟨none,none,rfl⟩) Z (λj hj k hk U t acc X G ht hc=>?_) λj xs U t W hP X jl G ht=>?_
 ·obtain⟨y,z,rfl⟩:=X
  obtain⟨dr,E,r,er,ok⟩:=Zgj (n:=n+1) (c:=ceI ns (5+2 * k)) (more:=ceI ns (6+2 * k)) (m:=m) (sz:=sz) (by omega) (by omega) (by omega)
  have lk:ZR (k:Int)=true:=UK (by omega)
  have L:∀ (w:Int) (v:Nat) {s:Za}{x8 o:Ot D},(v:Int)=w->Y (rT (n+4)) s (.bin .Add (.i w) (.bin .Mult (.i 2) (.v 7))) [jL 0,jN mo,jI f,jN tk,jN m,jN sz,jL j,jN k,x8,o] (.int ((v+2 * k:Nat):Int)):=λw v {s x8 o} e=>by
   rw[bF,eA,e];exact .add (.r rf) (.mul (.r rf) (.r rf) lk)
  have A:=Ap.seq (F:=rT (n+4)) (s:=S0 ns) hj (q:=.set 8 (.call 27 (.aC (.v 0) (.u (.bin .Add (.i 5) (.bin .Mult (.i 2) (.v 7))))) [])) (U:=[jL 0,jN mo,jI f,jN tk,jN m,jN sz,jL j,jN k,z,none]) (.set (.call (xs:=[.lst 0,.int ((5+2 * k:Nat):Int)]) (.cons (.r rf) (.cons (L 5 5 rfl) .nil)) (Yw (n:=n+3) (by omega)))) (.one (.app (i:=6) (e:=.call 29 (.aC (.v 8) (.aC (.call 27 (.aC (.v 0) (.u (.bin .Add (.i 6) (.bin .Mult (.i 2) (.v 7))))) []) (.aC (.v 4) (.u (.v 5))))) []) rfl (.call (xs:=[.int (ceI ns (5+2 * k)),.int (ceI ns (6+2 * k)),.int (m:Int),.int (sz:Int)]) (.cons (.r rf) (.cons (.call (xs:=[.lst 0,.int ((6+2 * k:Nat):Int)]) (.cons (.r rf) (.cons (L 6 6 rfl) .nil)) (Yw (n:=n+3) (by omega))) (.cons (.r rf) (.cons (.r rf) .nil)))) (E _))))
  obtain⟨t',e',k',h'⟩:=A t acc G ht (by show _+1<=900;omega)
  exact⟨dr,_,t',⟨r,er,ok⟩,⟨_,_,rfl⟩,e',k',h'⟩
 ·obtain⟨y,z,rfl⟩:=X
  obtain⟨rs,rfl,C⟩:=Zdg hP;rw[aB]at W;have gS:Grw (S0 ns) t:=Z.trans G;have L:Y (rT (n+4)) t (.and (.cmp .Gt (.v 5) (.i 0)) (.cmp .Gt (.bin .Mod (.bin .FloorDiv (.v 2) (.i 8)) (.i 4)) (.i 0))) [jL 0,jN mo,jI f,jN tk,jN m,jN sz,jL j,y,z,none] (.bl (decide (0 < (sz:Int))&&decide (0 < f / 8 % 4))):=.and (.gts (.r rf) (.r rf)) λ_=>.gts (.md (.fd (.r rf) (.r rf) (by decide)) (.r rf) (by decide)) (.r rf)
  obtain⟨t1,Q,p⟩:=L t .refl;cases S:decide (0 < (sz:Int))&&decide (0 < f / 8 % 4) with
  |false=>
   rw[S]at Q;obtain⟨l,R,lt,T,O,e2⟩:=XL (n:=n) (m:=m) (sz:=sz) (x7:=y) (x8:=z) (ht:=f) (tk:=tk) (mo:=mo) (rs:=rs) (by omega) (p.get ht) (gS.trans p)
   exact⟨_,R,(Zc ((Yu Q).trans Zh)).trans e2,G.trans (p.trans O),l,m,rs,rfl,T,by omega,by omega,.of C W (by omega),by omega⟩
  |true=>
   rw[S]at Q;rw[bA7,bA]at S;have yt:=Y.cons (F:=rT (n+4)) (s:=t1) (a:=.t "tell") (b:=.aC (.tupE (.aC (.t "name") (.u (.bin .Mod (.bin .FloorDiv (.v 2) (.i 32)) (.v 4))))) .aN) (U:=[jL 0,jN mo,jI f,jN tk,jN m,jN sz,jL j,y,z,none]) (x:=.str "tell") (xs:=[opE (.nm x)]) (.r rf) (.cons (.cons (.r rf) (.cons (by rw[<-H];exact .md (.fd (.r rf) (.r rf) (by decide)) (.r rf) (by omega)) .nil)) .nil)
   obtain⟨R,e2,O⟩:=yt t1 .refl;have B:=(p.trans O).get ht;have ep:=Zht (F:=rT (n+4)) (e:=.tupE (.aC (.t "tell") (.u (.tupE (.aC (.t "name") (.u (.bin .Mod (.bin .FloorDiv (.v 2) (.i 32)) (.v 4)))))))) (i:=6) e2 rfl B (λh=>by have:=congrArg List.length h;rw[aB]at this;have:rs.length=0:=this;omega) (by rw[aB];omega)
   rw[aB,show D.tup [.str "tell",opE (.nm x)]=rwE (.tell (.nm x)) from rfl,<-dO]at ep;have g5:Grw s4 (R.set j (true,(rs.set (rs.length - 1) (.tell (.nm x))).map rwE)):=Xm (G.trans (p.trans O)) jl;obtain⟨l,t3,lt,T,j3,e3⟩:=XL (n:=n) (m:=m) (sz:=sz) (x7:=y) (x8:=z) (ht:=f) (tk:=tk) (mo:=mo) (rs:=rs.set (rs.length - 1) (.tell (.nm x))) (by omega) (bV (Zt B)) (Z.trans g5)
   refine⟨_,t3,(Zc ((Z5 Q).trans ((Zc ep).trans Zh))).trans e3,g5.trans j3,l,m,_,rfl,T,by omega,by omega,Rs.of (sz:=sz) (λr E=>?_) (by rw[bJ];exact W) (by omega),by rw[bJ];omega⟩
   rcases eJ E with E|rfl
   ·exact C r E
   ·show x < m;omega
def Ts(a:Nat)(d:D):Prop:=∃ tr:Li (Li Int),d=.tup (tr.map inT)/\tr.length<=3/\∀ ins∈tr,ins.length=a/\∀ v∈ins,Sm v
theorem JS{a:Nat}(h1:sa<=100)(Z:a<=3)(g:Grw (S0 ns) st):CP (rT (n+3)) 51 [.lst 0,.int (sa:Int),.int (a:Int)] st λd _=>Ts a d:=by
 have O:=Zo (ceI ns sa) (j:=4) (by decide)
 obtain⟨N,Q⟩:∃ t:Nat,ceI ns sa % 4=(t:Int):=⟨_,(bL O.1).symm⟩;rw[Q]at O;refine .of (v:=c__law_trials) rfl rfl (.fillW (s:=S0 ns) (N:=N) (i0:=3) (i:=4) (I:=λj U=>∃ y z,U=[jL 0,jN sa,jN a,jL j,y,z]) (P:=λ_ d=>∃ ins:Li Int,d=inT ins/\(ins.length=a/\∀ v∈ins,Sm v)) (v:=(N:Int)) (λj=>by rw[<-Q];exact .md (.call (xs:=[.lst 0,.int (sa:Int)]) (.r rf) (Yw (n:=n+1) (by omega))) (.r rf) (by decide)) rfl (by omega) (λj=>⟨none,none,rfl⟩) g (λj hj k hk U t L E H o hc=>?_) λj xs U t W Y E jl H o=>?_)
 ·obtain⟨y,z,rfl⟩:=E
  have kt:k * a<=3 * 3:=dQ (by omega) Z
  have p:ZR (a:Int)=true:=UK (by omega)
  obtain⟨m,w,e1,h,A⟩:=Za2 (F:=rT (n+2)) (s:=S0 ns) (st:=t) (U:=[jL 0,jN sa,jN a,jL j,jN k,z]) (b:=one) (wk:=Xs true) (fr:=[4,0,1,2]) (it:=.v 2) (elt:=.call 27 (.aC (.v 2) (.u (.bin .Add (.bin .Add (.bin .Add (.v 3) (.i 1)) (.bin .Mult (.v 1) (.v 4))) (.v 0)))) []) (l:=List.range a) (en:=λ(k:Nat)=>D.int (k:Int)) (g:=λi=>D.int (ceI ns (sa+1+k * a+i))) (Zb7 (by omega) (.r rf)) (by rw[bR];omega) (λi C=>by
   have:=cH.mp C;exact .call (xs:=[.lst 0,.int ((sa+1+k * a+i:Nat):Int)]) (.cons (.r rf) (.cons (by
    rw[bF,bF,bF,eA];exact .add (.add (.add (.r rf) (.r rf)) (.mul (.r rf) (.r rf) p)) (.r rf)) .nil)) (Yw (n:=n+1) (by omega))) H
  have ez:(List.range a).map (λi=>D.int (ceI ns (sa+1+k * a+i)))=((List.range a).map λi=>ceI ns (sa+1+k * a+i)).map D.int:=by rw[bN];rfl
  rw[ez]at h;obtain⟨f,K,q⟩:∃ f:Li Int,(List.range a).map (λi=>ceI ns (sa+1+k * a+i))=f/\f.length=a:=⟨_,rfl,by rw[aB,bR]⟩
  rw[K]at h;have T:j < m.length:=aT (Zt o) A.len;have M:=QE (F:=rT (n+2)) (s:=m) (U:=[jL 0,jN sa,jN a,jL j,jN k,jL w]) (b:=one) (wk:=Xs false) (fr:=[]) (it:=.v 5) (elt:=.call 19 (.u (.v 0)) []) (l:=f) (en:=D.int) (g:=λc=>D.int (smI c)) (Wk.lst h (.r rf)) (by omega) λc _=>.call1 (x:=.int c) (.r rf) (Qc (n:=n+1))
  have J:f.map (λc=>D.int (smI c))=inZ (f.map smI):=by unfold inZ;rw[bN];rfl
  rw[J]at M;obtain⟨R,e2,S,G⟩:=Ap.app (F:=rT (n+2)) (s:=m) (j:=j) (i:=3) (e:=.tOf YF) (U:=[jL 0,jN sa,jN a,jL j,jN k,jL w]) (d:=inT (f.map smI)) rfl (Lv.tof M) m L .refl (A.get o) (by show _+1<=900;omega)
  have e3:ex (rT (n+2)) (.set 5 YE) [jL 0,jN sa,jN a,jL j,jN k,z] t=some (.nx [jL 0,jN sa,jN a,jL j,jN k,jL w],m):=Zn e1;exact⟨inT (f.map smI),_,R,⟨f.map smI,rfl,by rw[aB];exact q,λv V=>by obtain⟨c,_,rfl⟩:=aS.mp V;exact Zei⟩,⟨_,_,rfl⟩,(Zc e3).trans ((Zc e2).trans Zh),A.kj.trans S,G⟩
 ·obtain⟨y,z,rfl⟩:=E
  obtain⟨tr,rfl,B⟩:=XW (en:=inT) (P:=λins=>ins.length=a/\∀ v∈ins,Sm v) (ys:=xs) λd X=>by
   obtain⟨i,C⟩:=List.getElem?_of_mem X;exact Y i d C
  rw[aB]at W;exact⟨_,t,Zi (ZJ (Yf (c:=(true,tr.map inT)) rfl o)),H,tr,rfl,by omega,B⟩
end
section
variable{u:Int}
theorem Xe:C (rT (n+1)) s 31 [.int u] (.int (arI u)):=.of (v:=c__law_around) rfl rfl (.ret (.arx (.r rf)))
theorem Y.eqv{i j:Int}(d:Y F s a U (.int i))(c:Y F s b U (.int j)):Y F s (.cmp .Eq a b) U (.bl (decide (i=j))):=.cmp d c λ_=>rfl
theorem JU(e:Sm v):C (rT (n+2)) s 32 [.int u,.str g,.int v] (.int (rkI u g v)):=by
 unfold rkI;refine .of (v:=c__law_reckon) rfl rfl (.pick (.eqs (.r rf) (.r rf)) (λh=>?_) λh=>.pick (.eqs (.r rf) (.r rf)) (λb=>?_) λb=>.pick (.eqs (.r rf) (.r rf)) (λd=>?_) λd=>.pick (.eqv (.r rf) (.r rf)) (λa=>?_) λa=>.pick (.eqs (.r rf) (.r rf)) (λf=>?_) λf=>?_)
 ·rw[if_pos (of_decide_eq_true h)];exact .ret (.call1 (.add (.r rf) (.r rf)) Xe)
 ·rw[if_neg (of_decide_eq_false h),if_pos (of_decide_eq_true b)];exact .ret (.call1 (.sub (.r rf) (.r rf)) Xe)
 ·rw[if_neg (of_decide_eq_false h),if_neg (of_decide_eq_false b),if_pos (of_decide_eq_true d)];exact .ret (.call1 (.mul (.r rf) (.r rf) (Vh e)) Xe)
 ·rw[if_neg (of_decide_eq_false h),if_neg (of_decide_eq_false b),if_neg (of_decide_eq_false d),if_pos (of_decide_eq_true a),if_pos (of_decide_eq_true a)]
  have k:Y (rT (n+1)) s (.intOf (.cmp .Eq (.v 1) (.t "/"))) [jI u,some (.str g),jI v] (.int ((if g=S "/" then 1 else 0:Nat):Int)):=by
   refine g1 (x:=.bl (decide (g=S "/"))) (.eqs (.r rf) (.r rf)) (gp λ_=>?_)
   by_cases c:g=S "/"
   ·rw[aL c,if_pos c];rfl
   ·rw[aH c,if_neg c];rfl
  refine .ret (.ixL (xs:=[.int u,.int 0]) (.mk (.r rf)) k ?_);by_cases c:g=S "/"
  ·rw[if_pos c,if_pos c];rfl
  ·rw[if_neg c,if_neg c];rfl
 ·have a:=of_decide_eq_false a
  rw[if_neg (of_decide_eq_false h),if_neg (of_decide_eq_false b),if_neg (of_decide_eq_false d),if_pos (of_decide_eq_true f),if_neg a];exact .ret (.call1 (.fdv (.r rf) (.r rf) a e) Xe)
 ·have a:=of_decide_eq_false a
  rw[if_neg (of_decide_eq_false h),if_neg (of_decide_eq_false b),if_neg (of_decide_eq_false d),if_neg (of_decide_eq_false f),if_neg a];refine .ret (.sub (.r rf) (.bi (i:=v) (j:=fdI u v) (.r rf) (.fdv (.r rf) (.r rf) a e) ?_));show(if ZR v||ZR (fdI u v) then some (v * fdI u v) else none)=_
  rw[Vh e];rfl
theorem Y.dct{ks:Li Str}(h:Y F s a U (.tup xs))(b:ks.length=xs.length/\(ks.Nodup/\ks≠[])/\ks.length<=15):Y F s (.dict ks a) U (.dct ks xs):=g1 h (gp λ_=>if_pos b)
theorem ZhB(d:g∈isL):C (rT (n+1)) s 33 [.int u,.str g,.int v] (.bl (soI u g v)):=by
 have a:∀ {s:Za}{b:Ot D},Y (rT n) s (.dict [(S "<"),(S "<="),(S "=")] (.aC (.cmp .Lt (.v 0) (.v 2)) (.aC (.cmp .LtE (.v 0) (.v 2)) (.u (.cmp .Eq (.v 0) (.v 2)))))) [jI u,some (.str g),jI v,b] (.dct [(S "<"),(S "<="),(S "=")] [.bl (decide (u < v)),.bl (decide (u<=v)),.bl (decide (u=v))]):=λ{s b}=>.dct (.cons (.cmp (x:=.int u) (y:=.int v) (.r rf) (.r rf) λ_=>rfl) (.cons (.cmp (x:=.int u) (y:=.int v) (.r rf) (.r rf) λ_=>rfl) (.cons (.cmp (x:=.int u) (y:=.int v) (.r rf) (.r rf) λ_=>rfl) .nil))) ⟨rfl,⟨by decide +kernel,cL _ _⟩,by decide⟩
 have e:∀ {s:Za}{b:Ot D},Y (rT n) s (.dict [(S ">="),(S ">"),(S "!=")] (.aC (.cmp .Lt (.v 0) (.v 2)) (.aC (.cmp .LtE (.v 0) (.v 2)) (.u (.cmp .Eq (.v 0) (.v 2)))))) [jI u,some (.str g),jI v,b] (.dct [(S ">="),(S ">"),(S "!=")] [.bl (decide (u < v)),.bl (decide (u<=v)),.bl (decide (u=v))]):=λ{s b}=>.dct (.cons (.cmp (x:=.int u) (y:=.int v) (.r rf) (.r rf) λ_=>rfl) (.cons (.cmp (x:=.int u) (y:=.int v) (.r rf) (.r rf) λ_=>rfl) (.cons (.cmp (x:=.int u) (y:=.int v) (.r rf) (.r rf) λ_=>rfl) .nil))) ⟨rfl,⟨by decide +kernel,cL _ _⟩,by decide⟩
 have h:(!decide (u < v))=decide (v<=u):=by
  by_cases c:u < v
  ·rw[aL c,aH (by omega)];rfl
  ·rw[aH c,aL (by omega)];rfl
 have f:(!decide (u<=v))=decide (v < u):=by
  by_cases c:u<=v
  ·rw[aL c,aH (by omega)];rfl
  ·rw[aH c,aL (by omega)];rfl
 unfold isL at d;simp only[aF,aU,or_false]at d;rcases d with rfl|rfl|rfl|rfl|rfl|rfl
 ·rw[QZ];exact .of (v:=c__law_so) rfl rfl (.set a (.yes (.r rf) (.r rf)))
 ·rw[QY];exact .of (v:=c__law_so) rfl rfl (.set a (.yes (.r rf) (.r rf)))
 ·rw[ZbS];exact .of (v:=c__law_so) rfl rfl (.set a (.yes (.r rf) (.r rf)))
 ·rw[Zej,<-h];exact .of (v:=c__law_so) rfl rfl (.set a (.no (.r rf) (.ret (.not (g2 e (y:=.str ">=") (.r rf) (gp λ_=>rfl))))))
 ·rw[Zek,<-f];exact .of (v:=c__law_so) rfl rfl (.set a (.no (.r rf) (.ret (.not (g2 e (y:=.str ">") (.r rf) (gp λ_=>rfl))))))
 ·rw[ZbT];exact .of (v:=c__law_so) rfl rfl (.set a (.no (.r rf) (.ret (.not (g2 e (y:=.str "!=") (.r rf) (gp λ_=>rfl))))))
theorem Xf(a:Vs m vs)(h:Xg m o):C (rT (n+1)) s 34 [opE o,.tup (inZ vs)] (.int (woI vs o)):=by
 cases o with
 |nm i=>exact .of (v:=c__law_worth) rfl rfl (.yes (.r rf) (.ixt (j:=i) (.r rf) (.r rf) (Zeo a h)))
 |nu v=>exact .of (v:=c__law_worth) rfl rfl (.no (.r rf) (.ret (.r rf)))
theorem Zf9{t b:Za}{x:Nat}(h:ev F e U st=some (d,t))(g:U[i]?=some (jL j))(c:ev F a U t=some (.int (x:Int),b))(f:b[j]?=some (true,xs))(k:x < xs.length):ex F (.put i a e) U st=some (.nx U,b.set j (true,xs.set x d)):=by
 show UT i (ev F a) (ev F e) U st=_;unfold UT;simp only[h,g,c];unfold X0;simp only[f];unfold ixN;rw[if_pos (by omega),if_pos (by omega),aZ]
theorem Zez(S:Rs m rs)(hm:m<=1000)(e:Vs m vs)(T:k < rs.length):C (rT (n+3)) s 35 [pgD tk m rs,.int (k:Int),.tup (inZ vs)] (mvD rs k vs):=by
 have q:=lG7 T;generalize rs[k]=r at q;have ok:=S.ok r (aW q);have R:Y (rT (n+2)) s (.ix (.ix (.v 0) (.i 2)) (.v 1)) [some (pgD tk m rs),jN k,some (.tup (inZ vs)),none,none,none] (rwE r):=.ixt (j:=k) (xs:=rs.map rwE) (.r rf) (.r rf) (by rw[aV,q];rfl)
 have one:∀ {s:Za}{L K J:Ot D},Y (rT (n+2)) s (.bin .Add (.v 1) (.i 1)) [some (pgD tk m rs),jN k,some (.tup (inZ vs)),L,K,J] (.int ((k+1:Nat):Int)):=λ{s L K J}=>by
  rw[bF];exact .add (.r rf) (.r rf)
 unfold mvD;rw[Zbf q];refine .of (v:=c__law_next) rfl rfl (.set R ?_);cases r with
 |tell y=>exact .yes (.r rf) (.cons (.r rf) (.cons (.call (xs:=[opE y,.tup (inZ vs)]) (.r rf) (Xf e ok)) .nil))
 |put x y g z=>
  obtain⟨Z,H,N,w⟩:=ok;refine .no (.r rf) (.yB (.r rf) λst V=>?_)
  have hl:(inZ vs).length=m:=by unfold inZ;rw[aB,e.l]
  have A:ex (rT (n+2)) (.set 4 (.listOf (.v 2))) [some (pgD tk m rs),jN k,some (.tup (inZ vs)),some (rwE (.put x y g z)),none,none] st=some (.nx [some (pgD tk m rs),jN k,some (.tup (inZ vs)),some (rwE (.put x y g z)),jL st.length,none],st++[(true,inZ vs)]):=Zn rfl;have Q:Y (rT (n+2)) (st++[(true,inZ vs)]) (.call 32 (.aC (.call 34 (.aC (.ix (.v 3) (.i 2)) (.u (.v 2))) []) (.aC (.ix (.v 3) (.i 3)) (.u (.call 34 (.aC (.ix (.v 3) (.i 4)) (.u (.v 2))) [])))) []) [some (pgD tk m rs),jN k,some (.tup (inZ vs)),some (rwE (.put x y g z)),jL st.length,none] (.int (rkI (woI vs y) g (woI vs z))):=.call (xs:=[.int (woI vs y),.str g,.int (woI vs z)]) (.cons (.call (xs:=[opE y,.tup (inZ vs)]) (.r rf) (Xf e H)) (.cons (.r rf) (.cons (.call (xs:=[opE z,.tup (inZ vs)]) (.r rf) (Xf e w)) .nil))) (JU (WY e w))
  obtain⟨d,o,p⟩:=Q _ .refl;have P:d[st.length]?=some (true,inZ vs):=p.get Zv;have X:=Zf9 (F:=rT (n+2)) (i:=4) (a:=.ix (.v 3) (.i 1)) (x:=x) o rfl rfl P (by omega)
  have gs:Grw st (d.set st.length (true,(inZ vs).set x (.int (rkI (woI vs y) g (woI vs z))))):=Xm (Grw.push.trans p) (aD _);have O:(d.set st.length (true,(inZ vs).set x (.int (rkI (woI vs y) g (woI vs z)))))[st.length]?=some (true,(inZ vs).set x (.int (rkI (woI vs y) g (woI vs z)))):=bV (Zt P);generalize d.set st.length (true,(inZ vs).set x (.int (rkI (woI vs y) g (woI vs z))))=h at *
  have W:(inZ vs).set x (.int (rkI (woI vs y) g (woI vs z)))=inZ (vs.set x (rkI (woI vs y) g (woI vs z))):=by unfold inZ;rw[dO]
  rw[W]at O;have B:=Y.cons (F:=rT (n+2)) (s:=h) (a:=.bin .Add (.v 1) (.i 1)) (b:=.aC (.tOf (.v 4)) .aN) (U:=[some (pgD tk m rs),jN k,some (.tup (inZ vs)),some (rwE (.put x y g z)),jL st.length,none]) one (.cons (.tof O (.r rf)) .nil);obtain⟨E,I,G⟩:=B h .refl;exact⟨E,(Zc A).trans ((Zc X).trans (Zi (ZJ I))),gs.trans G⟩
 |go t=>exact .no (.r rf) (.no (.r rf) (.yes (.r rf) (.r rf)))
 |skip=>exact .no (.r rf) (.no (.r rf) (.no (.r rf) (.no (.r rf) (.ret (.cons one (.cons (.r rf) .nil))))))
 |ifr y g z t=>
  obtain⟨H,N,w,ht⟩:=ok;refine .no (.r rf) (.no (.r rf) (.no (.r rf) λst V=>?_))
  obtain⟨d,A,M⟩:=Y.call (F:=rT (n+2)) (s:=st) (f:=34) (a:=.aC (.ix (.v 3) (.i 1)) (.u (.v 2))) (U:=[some (pgD tk m rs),jN k,some (.tup (inZ vs)),some (rwE (.ifr y g z t)),none,none]) (xs:=[opE y,.tup (inZ vs)]) (ds:=[]) (.r rf) (Xf (n:=n+1) e H) st .refl;have ys:Y (rT (n+2)) d (.call 33 (.aC (.v 5) (.aC (.ix (.v 3) (.i 2)) (.u (.call 34 (.aC (.ix (.v 3) (.i 3)) (.u (.v 2))) [])))) []) [some (pgD tk m rs),jN k,some (.tup (inZ vs)),some (rwE (.ifr y g z t)),none,jI (woI vs y)] (.bl (soI (woI vs y) g (woI vs z))):=.call (xs:=[.int (woI vs y),.str g,.int (woI vs z)]) (.cons (.r rf) (.cons (.r rf) (.cons (.call (xs:=[opE z,.tup (inZ vs)]) (.r rf) (Xf e w)) .nil))) (ZhB N)
  obtain⟨h,o,p⟩:=ys d .refl;show ∃ st',_=some (Fl.rt (stD (if soI (woI vs y) g (woI vs z)=true then t else k+1) vs),st')/\Grw st st'
  cases c:soI (woI vs y) g (woI vs z) with
  |true=>
   rw[c]at o;exact⟨h,Zi ((Z5 rfl).trans ((Zc (Zn A)).trans (Zi ((Z5 o).trans (Zi (ZJ rfl)))))),M.trans p⟩
  |false=>
   rw[c]at o;have B:=Y.cons (F:=rT (n+2)) (s:=h) (a:=.bin .Add (.v 1) (.i 1)) (b:=.aC (.v 2) .aN) (U:=[some (pgD tk m rs),jN k,some (.tup (inZ vs)),some (rwE (.ifr y g z t)),none,jI (woI vs y)]) one (.cons (x:=.tup (inZ vs)) (.r rf) .nil);obtain⟨E,I,G⟩:=B h .refl;exact⟨E,(Zc ((Z5 rfl).trans ((Zc (Zn A)).trans ((Zc ((Yu o).trans Zh)).trans Zh)))).trans (Zi (ZJ I)),M.trans (p.trans G)⟩
end
variable{b1:Bool}
theorem ZgR(b:Rs m rs){p:Nat×Li Int}(h:mv rs k vs=.inr p):p.1<=rs.length:=by
 unfold mv at h;cases q:rs[k]? with
 |none=>rw[q]at h;cases h
 |some r=>
  rw[q]at h;have a:=Zt q;have ok:=b.ok r (aW q);cases r with
  |tell y=>cases h
  |put x y g z=>cases h;exact a
  |skip=>cases h;exact a
  |go t=>cases h;exact ok
  |ifr y g z t=>
   cases h;show(if soI (woI vs y) g (woI vs z)=true then t else k+1)<=rs.length
   split
   ·exact ok.2.2.2
   ·exact a
theorem ZgS(a:k < rs.length){o:D}(h:mv rs k vs=.inl o):∃ v,o=teD v:=by
 unfold mv at h;rw[lG7 a]at h;cases q:rs[k] with
 |tell y=>rw[q]at h;cases h;exact⟨_,rfl⟩
 |_=>rw[q]at h;cases h
theorem ZdZ{w:Nat}{t t2:Za}(d:ev F a U st=some (.lst i,t))(c:ev F b U t=some (.lst j,t2))(f:t2[i]?=some (b1,xs))(e:t2[j]?=some (b2,ys))(g:xs.length+ys.length<=1000):ev F (.bin .Add a b) U st=some (.lst t2.length,t2++[(true,xs++ys)]):=by
 show ZQ (ev F a) (ev F b) (Uv .Add) U st=_;unfold ZQ;simp only[d,c];show Zct i j t2=_;unfold Zct;simp only[f,e];exact if_pos (by unfold Zu;omega)
theorem Zc4{x1 y:Ot D}(N:Rs m rs)(P:m<=1000)(M:Vs m vs)(T:k<=rs.length)(V:s.length<=j)(g:Grw s st)(h:st[j]?=some (true,acc))(S:acc.length < 900):match mv rs k vs with
  |.inl o=>∃ st' w b,Kj j st st'/\st'[w]?=some (b,acc++[o])/\ex (rT (n+3)) Zm [some (pgD tk m rs),x1,x2,some (stD k vs),jL j,y] st=some (.rt (.lst w),st')
  |.inr p=>∃ st',Kj j st st'/\st'[j]?=some (true,acc++[stD p.1 p.2])/\ex (rT (n+3)) Zm [some (pgD tk m rs),x1,x2,some (stD k vs),jL j,y] st=some (.nx [some (pgD tk m rs),x1,x2,some (stD p.1 p.2),jL j,y],st'):=by
 have K:Y (rT (n+3)) st (.cmp .Eq (.ix (.v 3) (.i 0)) (.len (.ix (.v 0) (.i 2)))) [some (pgD tk m rs),x1,x2,some (stD k vs),jL j,y] (.bl (decide (k=rs.length))):=by
  have:=Y.eqv (F:=rT (n+3)) (s:=st) (a:=.ix (.v 3) (.i 0)) (b:=.len (.ix (.v 0) (.i 2))) (U:=[some (pgD tk m rs),x1,x2,some (stD k vs),jL j,y]) (i:=(k:Int)) (j:=((rs.map rwE).length:Int)) (.r rf) (.lnT (.r rf));rw[aB,decide_eq_decide.mpr (⟨λh=>by omega,λh=>by omega⟩:(k:Int)=(rs.length:Int)↔k=rs.length)]at this
  exact this
 obtain⟨l,E,B⟩:=K st .refl;by_cases c:k=rs.length
 ·rw[aL c]at E
  rw[UP (by omega)]
  have R:=B.get h;have H:=ZdZ (F:=rT (n+3)) (a:=.v 4) (b:=.lstE (.u (.tupE (.u (.t "none"))))) (U:=[some (pgD tk m rs),x1,x2,some (stD k vs),jL j,y]) (st:=l) (t:=l) (t2:=l++[(true,[noD])]) (i:=j) (j:=l.length) (w:=0) (b1:=true) (b2:=true) (xs:=acc) (ys:=[noD]) rfl rfl (Grw.push.get R) Zv (by show _+1<=1000;omega)
  exact⟨_,_,_,(B.trans (Grw.push.trans .push)).kj,Zv,Zi ((Z5 E).trans (Zi (ZJ H)))⟩
 ·rw[aH c]at E
  have x:k < rs.length:=by omega
  obtain⟨t2,H,J⟩:=Y.call (F:=rT (n+3)) (s:=l) (f:=35) (a:=.aC (.v 0) (.aC (.ix (.v 3) (.i 0)) (.u (.ix (.v 3) (.i 1))))) (U:=[some (pgD tk m rs),x1,x2,some (stD k vs),jL j,y]) (xs:=[pgD tk m rs,.int (k:Int),.tup (inZ vs)]) (ds:=[]) (.r rf) (Zez N P M x) l .refl;obtain⟨A,Q,L,C⟩:=Ap.app (F:=rT (n+3)) (s:=t2) (j:=j) (i:=4) (e:=.v 3) (U:=[some (pgD tk m rs),x1,x2,some (mvD rs k vs),jL j,y]) (d:=mvD rs k vs) rfl (.r rf) t2 acc .refl ((B.trans J).get h) (by show _+1<=900;omega)
  have I:Kj j st A:=(B.trans J).kj.trans L;have pre:∀ {r},ex (rT (n+3)) (.z (.ite (.cmp .Eq (.ix (.v 3) (.i 0)) (.t "told")) (.z (.ret (.v 4))) .skip)) [some (pgD tk m rs),x1,x2,some (mvD rs k vs),jL j,y] A=r->ex (rT (n+3)) Zm [some (pgD tk m rs),x1,x2,some (stD k vs),jL j,y] st=r:=λh=>(Zc ((Yu E).trans Zh)).trans ((Zc (Zn H)).trans ((Zc Q).trans h))
  cases q:mv rs k vs with
  |inl o=>
   have G:mvD rs k vs=o:=by unfold mvD;rw[q]
   obtain⟨v,O⟩:=ZgS x q;rw[G]at C pre;refine⟨A,j,true,I,C,pre ?_⟩;rw[O];exact Zi ((Z5 rfl).trans (Zi (ZJ rfl)))
  |inr p=>
   have G:mvD rs k vs=stD p.1 p.2:=by unfold mvD;rw[q]
   rw[G]at C pre;exact⟨A,I,C,pre ((Zc ((Yu rfl).trans Zh)).trans Zh)⟩
theorem QJ(u:Rs m rs)(L:m<=1000)(J:s.length<=j){x1 x2:Ot D}:∀ (M a k:Nat) (vs:Li Int) (acc:Li D) (st:Za) (y:Ot D),Vs m vs->k<=rs.length->Grw s st->st[j]?=some (true,acc)->acc.length+M<=900->
  (∃ l f c z st',l<=rs.length/\tl rs M k vs=c++[enD rs l]/\Zj (λd U s=>ex (rT (n+3)) Zm (Zf U 5 d) s) ((List.range' a M).map λ(k:Nat)=>D.int (k:Int)) [some (pgD tk m rs),x1,x2,some (stD k vs),jL j,y] st=some (.nx [some (pgD tk m rs),x1,x2,some (stD l f),jL j,z],st')/\Kj j st st'/\st'[j]?=some (true,acc++c)) \/
  (∃ st' w b,Zj (λd U s=>ex (rT (n+3)) Zm (Zf U 5 d) s) ((List.range' a M).map λ(k:Nat)=>D.int (k:Int)) [some (pgD tk m rs),x1,x2,some (stD k vs),jL j,y] st=some (.rt (.lst w),st')/\Kj j st st'/\st'[w]?=some (b,acc++tl rs M k vs))
 |0,a,k,vs,acc,st,y,G,I,g,h,_=>.inl ⟨k,vs,[],y,st,I,rfl,rfl,Grw.refl.kj,by rw[bH];exact h⟩
 |M+1,a,k,vs,acc,st,y,G,I,g,h,P=>by
  have t:=Zc4 (n:=n) (tk:=tk) (k:=k) (y:=jN a) (x1:=x1) (x2:=x2) u L G I J g h (by omega)
  rw[dC,aO];have F:∀ {r},ex (rT (n+3)) Zm [some (pgD tk m rs),x1,x2,some (stD k vs),jL j,jN a] st=r->Zj (λd U s=>ex (rT (n+3)) Zm (Zf U 5 d) s) (D.int (a:Int) :: (List.range' (a+1) M).map λ(k:Nat)=>D.int (k:Int)) [some (pgD tk m rs),x1,x2,some (stD k vs),jL j,y] st=match r with
    |some (.nx U',st')=>Zj (λd U s=>ex (rT (n+3)) Zm (Zf U 5 d) s) ((List.range' (a+1) M).map λ(k:Nat)=>D.int (k:Int)) U' st'
    |some (.ct U',st')=>Zj (λd U s=>ex (rT (n+3)) Zm (Zf U 5 d) s) ((List.range' (a+1) M).map λ(k:Nat)=>D.int (k:Int)) U' st'
    |some (.bk U',st')=>some (.nx U',st')
    |some (.rt v,st')=>some (.rt v,st')
    |none=>none:=λ{r} e=>by rw[<-e];rfl
  unfold tl;cases q:mv rs k vs with
  |inl o=>
   rw[q]at t;obtain⟨st',w,b,i,K,x⟩:=t;exact .inr ⟨st',w,b,F x,i,K⟩
  |inr p=>
   rw[q]at t;obtain⟨E,i,K,x⟩:=t;have H:(acc++[stD p.1 p.2]).length+M<=900:=by rw[aI];show _+1+M<=900;omega
   rcases QJ u L J M (a+1) p.1 p.2 _ E (jN a) (Zbg G u q) (ZgR u q) (i.grw J g) K H with⟨l,f,c,z,st',O,N,C,B,A⟩|⟨st',w,b,C,B,A⟩
   ·exact .inl ⟨l,f,stD p.1 p.2 :: c,z,st',O,by show stD p.1 p.2 :: tl rs M p.1 p.2=_;rw[N];rfl,(F x).trans C,i.trans B,by rw[A,bD];rfl⟩
   ·exact .inr ⟨st',w,b,(F x).trans C,i.trans B,by rw[A,bD];rfl⟩
theorem Qg(S:Rs m rs)(T:m<=1000)(I:ins.length<=m)(R:∀ v∈ins,Sm v)(hL:L<=800):Lv s (rT (n+4) 26 [pgD tk m rs,inT ins,.int (L:Int)]) (trL m rs L ins):=λst g=>by
 have Q:=Zb4 I R;have O:Y (rT (n+3)) st (.tupE (.aC (.i 0) (.u (.bin .Add (.v 1) (.bin .Mult (.tupE (.u (.i 0))) (.bin .Sub (.ix (.v 0) (.i 1)) (.len (.v 1)))))))) [some (pgD tk m rs),some (inT ins),jN L,none,none,none] (stD 0 (v0 m ins)):=by
  have E:(inZ ins).length=ins.length:=aB ..;have X:D.tup (inZ (v0 m ins))=.tup (inZ ins++List.replicate (m - ins.length) (.int 0)):=by
   unfold v0 inZ;rw[cG,List.map_replicate]
  show Y (rT (n+3)) st _ _ (.tup [.int 0,.tup (inZ (v0 m ins))]);rw[X];refine .cons (.r rf) (.cons (.adT (xs:=inZ ins) (.r rf) (.rep (.r rf) ?_ (by omega)) (by rw[E,bS];omega)) .nil)
  rw[Int.ofNat_sub I,<-E];exact .sub (.r rf) (.lnT (.r rf))
 obtain⟨s1,J,H⟩:=O st .refl;have C:ex (rT (n+3)) (.set 4 (.lstE (.u (.v 3)))) [some (pgD tk m rs),some (inT ins),jN L,some (stD 0 (v0 m ins)),none,none] s1=some (.nx [some (pgD tk m rs),some (inT ins),jN L,some (stD 0 (v0 m ins)),jL s1.length,none],s1++[(true,[stD 0 (v0 m ins)])]):=Zn rfl;have A:=YX (F:=rT (n+3)) (i:=5) (e:=.v 2) (q:=Zm) (U:=[some (pgD tk m rs),some (inT ins),jN L,some (stD 0 (v0 m ins)),jL s1.length,none]) (st:=s1++[(true,[stD 0 (v0 m ins)])]) (v:=(L:Int)) (by omega) (by omega) rfl
 rw[aZ,dB]at A;have z:Grw s1 (s1++[(true,[stD 0 (v0 m ins)])]):=.push;unfold trL;rcases QJ (n:=n) (tk:=tk) (s:=s1) (x1:=some (inT ins)) (x2:=jN L) S T (aD _) L 0 0 (v0 m ins) [stD 0 (v0 m ins)] _ none Q (aM _) z Zv (by show 1+L<=900;omega) with⟨d,f,h,l,j,w1,B,y,p,o⟩|⟨j,w,b,y,p,o⟩
 ·have sl:h.length<=L:=by
   have W:=congrArg List.length B;rw[aI]at W;have:=Ww (rs:=rs) (M:=L) (k:=0) (vs:=v0 m ins);have h3:([enD rs d]:Li D).length=1:=rfl;omega
  have K:Lv j (ev (rT (n+3)) (.lstE (.u (.ix (.lstE (.aC (.tupE (.u (.t "late"))) (.u (.tupE (.u (.t "none")))))) (.intOf (.cmp .Eq (.ix (.v 3) (.i 0)) (.len (.ix (.v 0) (.i 2)))))))) [some (pgD tk m rs),some (inT ins),jN L,some (stD d f),jL s1.length,l]) [enD rs d]:=by
   have N:Y (rT (n+3)) j (.intOf (.cmp .Eq (.ix (.v 3) (.i 0)) (.len (.ix (.v 0) (.i 2))))) [some (pgD tk m rs),some (inT ins),jN L,some (stD d f),jL s1.length,l] (.int ((if rs.length<=d then 1 else 0:Nat):Int)):=by
    refine g1 (x:=.bl (decide ((d:Int)=((rs.map rwE).length:Int)))) (.eqv (.r rf) (.lnT (.r rf))) (gp λ_=>?_)
    rw[aB];by_cases c:rs.length<=d
    ·rw[aL (by omega),if_pos c];rfl
    ·rw[aH (by omega),if_neg c];rfl
   refine .mk (.cons (.ixL (xs:=[laD,noD]) (.mk (.r rf)) N ?_) .nil);unfold enD;by_cases c:rs.length<=d
   ·rw[if_pos c,if_pos c];rfl
   ·rw[if_neg c,if_neg c];rfl
  obtain⟨P,jj,bb,e4,V,G⟩:=K j .refl;have Z:=ZdZ (F:=rT (n+3)) (a:=.v 4) (U:=[some (pgD tk m rs),some (inT ins),jN L,some (stD d f),jL s1.length,l]) (st:=j) (t:=j) (i:=s1.length) (w:=0) (b1:=true) (xs:=[stD 0 (v0 m ins)]++h) rfl e4 (G.get o) V (by rw[aI];show 1+h.length+1<=1000;omega)
  refine⟨_,P.length,true,XE (v:=c__law_trail) rfl rfl ((Zc (Zn J)).trans ((Zc C).trans ((Zc (A.trans y)).trans (Zi (ZJ Z))))),?_,H.trans ((p.grw (aD _) z).trans (G.trans .push))⟩;rw[B,Zv,bD];rfl
 ·exact⟨j,w,b,XE (v:=c__law_trail) rfl rfl ((Zc (Zn J)).trans ((Zc C).trans (Zi (A.trans y)))),o,H.trans (p.grw (aD _) z)⟩
section
variable{A B:Li D}
theorem Zd1:∀ {A B:Li D}{j:Nat}{x y:D},j < fdN A B->A[j]?=some x->B[j]?=some y->Zk x y=true
 |a :: A,b :: B,j,x,y,h,e,d=>by
  unfold fdN at h;split at h
  ·rename_i c
   cases j with
   |zero=>cases e;cases d;exact c
   |succ j=>exact Zd1 (Nat.lt_of_succ_lt_succ h) e d
  ·cases h
theorem Zd2:∀ {A B:Li D}{i:Nat}{x y:D},A[i]?=some x->B[i]?=some y->Zk x y=false->∃ x y,A[fdN A B]?=some x/\B[fdN A B]?=some y/\Zk x y=false
 |a :: A,b :: B,i,x,y,f,e,d=>by
  unfold fdN;split
  ·rename_i c
   cases i with
   |zero=>cases f;cases e;rw[d]at c;cases c
   |succ i=>exact Zd2 (A:=A) (B:=B) f e d
  ·rename_i c
   exact⟨a,b,rfl,rfl,by cases z:Zk a b with|false=>rfl|true=>exact absurd z c⟩
theorem JT(T:s[i]?=some (b1,A))(S:s[j]?=some (b2,B))(ok:∀ (k:Nat) x,(A[k]?=some x\/B[k]?=some x)->∃ xs,x=.tup xs/\okD 8 (.tup xs)=true)(hd:∃ (k:Nat) (x y:D),A[k]?=some x/\B[k]?=some y/\Zk x y=false)(hl:A.length<=900):C (rT (n+1)) s 286 [.lst i,.lst j] (.int (fdN A B:Int)):=λst g=>by
 obtain⟨k,x,y,X,W,V⟩:=hd;obtain⟨x0,y0,p,o,G⟩:=Zd2 X W V;have Q:fdN A B < A.length:=Zt p;have K:∀ (M:Nat) (c:Nat) (d:Nat) (st:Za),c+M=fdN A B->M < d->Grw s st->∃ st',Z9 (ev (rT n) (.cmp .Eq (.ix (.v 0) (.v 2)) (.ix (.v 1) (.v 2)))) (ex (rT n) (.z (.set 2 (.bin .Add (.v 2) (.i 1))))) d [jL i,jL j,jN c] st=some (.nx [jL i,jL j,jI (fdN A B:Int)],st')/\Grw st st':=λM=>by
  have Yq:∀ (c:Nat) (st:Za),c<=fdN A B->Grw s st->∃ st',ev (rT n) (.cmp .Eq (.ix (.v 0) (.v 2)) (.ix (.v 1) (.v 2))) [jL i,jL j,jN c] st=some (.bl (decide (c < fdN A B)),st')/\Grw st st':=λc st q g=>by
   obtain⟨u,v,E,w,a3⟩:∃ u v,A[c]?=some u/\B[c]?=some v/\Zk u v=decide (c < fdN A B):=by
    have lB:=Zt o;refine⟨A[c]'(by omega),B[c]'(by omega),lG7 _,lG7 _,?_⟩
    by_cases e:c < fdN A B
    ·rw[aL e];exact Zd1 e (lG7 (by omega)) (lG7 (by omega))
    ·have:c=fdN A B:=by omega
     subst this;rw[aH e];rw[lG7 (by omega)]at p o
     injection p with p;injection o with o
     rw[p,o];exact G
   obtain⟨I,Z,N⟩:=ok c u (.inl E);obtain⟨H,t,L⟩:=ok c v (.inr w);subst Z;subst t
   have:=Y.eqd (F:=rT n) (s:=s) (a:=.ix (.v 0) (.v 2)) (b:=.ix (.v 1) (.v 2)) (U:=[jL i,jL j,jN c]) (.ixl (j:=c) T (.r rf) (.r rf) E) (.ixl (j:=c) S (.r rf) (.r rf) w) N L;rw[show Zr I H=decide (c < fdN A B) from a3]at this;exact this st g
  induction M with
  |zero=>
   intro c d st q R g;obtain⟨f,rfl⟩:∃ f,d=f+1:=⟨d - 1,by omega⟩
   obtain⟨h,l,m⟩:=Yq c st (by omega) g
   have q:c=fdN A B:=by omega
   subst q;rw[aH (bO _)]at l;refine⟨h,?_,m⟩;show ZV (ev (rT n) (.cmp .Eq (.ix (.v 0) (.v 2)) (.ix (.v 1) (.v 2)))) _ _ _ st=_;unfold ZV;rw[l]
  |succ M P=>
   intro c d st q R g;obtain⟨f,rfl⟩:∃ f,d=f+1:=⟨d - 1,by omega⟩
   obtain⟨h,l,m⟩:=Yq c st (by omega) g
   rw[aL (by omega)]at l
   obtain⟨J,e2,O⟩:=P (c+1) f h (by omega) (by omega) (g.trans m)
   refine⟨J,?_,m.trans O⟩;have eb:ex (rT n) (.z (.set 2 (.bin .Add (.v 2) (.i 1)))) [jL i,jL j,jN c] h=some (.nx [jL i,jL j,some (.int ((c+1:Nat):Int))],h):=by
    rw[bF];exact(Zc (Zn rfl)).trans Zh
   show ZV (ev (rT n) (.cmp .Eq (.ix (.v 0) (.v 2)) (.ix (.v 1) (.v 2)))) (Z0 _ _) _ _ st=_;unfold ZV;rw[l];show Z0 _ _ _ h=_;unfold Z0;rw[eb];exact e2
 obtain⟨h,l,m⟩:=K (fdN A B) 0 1000 st (bE _) (by omega) g
 have t:ex (rT n) (.whl (.cmp .Eq (.ix (.v 0) (.v 2)) (.ix (.v 1) (.v 2))) (.z (.set 2 (.bin .Add (.v 2) (.i 1))))) [jL i,jL j,jI 0] st=some (.nx [jL i,jL j,jI (fdN A B:Int)],h):=l;exact⟨h,XE (v:=c__law_parted) rfl rfl ((Zc (Zn rfl)).trans ((Zc t).trans (Zi (ZJ rfl)))),m⟩
theorem Zem:∀ (k:Nat) x,(trL m rs L ins)[k]?=some x->∃ xs,x=.tup xs/\okD 8 (.tup xs)=true:=λk x h=>by
 rcases aF.mp (aW h) with rfl|h
 ·exact⟨_,rfl,Zbr⟩
 ·exact Zbs _ h
theorem Q6:(trL m rs L ins).getLastD .non=oc rs L 0 (v0 m ins):=by
 unfold trL;rw[<-Vy];cases q:tl rs L 0 (v0 m ins) with
 |nil=>exact absurd q ZbX
 |cons x xs=>rfl
theorem ZdH(c:tel m rs rs' L ins=true):∃ (k:Nat) (x y:D),(trL m rs L ins)[k]?=some x/\(trL m rs' L ins)[k]?=some y/\Zk x y=false:=by
 refine Classical.byContradiction λh=>?_
 have e:oc rs L 0 (v0 m ins)=oc rs' L 0 (v0 m ins):=Vz λi x y a b=>by
  cases z:Zk x y with
  |true=>exact W4 z
  |false=>exact absurd ⟨i+1,x,y,a,b,z⟩ h
 unfold tel at c;obtain⟨xs,f,d⟩:=Y3 (rs:=rs') (n:=L) (k:=0) (vs:=v0 m ins);rw[e,f,show Zk (.tup xs) (.tup xs)=true from Yx (n:=7) d]at c;cases c
end
def duD(t:Li Int->Bool)(pn:Li Int->Nat)(k:Nat)(l:Li (Li Int)):D:=match fT t k l with
 |some i=>.tup [.str "trial",.int (i:Int),.int (pn (l.getD (i - k) []):Int)]
 |none=>.non
section
variable{A B:Li D}{c:Int}
theorem Y.lastl(b:s[j]?=some (bb,xs))(e:Y F s a U (.lst j))(h:xs≠[])(c:xs.length<=100000):Y F s (.ix a (.neg (.i 1))) U (xs.getLastD .non):=g2 (y:=.int (-1)) e (.r rf) (gs λst g=>by
 show(match (match st[j]? with
  |some (_,xs)=>atD xs (-1)
  |none=>none) with|some d=>some (d,st)|none=>none)=_
 rw[g.get b];show(match atD xs (-1) with|some d=>some (d,st)|none=>none)=_
 rw[Qj h c])
theorem ZcB{y5 y6:Ot D}(hr:Rs m rs)(z:Rs m rs')(K:m<=1000)(O:L<=800)(N:ins.length<=m)(J:∀ v∈ins,Sm v)(hk:l[k]?=some ins):∃ st' Z X,Grw st st'/\ex (rT (n+4)) Zy [some (pgD tk m rs),some (pgD tk m rs'),some (.tup (l.map inT)),jN L,jN k,y5,y6] st=some (if tel m rs rs' L ins=true then .rt (.tup [.str "trial",.int (k:Int),.int (fdN (trL m rs L ins) (trL m rs' L ins):Int)]) else .nx [some (pgD tk m rs),some (pgD tk m rs'),some (.tup (l.map inT)),jN L,jN k,Z,X],st'):=by
 have A:∀ {s:Za}{C B:Ot D},Y (rT (n+4)) s (.ix (.v 2) (.v 4)) [some (pgD tk m rs),some (pgD tk m rs'),some (.tup (l.map inT)),jN L,jN k,C,B] (inT ins):=λ{s C B}=>.ixt (j:=k) (xs:=l.map inT) (.r rf) (.r rf) (by rw[aV,hk];rfl)
 obtain⟨G,e0,k0⟩:=Y.cons (F:=rT (n+4)) (s:=st) (a:=.v 0) (b:=.aC (.ix (.v 2) (.v 4)) (.u (.v 3))) (U:=[some (pgD tk m rs),some (pgD tk m rs'),some (.tup (l.map inT)),jN L,jN k,y5,y6]) (x:=pgD tk m rs) (xs:=[inT ins,.int (L:Int)]) (.r rf) (.cons A (.cons (.r rf) .nil)) (show 2 < 1000 by decide) st .refl
 obtain⟨o,c,b1,e1,h1,k1⟩:=Qg (n:=n) (s:=G) (tk:=tk) hr K N J O G .refl;have S:ex (rT (n+4)) (.set 5 (.call 26 (.aC (.v 0) (.aC (.ix (.v 2) (.v 4)) (.u (.v 3)))) [])) [some (pgD tk m rs),some (pgD tk m rs'),some (.tup (l.map inT)),jN L,jN k,y5,y6] st=some (.nx [some (pgD tk m rs),some (pgD tk m rs'),some (.tup (l.map inT)),jN L,jN k,jL c,y6],o):=Zn (by show Zq (ev (rT (n+4)) _) (X7 (rT (n+4) 26) []) _ st=_;unfold Zq;rw[e0];exact e1)
 obtain⟨E,e2,I⟩:=Y.cons (F:=rT (n+4)) (s:=o) (a:=.v 1) (b:=.aC (.ix (.v 2) (.v 4)) (.u (.v 3))) (U:=[some (pgD tk m rs),some (pgD tk m rs'),some (.tup (l.map inT)),jN L,jN k,jL c,y6]) (x:=pgD tk m rs') (xs:=[inT ins,.int (L:Int)]) (.r rf) (.cons A (.cons (.r rf) .nil)) (show 2 < 1000 by decide) o .refl
 obtain⟨i,f,b2,e3,P,H⟩:=Qg (n:=n) (s:=E) (tk:=tk) z K N J O E .refl;have R:ex (rT (n+4)) (.set 6 (.call 26 (.aC (.v 1) (.aC (.ix (.v 2) (.v 4)) (.u (.v 3)))) [])) [some (pgD tk m rs),some (pgD tk m rs'),some (.tup (l.map inT)),jN L,jN k,jL c,y6] o=some (.nx [some (pgD tk m rs),some (pgD tk m rs'),some (.tup (l.map inT)),jN L,jN k,jL c,jL f],i):=Zn (by show Zq (ev (rT (n+4)) _) (X7 (rT (n+4) 26) []) _ o=_;unfold Zq;rw[e2];exact e3)
 have W:i[c]?=some (b1,trL m rs L ins):=(I.trans H).get h1;have p:∀ {rs:Li Rw},trL m rs L ins≠[]/\(trL m rs L ins).length<=802:=λ{rs}=>⟨cL _ _,by unfold trL;rw[aQ];have:=Ww (rs:=rs) (M:=L) (k:=0) (vs:=v0 m ins);omega⟩
 obtain⟨us,V,ku⟩:=Y3 (rs:=rs) (n:=L) (k:=0) (vs:=v0 m ins);obtain⟨ws,T,kw⟩:=Y3 (rs:=rs') (n:=L) (k:=0) (vs:=v0 m ins);have e:=Y.lastl (F:=rT (n+4)) (s:=i) (a:=.v 5) (U:=[some (pgD tk m rs),some (pgD tk m rs'),some (.tup (l.map inT)),jN L,jN k,jL c,jL f]) W (.r rf) p.1 (by have:=(p (rs:=rs)).2;omega)
 have d:=Y.lastl (F:=rT (n+4)) (s:=i) (a:=.v 6) (U:=[some (pgD tk m rs),some (pgD tk m rs'),some (.tup (l.map inT)),jN L,jN k,jL c,jL f]) P (.r rf) p.1 (by have:=(p (rs:=rs')).2;omega)
 rw[Q6,V]at e;rw[Q6,T]at d;have te:tel m rs rs' L ins=!Zr us ws:=by unfold tel;rw[V,T];rfl
 obtain⟨g,w,y⟩:=Y.ned e d ku kw i .refl;rw[<-te]at w;have Q:Grw st g:=k0.trans (k1.trans (I.trans (H.trans y)));cases q:tel m rs rs' L ins with
 |false=>
  rw[q]at w;exact⟨g,_,_,Q,(Zc S).trans ((Zc R).trans ((Zc ((Yu w).trans Zh)).trans Zh))⟩
 |true=>
  rw[q]at w;have cp:=JT (n:=n+3) (s:=g) (y.get W) (y.get P) (λk x h=>h.elim (Zem k x) (Zem k x)) (ZdH q) (by have:=(p (rs:=rs)).2;omega)
  have yr:=Y.cons (F:=rT (n+4)) (s:=g) (a:=.t "trial") (b:=.aC (.v 4) (.u (.call 286 (.aC (.v 5) (.u (.v 6))) []))) (U:=[some (pgD tk m rs),some (pgD tk m rs'),some (.tup (l.map inT)),jN L,jN k,jL c,jL f]) (x:=.str "trial") (.r rf) (.cons (x:=.int (k:Int)) (.r rf) (.cons (.call (xs:=[.lst c,.lst f]) (.r rf) cp) .nil))
  obtain⟨t5,e5,k5⟩:=yr g .refl;exact⟨t5,none,none,Q.trans k5,(Zc S).trans ((Zc R).trans (Zi ((Z5 w).trans (Zi (ZJ e5)))))⟩
theorem Qo(t:Rs m rs)(f:Rs m rs')(w:m<=1000)(y:L<=800)(x:∀ ins∈l,ins.length<=m/\∀ v∈ins,Sm v):∀ (M a:Nat) (b y5 y6:Ot D) (st:Za),a+M=l.length->∃ st' A o j,Grw st st'/\Zj (λd U s=>ex (rT (n+4)) Zy (Zf U 4 d) s) ((List.range' a M).map λ(k:Nat)=>D.int (k:Int)) [some (pgD tk m rs),some (pgD tk m rs'),some (.tup (l.map inT)),jN L,b,y5,y6] st=some (match fT (tel m rs rs' L) a (l.drop a) with|some i=>.rt (.tup [.str "trial",.int (i:Int),.int (fdN (trL m rs L (l.getD i [])) (trL m rs' L (l.getD i [])):Int)])|none=>.nx [some (pgD tk m rs),some (pgD tk m rs'),some (.tup (l.map inT)),jN L,A,o,j],st')
 |0,a,b,y5,y6,st,h=>⟨st,b,y5,y6,.refl,by rw[dJ (by omega)];rfl⟩
 |M+1,a,b,y5,y6,st,h=>by
  have p:a < l.length:=by omega
  have z:=lG7 p;have u:=x _ (cM p);obtain⟨g,o,j,q,J⟩:=ZcB (n:=n) (tk:=tk) (st:=st) (y5:=y5) (y6:=y6) t f w y u.1 u.2 z;obtain⟨F,E,C,B,H,I⟩:=Qo t f w y x M (a+1) (jN a) o j g (by omega)
  rw[dC,aO,bQ p];have G:∀ {r},ex (rT (n+4)) Zy [some (pgD tk m rs),some (pgD tk m rs'),some (.tup (l.map inT)),jN L,jN a,y5,y6] st=r->Zj (λd U s=>ex (rT (n+4)) Zy (Zf U 4 d) s) (D.int (a:Int) :: (List.range' (a+1) M).map λ(k:Nat)=>D.int (k:Int)) [some (pgD tk m rs),some (pgD tk m rs'),some (.tup (l.map inT)),jN L,b,y5,y6] st=match r with
    |some (.nx U',st')=>Zj (λd U s=>ex (rT (n+4)) Zy (Zf U 4 d) s) ((List.range' (a+1) M).map λ(k:Nat)=>D.int (k:Int)) U' st'
    |some (.ct U',st')=>Zj (λd U s=>ex (rT (n+4)) Zy (Zf U 4 d) s) ((List.range' (a+1) M).map λ(k:Nat)=>D.int (k:Int)) U' st'
    |some (.bk U',st')=>some (.nx U',st')
    |some (.rt v,st')=>some (.rt v,st')
    |none=>none:=λ{r} e=>by rw[<-e];rfl
  rw[G J];unfold fT;by_cases c:tel m rs rs' L l[a]=true
  ·rw[if_pos c,if_pos c]
   refine⟨g,none,none,none,q,?_⟩;show some (Fl.rt (D.tup [.str "trial",.int (a:Int),.int (fdN (trL m rs L l[a]) (trL m rs' L l[a]):Int)]),g)=some (Fl.rt (D.tup [.str "trial",.int (a:Int),.int (fdN (trL m rs L (l.getD a [])) (trL m rs' L (l.getD a [])):Int)]),g);rw[show l.getD a []=l[a] by rw[bB,z];rfl]
  ·rw[if_neg c,if_neg c]
   exact⟨F,E,C,B,q.trans H,I⟩
theorem Zgo(j:Rs m rs)(b:Rs m rs')(k:m<=1000)(p:L<=800)(o:∀ ins∈l,ins.length<=m/\∀ v∈ins,Sm v)(x:l.length<=100):C (rT (n+5)) s 38 [pgD tk m rs,pgD tk m rs',.tup (l.map inT),.int (L:Int)] (duD (tel m rs rs' L) (λins=>fdN (trL m rs L ins) (trL m rs' L ins)) 0 l):=λst g=>by
 obtain⟨d,w,u,t,h,a⟩:=Qo (n:=n) (tk:=tk) j b k p o l.length 0 none none none st (bE _);have r:ev (rT (n+4)) (.len (.v 2)) [some (pgD tk m rs),some (pgD tk m rs'),some (.tup (l.map inT)),jN L,none,none,none] st=some (.int (l.length:Int),st):=by
  rw[<-aB (as:=l) (f:=inT)];rfl
 have c:=YX (F:=rT (n+4)) (i:=4) (e:=.len (.v 2)) (q:=Zy) (v:=(l.length:Int)) (by omega) (by omega) r
 rw[aZ,dB]at c;rw[cF]at a;unfold duD;cases q:fT (tel m rs rs' L) 0 l with
 |some i=>rw[q]at a;exact⟨d,XE (v:=c__law_due) rfl rfl (Zi (c.trans a)),h⟩
 |none=>rw[q]at a;exact⟨d,XE (v:=c__law_due) rfl rfl ((Zc (c.trans a)).trans (Zi (ZJ rfl))),h⟩
def ctR(a:Nat)(v:Int):Li Rw:=List.replicate a .skip++[.put 0 (.nm 0) (S "+") (.nu 1),.ifr (.nm 0) (S "<") (.nu v) a,.tell (.nm 0)]
theorem Zgx{a:Nat}{v:Int}(d:a<=1)(c:Sm v):Rs 1 (ctR a v)/\(ctR a v).length<=4:=by
 have b:(ctR a v).length=a+3:=by unfold ctR;rw[aI,bS];rfl
 refine⟨⟨by omega,λr hr=>?_⟩,by omega⟩
 rw[b];rcases bP.mp hr with hr|hr
 ·rw[List.eq_of_mem_replicate hr];trivial
 ·simp only[aF,aU,or_false]at hr
  rcases hr with rfl|rfl|rfl
  ·exact⟨by decide,by show 0 < 1;decide,by decide,⟨by decide,by decide⟩⟩
  ·exact⟨by show 0 < 1;decide,by decide,c,by omega⟩
  ·show 0 < 1;decide
theorem Jg:∃ (a:Nat) (v:Int),a<=1/\Sm v/\∀ s,C (rT (n+1)) s 186 [.int c] (pgD (.tup (([]:Li (Int×Int)).map pdD)) 1 (ctR a v)):=by
 have h:=Zo c (j:=2) (by decide)
 obtain⟨a,es⟩:∃ t:Nat,c % 2=(t:Int):=⟨_,(bL h.1).symm⟩;rw[es]at h;have e:=Zo (c / 2) (j:=50) (by decide)
 refine⟨a,50+c / 2 % 50,by omega,by unfold Sm;omega,λs=>?_⟩
 have b:(ctR a (50+c / 2 % 50)).map rwE=((List.replicate a (rwE .skip)++[rwE (.put 0 (.nm 0) (S "+") (.nu 1))])++[rwE (.ifr (.nm 0) (S "<") (.nu (50+c / 2 % 50)) a)])++[rwE (.tell (.nm 0))]:=by
  unfold ctR;rw[cG,List.map_replicate,bD,bD];rfl
 show C _ s 186 _ (.tup [.tup [],.int 1,.tup ((ctR a (50+c / 2 % 50)).map rwE)]);rw[b];refine .of (v:=c__law_counter) rfl rfl (.set (d:=_) (x:=.int (a:Int)) (by rw[<-es];exact .md (.r rf) (.r rf) (by decide)) (.set (.rep (d:=rwE .skip) (i:=a) (.r rf) (.r rf) (by omega)) (.set (.adT (.r rf) (.cons (x:=rwE (.put 0 (.nm 0) (S "+") (.nu 1))) (.r rf) .nil) (by rw[bS];show _+1<=_;omega)) (.set (.adT (.r rf) (.cons (x:=rwE (.ifr (.nm 0) (S "<") (.nu (50+c / 2 % 50)) a)) (.cons (.r rf) (.cons (x:=opE (.nm 0)) (.r rf) (.cons (.r rf) (.cons (x:=opE (.nu (50+c / 2 % 50))) (.cons (.r rf) (.cons (.add (.r rf) (.md (.fd (.r rf) (.r rf) (by decide)) (.r rf) (by decide))) .nil)) (.cons (.r rf) .nil))))) .nil) (by rw[aI,bS];show _+1+1<=_;omega)) (.ret (.cons (.r rf) (.cons (.r rf) (.cons (.adT (.r rf) (.cons (x:=rwE (.tell (.nm 0))) (.r rf) .nil) (by rw[aI,aI,bS];show _+1+1+1<=_;omega)) .nil))))))))
end
section
variable{Q Q1:D->Za->Prop}
theorem RP.setCP(k:Y F s a U (.tup xs))(g:Grw s st)(j:∀ t,Grw st t->CP F f (xs++ds) t Q1)(h:∀ d t,Grw st t->Q1 d t->RP F q (Zf U i d) t Q):RP F (.seq (.set i (.call f a ds)) q) U st Q:=by
 obtain⟨s1,n,b⟩:=k st g;obtain⟨d,e,m,c,l⟩:=j s1 b;exact .pre (Zc (Zn (by show Zq (ev F a) (X7 (F f) ds) U st=_;unfold Zq;rw[n];exact m))) (b.trans c) (h d e (b.trans c) l)
theorem ZgO{α:Type}{u v:α->D}{I:Env->Prop}:∀ {l:Li α},(∀ x∈l,∀ U,I U->∀ st,Grw s st->∃ a st',ex F q (Zf (Zf U i (u x)) i' (v x)) st=some (.nx a,st')/\I a/\Grw st st')->∀ U st,I U->Grw s st->∃ a st',ZZ (λ_=>True) (λx y U s=>ex F q (Zf (Zf U i x) i' y) s) (l.map λx=>(u x,v x)) U st=some (.nx a,st')/\I a/\Grw st st'
 |[],_,U,st,d,_=>⟨U,st,if_pos trivial,d,.refl⟩
 |x :: l,h,U,st,d,g=>by
  obtain⟨c,s1,n,p,e⟩:=h x lQ7 U d st g;obtain⟨b,f,m,o,j⟩:=ZgO (λz k=>h z (lM7 _ k)) c s1 p (g.trans e)
  refine⟨b,f,?_,o,e.trans j⟩;rw[aO,ZZ,if_pos trivial];simp only[n];exact m
theorem RP.forP{l:Li α}{u v:α->D}{I:Env->Prop}{p:CS}(f:Y F s it U (.tup [.tup (l.map u),.tup (l.map v)]))(g:Grw s st)(j:I U)(h:∀ x∈l,∀ U,I U->∀ st,Grw s st->∃ a st',ex F q (Zf (Zf U i (u x)) i' (v x)) st=some (.nx a,st')/\I a/\Grw st st')(e:∀ a t,I a->Grw st t->RP F p a t Q):RP F (.seq (.forP i i' it q) p) U st Q:=by
 obtain⟨s1,n,b⟩:=f st g;obtain⟨a,c,m,o,d⟩:=ZgO h U s1 j (g.trans b);have k:ex F (.forP i i' it q) U st=some (.nx a,c):=by
  rw[<-m,<-List.zip_map'];show VS i i' (ev F it) (ex F q) U st=_;unfold VS;rw[n]
 exact .pre (Zc k) (b.trans d) (e a c o (b.trans d))
def pnF(m:Nat)(rs:Li Rw)(L:Nat)(p:Nat×Str×Rw)(ins:Li Int):Nat:=fdN (trL m rs L ins) (trL m (rs.set p.1 p.2.2) L ins)
structure VF(n m:Nat)(tks:List (Int×Int))(rs:List Rw)(L:Nat)(Z:Nat×Str×Rw->Bool×Option (List Tr))(W:Nat×Str×Rw->D):Prop where
 re:∀ p∈fkL rs,ReP (W p)
 v:∀ tr:List (List Int),tr.length<=10->(∀ ins∈tr,ins.length<=m/\∀ v∈ins,Sm v)->∀ s,C (rT (n+11)) s 283 [pgD (.tup (tks.map pdD)) m rs,.tup (tr.map inT),.int (L:Int)] (.tup ((fkL rs).map λp=>vdD (Z p).1 (Z p).2 (pnF m rs L p) (W p) (tel m rs (rs.set p.1 p.2.2) L) tr))
theorem Zf7(f:Rs m rs)(g:rs.length<=4)(x:m<=4)(hN:Nw tks)(t:tks.length<=m):∃ Z:Nat×Str×Rw->Bool×Ot (Li Tr),(∀ p∈fkL rs,(Z p).1=true->∀ (L:Nat) ins,ins.length<=m->(∀ v∈ins,Sm v)->tel m rs (rs.set p.1 p.2.2) L ins=false)/\∀ L:Nat,L<=800->∃ W,VF n m tks rs L Z W:=by
 have q:(rs.length+1) * (rs.length+1)<=5 * 5:=dQ (by omega) (by omega)
 have A:2 ^ m * ((rs.length+1) * (rs.length+1))<=2 ^ 4 * 25:=dQ (Nat.pow_le_pow_right (by decide) x) q
 obtain⟨Z,i⟩:=Classical.axiomOfChoice (r:=λ(p:Nat×Str×Rw) (z:Bool×Ot (Li Tr))=>p∈fkL rs->(z.1=true->∀ (L:Nat) ins,ins.length<=m->(∀ v∈ins,Sm v)->tel m rs (rs.set p.1 p.2.2) L ins=false)/\∀ L:Nat,L<=800->∃ e,ReP e/\∀ tr:Li (Li Int),(∀ ins∈tr,ins.length<=m/\∀ v∈ins,Sm v)->∀ s,C (rT (n+10)) s 282 [pgD (.tup (tks.map pdD)) m rs,pgD (.tup (tks.map pdD)) m (rs.set p.1 p.2.2),.tup (tr.map inT),.int (L:Int)] (vdD z.1 z.2 (pnF m rs L p) e (tel m rs (rs.set p.1 p.2.2) L) tr)) λp=>by
  by_cases c:p∈fkL rs
  ·obtain⟨F,B⟩:=UE f c
   obtain⟨l,o,E,b⟩:=Jf (n:=n) (sz:=rs.length) f (f.set (k:=p.1) B) rfl bJ (by omega) (by omega) (aP A (by decide)) hN t
   exact⟨(l,o),λ_=>⟨E,b⟩⟩
  ·exact⟨(true,none),λh=>absurd h c⟩
 refine⟨Z,λp d=>(i p d).1,λL y=>?_⟩
 obtain⟨W,j⟩:=Classical.axiomOfChoice (r:=λ(p:Nat×Str×Rw) (w:D)=>p∈fkL rs->ReP w/\∀ tr:Li (Li Int),(∀ ins∈tr,ins.length<=m/\∀ v∈ins,Sm v)->∀ s,C (rT (n+10)) s 282 [pgD (.tup (tks.map pdD)) m rs,pgD (.tup (tks.map pdD)) m (rs.set p.1 p.2.2),.tup (tr.map inT),.int (L:Int)] (vdD (Z p).1 (Z p).2 (pnF m rs L p) w (tel m rs (rs.set p.1 p.2.2) L) tr)) λp=>by
  by_cases c:p∈fkL rs
  ·obtain⟨e,a,b⟩:=(i p c).2 L y
   exact⟨e,λ_=>⟨a,b⟩⟩
  ·exact⟨.non,λh=>absurd h c⟩
 exact⟨W,λp d=>(j p d).1,λtr g u s=>Uk f g λp d s=>(j p d).2 tr u s⟩
theorem Zco{tk:D}{p:Nat×Str×Rw}(g:Rs m rs)(n:p.1 < rs.length)(d:U[1]?=some (some (pgD tk m rs)))(c:U[8]?=some (some (tD p))):Y F s (.bin .Add (.slice (.v 1) .nop (.part (.i 2))) (.tupE (.u (.bin .Add (.bin .Add (.slice (.ix (.v 1) (.i 2)) .nop (.part (.ix (.v 8) (.i 0)))) (.tupE (.u (.ix (.v 8) (.i 2))))) (.slice (.ix (.v 1) (.i 2)) (.part (.bin .Add (.ix (.v 8) (.i 0)) (.i 1))) .nop))))) U (pgD tk m (rs.set p.1 p.2.2)):=by
 have h:=g.l;have k:(rs.map rwE).length=rs.length:=aB ..;have a:Y F s (.ix (.v 1) (.i 2)) U (.tup (rs.map rwE)):=.ixt (j:=2) (xs:=[tk,.int (m:Int),.tup (rs.map rwE)]) (.v d) (.r rf) rfl;have b:Y F s (.ix (.v 8) (.i 0)) U (.int (p.1:Int)):=.ixt (j:=0) (xs:=[.int (p.1:Int),.str p.2.1,rwE p.2.2]) (.v c) (.r rf) rfl;have f:Y F s (.ix (.v 8) (.i 2)) U (rwE p.2.2):=.ixt (j:=2) (xs:=[.int (p.1:Int),.str p.2.1,rwE p.2.2]) (.v c) (.r rf) rfl
 have e:(rs.set p.1 p.2.2).map rwE=((rs.map rwE).take p.1++[rwE p.2.2])++(rs.map rwE).drop (p.1+1):=by
  rw[dO,bD];exact List.set_eq_take_append_cons_drop.trans (if_pos (by omega))
 show Y F s _ U (.tup ([tk,.int (m:Int),.tup (rs.map rwE)].take 2++[.tup ((rs.set p.1 p.2.2).map rwE)]));rw[e];refine .adT (.tkT (i:=2) (xs:=[tk,.int (m:Int),.tup (rs.map rwE)]) (.v d) (.r rf) (show 2<=3 by decide)) (.cons (.adT (.adT (.tkT a b (by omega)) (.cons f .nil) ?_) (.dpT (i:=p.1+1) a (by rw[bF];exact .add b (.r rf)) (by omega)) ?_) .nil) (show 2+1<=100000 by decide)
 ·rw[cK];show _+1<=_;omega
 ·rw[aI,cK,dF];show _+1+_<=_;omega
end
variable{cc:Int}
section
variable{tr:Li (Li Int)}{sm:Bool}{pp:Ot (Li Tr)}{pn:Li Int->Nat}{re:D}{t:Li Int->Bool}
theorem Zhd(h:ReP re):∃ x a,re=.tup (.str x :: a)/\x≠S "trial":=by
 cases h with
 |f ins i=>exact⟨_,_,rfl,by decide +kernel⟩
 |t=>exact⟨_,_,rfl,by decide +kernel⟩
theorem Zhp(h:ReP re)(f:sm=true->∀ x∈tr,t x=false):(∃ i j:Nat,duD t pn 0 tr=.tup [.str "trial",.int (i:Int),.int (j:Int)]/\vdD sm pp pn re t tr=.tup [.str "trial",.int (i:Int),.int (j:Int)])\/(duD t pn 0 tr=.non/\∃ x a,vdD sm pp pn re t tr=.tup (.str x :: a)/\x≠S "trial"):=by
 unfold duD vdD;have none_of:∀ {k:Nat}{l:Li (Li Int)},(∀ x∈l,t x=false)->fT t k l=none:=λ{k l}=>by
  induction l generalizing k with
  |nil=>exact λ_=>rfl
  |cons x l b=>
   intro h;unfold fT;rw[h x lQ7,if_neg (by decide)]
   exact b λz c=>h z (lM7 _ c)
 cases q:fT t 0 tr with
 |some i=>
  cases sm with
  |true=>rw[none_of (f rfl)]at q;cases q
  |false=>
   refine .inl ⟨i,pn (tr.getD i []),by show D.tup [_,_,.int (pn (tr.getD (i - 0) []):Int)]=_;rw[Nat.sub_zero],?_⟩
   rw[if_neg (by decide)]
 |none=>
  refine .inr ⟨rfl,?_⟩;cases sm with
  |true=>exact⟨_,_,if_pos rfl,by decide +kernel⟩
  |false=>
   rw[if_neg (by decide)]
   cases pp with
   |some g=>exact⟨_,_,rfl,by decide +kernel⟩
   |none=>
    obtain⟨x,a,e,d⟩:=Zhd h;exact⟨x,a,e,d⟩
theorem Qh{v:Int}:C (rT (n+1)) s 17 [.int v] (.bl true):=.of (v:=c__law_whole) rfl rfl (.ret (.r rf))
theorem Za1{p:Nat×Str×Rw}{v:D}{o g:Ot D}{P:D}{sa:Int}{e d:D}(hP:P=pgD (.tup (tks.map pdD)) m rs)(A:Rs m rs)(hm:m<=4)(hL:L<=800)(hp:p∈fkL rs)(hl:tr.length<=10)(ho:∀ ins∈tr,ins.length<=m/\∀ v∈ins,Sm v)(hd:(∃ i j:Nat,duD (tel m rs (rs.set p.1 p.2.2) L) (pnF m rs L p) 0 tr=.tup [.str "trial",.int (i:Int),.int (j:Int)]/\v=.tup [.str "trial",.int (i:Int),.int (j:Int)])\/(duD (tel m rs (rs.set p.1 p.2.2) L) (pnF m rs L p) 0 tr=.non/\∃ x h,v=.tup (.str x :: h)/\x≠S "trial")) :
  ∃ N st',ex (rT (n+11)) YJ [jL 0,some P,jI sa,jN L,jI cc,some (.tup (tr.map inT)),some e,some d,some (tD p),some v,o,g] st=some (.nx N,st')/\(∃ Q O C B,N=[jL 0,some P,jI sa,jN L,jI cc,some (.tup (tr.map inT)),some e,some d,Q,O,C,B])/\Grw st st':=by
 subst hP;obtain⟨h1,h2⟩:=UE A hp;have T:=Zco (F:=rT (n+11)) (s:=st) (tk:=.tup (tks.map pdD)) (p:=p) A h1 (U:=[jL 0,some (pgD (.tup (tks.map pdD)) m rs),jI sa,jN L,jI cc,some (.tup (tr.map inT)),some e,some d,some (tD p),some v,o,g]) rfl rfl;obtain⟨z,M,K⟩:=T st .refl;have cd:=Zgo (n:=n+6) (s:=z) (tk:=.tup (tks.map pdD)) (L:=L) A (A.set (k:=p.1) h2) (by omega) hL ho (by omega)
 obtain⟨l,q,J⟩:=Y.call (F:=rT (n+11)) (s:=z) (f:=38) (a:=.aC (.v 1) (.aC (.v 10) (.aC (.v 5) (.u (.v 3))))) (ds:=[]) (xs:=[pgD (.tup (tks.map pdD)) m rs,pgD (.tup (tks.map pdD)) m (rs.set p.1 p.2.2),.tup (tr.map inT),.int (L:Int)]) (U:=[jL 0,some (pgD (.tup (tks.map pdD)) m rs),jI sa,jN L,jI cc,some (.tup (tr.map inT)),some e,some d,some (tD p),some v,some (pgD (.tup (tks.map pdD)) m (rs.set p.1 p.2.2)),g]) (.r rf) cd z .refl
 change ev (rT (n+11)) _ _ z=some (duD (tel m rs (rs.set p.1 p.2.2) L) (pnF m rs L p) 0 tr,l) at q;rcases hd with⟨i,j,H,rfl⟩|⟨H,x,h,rfl,Z⟩
 ·rw[H]at q
  have R:Y (rT (n+11)) l (.or (.cmp .NotEq (.v 9) (.v 11)) (.or (.not (.call 17 (.u (.ix (.v 9) (.i 1))) [])) (.not (.call 17 (.u (.ix (.v 9) (.i 2))) [])))) [jL 0,some (pgD (.tup (tks.map pdD)) m rs),jI sa,jN L,jI cc,some (.tup (tr.map inT)),some e,some d,some (tD p),some (.tup [.str "trial",.int (i:Int),.int (j:Int)]),some (pgD (.tup (tks.map pdD)) m (rs.set p.1 p.2.2)),some (.tup [.str "trial",.int (i:Int),.int (j:Int)])] (.bl false):=by
   have:=Y.ned (F:=rT (n+11)) (s:=l) (a:=.v 9) (b:=.v 11) (U:=[jL 0,some (pgD (.tup (tks.map pdD)) m rs),jI sa,jN L,jI cc,some (.tup (tr.map inT)),some e,some d,some (tD p),some (.tup [.str "trial",.int (i:Int),.int (j:Int)]),some (pgD (.tup (tks.map pdD)) m (rs.set p.1 p.2.2)),some (.tup [.str "trial",.int (i:Int),.int (j:Int)])]) (xs:=[.str "trial",.int (i:Int),.int (j:Int)]) (ys:=[.str "trial",.int (i:Int),.int (j:Int)]) (.r rf) (.r rf) rfl rfl
   rw[Yx (n:=7) rfl]at this;exact .or (k:=false) (m:=false) this λ_=>.or (k:=false) (m:=false) (.not (k:=true) (.call1 (x:=.int (i:Int)) (.r rf) Qh)) λ_=>.not (k:=true) (.call1 (x:=.int (j:Int)) (.r rf) Qh)
  obtain⟨w,G,E⟩:=R l .refl;exact⟨_,w,(Zc (Zn M)).trans ((Zc (Zn q)).trans ((Zc ((Yu rfl).trans Zh)).trans ((Zc ((Yu rfl).trans Zh)).trans ((Zc ((Z5 rfl).trans ((Zc ((Yu G).trans Zh)).trans Zh))).trans Zh)))),⟨_,_,_,_,rfl⟩,K.trans (J.trans E)⟩
 ·rw[H]at q
  have V:Y (rT (n+11)) l (.or (.not (.isi .tuple (.v 9))) (.cmp .Eq (.len (.v 9)) (.i 0))) [jL 0,some (pgD (.tup (tks.map pdD)) m rs),jI sa,jN L,jI cc,some (.tup (tr.map inT)),some e,some d,some (tD p),some (.tup (.str x :: h)),some (pgD (.tup (tks.map pdD)) m (rs.set p.1 p.2.2)),some .non] (.bl false):=.or (k:=false) (m:=false) (.not (k:=true) (.r rf)) λ_=>.cmp (x:=.int ((D.str x :: h).length:Int)) (y:=.int 0) (.lnT (.r rf)) (.r rf) λ_=>by
   show some (decide (((D.str x :: h).length:Int)=0))=_;rw[aH (by rw[aQ];omega)]
  obtain⟨w,G,E⟩:=V l .refl;have I:Y (rT (n+11)) w (.and (.cmp .Is (.v 11) (.c .non)) (.cmp .Eq (.ix (.v 9) (.i 0)) (.t "trial"))) [jL 0,some (pgD (.tup (tks.map pdD)) m rs),jI sa,jN L,jI cc,some (.tup (tr.map inT)),some e,some d,some (tD p),some (.tup (.str x :: h)),some (pgD (.tup (tks.map pdD)) m (rs.set p.1 p.2.2)),some .non] (.bl (true&&decide (x=S "trial"))):=.and (k:=true) (.r rf) λ_=>.eqs (.ixt (j:=0) (.r rf) (.r rf) rfl) (.r rf)
  rw[aH Z]at I;obtain⟨W,e4,X⟩:=I w .refl;exact⟨_,W,(Zc (Zn M)).trans ((Zc (Zn q)).trans ((Zc ((Yu G).trans Zh)).trans ((Zc ((Yu e4).trans Zh)).trans ((Zc ((Yu rfl).trans Zh)).trans Zh)))),⟨_,_,_,_,rfl⟩,K.trans (J.trans (E.trans X))⟩
def Ze7:CS:=(.seq (.set 6 (.call 283 (.aC (.v 1) (.aC (.v 5) (.u (.v 3)))) []))
 (.seq (.set 7 (.call 172 (.u (.v 1)) []))
 (.seq (.ite (.or (.not (.isi .tuple (.v 6))) (.cmp .NotEq (.len (.v 6)) (.len (.v 7)))) (.z (.ret (.c (.bl false)))) .skip)
 (.seq (.forP 8 9 (.aC (.v 7) (.u (.v 6))) YJ)
 (.z (.ret (.c (.bl true))))))))
theorem Za0{sa:Int}(i:Rs m rs)(D:rs.length<=4)(A:m<=4)(hN:Nw tks)(C:tks.length<=m)(M:L<=300)(K:tr.length<=3)(c:∀ ins∈tr,ins.length<=m/\∀ v∈ins,Sm v)(g:Grw (S0 ns) st):RP (rT (n+11)) Ze7 [jL 0,some (pgD (.tup (tks.map pdD)) m rs),jI sa,jN L,jI cc,some (.tup (tr.map inT)),none,none,none,none,none,none] st λd _=>d=.bl true:=by
 obtain⟨Z,E,F⟩:=Zf7 (n:=n) i D A hN C;obtain⟨W,V⟩:=F L (by omega)
 have G:=V.v tr (by omega) c
 refine .setY (s:=S0 ns) (.call (xs:=[pgD (.tup (tks.map pdD)) m rs,.tup (tr.map inT),.int (L:Int)]) (.r rf) (G _)) g λs1 h=>.setY (s:=S0 ns) (.call1 (.r rf) (Qa (n:=n+7) i)) (g.trans h) λJ w=>.no (s:=S0 ns) (.or (k:=false) (m:=false) (.not (k:=true) (.r rf)) λ_=>.cmp (x:=.int (((fkL rs).map λp=>vdD (Z p).1 (Z p).2 (pnF m rs L p) (W p) (tel m rs (rs.set p.1 p.2.2) L) tr).length:Int)) (y:=.int (((fkL rs).map tD).length:Int)) (.lnT (.r rf)) (.lnT (.r rf)) λ_=>?_) (g.trans (h.trans w)) λH B=>.forP (s:=S0 ns) (l:=fkL rs) (u:=tD) (v:=λp=>vdD (Z p).1 (Z p).2 (pnF m rs L p) (W p) (tel m rs (rs.set p.1 p.2.2) L) tr) (I:=λU=>∃ f e b a,U=[jL 0,some (pgD (.tup (tks.map pdD)) m rs),jI sa,jN L,jI cc,some (.tup (tr.map inT)),some (.tup ((fkL rs).map λp=>vdD (Z p).1 (Z p).2 (pnF m rs L p) (W p) (tel m rs (rs.set p.1 p.2.2) L) tr)),some (.tup ((fkL rs).map tD)),f,e,b,a]) (.r rf) (g.trans (h.trans (w.trans B))) ⟨_,_,_,_,rfl⟩ (λp j U o st gs=>?_) λU t o kt=>?_
 ·show some (!decide ((((fkL rs).map λp=>vdD (Z p).1 (Z p).2 (pnF m rs L p) (W p) (tel m rs (rs.set p.1 p.2.2) L) tr).length:Int)=(((fkL rs).map tD).length:Int)))=_
  rw[aB,aB,aL rfl];rfl
 ·obtain⟨f,e,b,a,rfl⟩:=o
  exact Za1 (n:=n) rfl i A (by omega) j (by omega) c (Zhp (V.re p j) λq x z=>E p j q L x (c x z).1 (c x z).2)
 ·obtain⟨f,e,b,a,rfl⟩:=o
  exact .ret (s:=t) (d:=.bl true) (.r rf) .refl λ_ _=>rfl
end
variable{tks:Li (Int×Int)}
theorem QC{st:Za}{m:Nat}{L:Nat}(c:Nw tks)(e:tks.length<=m)(j:m<=4)(r:Rs m rs)(l:rs.length<=4)(q:L<=300)(x:sa<=50)(g:Grw (S0 ns) st):RP (rT (n+11)) (.seq (.set 5 (.call 51 (.aC (.v 0) (.aC (.bin .Add (.v 2) (.i 1)) (.u (.len (.ix (.v 1) (.i 0)))))) [])) Ze7) [jL 0,some (pgD (.tup (tks.map pdD)) m rs),jN sa,jN L,jI cc,none,none,none,none,none,none,none] st λd _=>d=.bl true:=by
 have p:=c.l;have lt:=Y.lnT (F:=rT (n+11)) (s:=S0 ns) (a:=.ix (.v 1) (.i 0)) (xs:=tks.map pdD) (U:=[jL 0,some (pgD (.tup (tks.map pdD)) m rs),jN sa,jN L,jI cc,none,none,none,none,none,none,none]) (.r rf);rw[aB]at lt;refine .setCP (s:=S0 ns) (xs:=[.lst 0,.int ((sa+1:Nat):Int),.int (tks.length:Int)]) (.cons (.r rf) (.cons (by rw[bF];exact .add (.r rf) (.r rf)) (.cons lt .nil))) g (λt k=>JS (n:=n+8) (by omega) p (g.trans k)) λd t k ⟨f,w,o,b⟩=>?_
 subst w;exact Za0 r l j c e q o (λins h=>⟨by rw[(b ins h).1];exact e,(b ins h).2⟩) (g.trans k)
theorem QD{st:Za}{m:Nat}{L:Nat}(E:Nw tks)(K:tks.length<=m)(F:m<=4)(r:Rs m rs)(l:rs.length<=4)(H:L<=300)(g:Grw (S0 ns) st):RP (rT (n+11)) (.seq (.set 4 (.call 27 (.aC (.v 0) (.u (.v 2))) []))
 (.seq (.ite (.cmp .Eq (.bin .Mod (.bin .FloorDiv (.v 4) (.i 88)) (.i 8)) (.i 5)) (.seq (.set 1 (.call 186 (.u (.bin .FloorDiv (.v 4) (.i 704))) []))
 (.z (.set 3 (.bin .Add (.i 100) (.bin .Mod (.bin .FloorDiv (.v 4) (.i 70400)) (.i 101)))))) .skip)
 (.seq (.set 5 (.call 51 (.aC (.v 0) (.aC (.bin .Add (.v 2) (.i 1)) (.u (.len (.ix (.v 1) (.i 0)))))) [])) Ze7))) [jL 0,some (pgD (.tup (tks.map pdD)) m rs),some (.int ((5+2 * rs.length:Nat):Int)),jN L,none,none,none,none,none,none,none,none] st λd _=>d=.bl true:=by
 refine .setY (s:=S0 ns) (.call (xs:=[.lst 0,.int ((5+2 * rs.length:Nat):Int)]) (.r rf) (Yw (n:=n+10) (by omega))) g λC e=>?_
 generalize ceI ns (5+2 * rs.length)=cc;have y:Y (rT (n+11)) (S0 ns) (.cmp .Eq (.bin .Mod (.bin .FloorDiv (.v 4) (.i 88)) (.i 8)) (.i 5)) [jL 0,some (pgD (.tup (tks.map pdD)) m rs),some (.int ((5+2 * rs.length:Nat):Int)),jN L,jI cc,none,none,none,none,none,none,none] (.bl (decide (cc / 88 % 8=5))):=.eqv (.md (.fd (.r rf) (.r rf) (by decide)) (.r rf) (by decide)) (.r rf)
 obtain⟨o,b,a⟩:=y C (g.trans e);cases q:decide (cc / 88 % 8=5) with
 |false=>
  rw[q]at b;exact .pre (Zc ((Yu b).trans Zh)) a (QC E K F r l H (by omega) (g.trans (e.trans a)))
 |true=>
  rw[q]at b;obtain⟨t,v,J,I,G⟩:=Jg (n:=n+10) (c:=cc / 704);obtain⟨D,lk⟩:=Zgx J I;have B:Y (rT (n+11)) o (.call 186 (.u (.bin .FloorDiv (.v 4) (.i 704))) []) [jL 0,some (pgD (.tup (tks.map pdD)) m rs),some (.int ((5+2 * rs.length:Nat):Int)),jN L,jI cc,none,none,none,none,none,none,none] (pgD (.tup (([]:Li (Int×Int)).map pdD)) 1 (ctR t v)):=.call1 (.fd (.r rf) (.r rf) (by decide)) (G _)
  obtain⟨k,N,x⟩:=B o .refl;have P:=Zo (cc / 70400) (j:=101) (by decide)
  obtain⟨L2,f⟩:∃ L2:Nat,100+cc / 70400 % 101=(L2:Int):=⟨_,(bL (by omega)).symm⟩
  have A:Y (rT (n+11)) k (.bin .Add (.i 100) (.bin .Mod (.bin .FloorDiv (.v 4) (.i 70400)) (.i 101))) [jL 0,some (pgD (.tup (([]:Li (Int×Int)).map pdD)) 1 (ctR t v)),some (.int ((5+2 * rs.length:Nat):Int)),jN L,jI cc,none,none,none,none,none,none,none] (.int (L2:Int)):=by
   rw[<-f];exact .add (.r rf) (.md (.fd (.r rf) (.r rf) (by decide)) (.r rf) (by decide))
  obtain⟨O,M,w⟩:=A k .refl;exact .pre (Zc ((Z5 b).trans ((Zc (Zn N)).trans ((Zc (Zn M)).trans Zh)))) (a.trans (x.trans w)) (QC ⟨aM _,λp h=>nomatch h⟩ (aM _) (by decide) D lk (by omega) (by omega) (g.trans (e.trans (a.trans (x.trans w)))))
theorem JB(n:Nat)(ns:Li Int):∃ st',rT (n+12) 16 [.lst 0] [(false,ns.map .int)]=some (.bl true,st'):=by
 have g:Grw (S0 ns) (S0 ns):=.refl;have f:CP (rT (n+12)) 16 [.lst 0] (S0 ns) λd _=>d=.bl true:=by
  refine .of (v:=c_law_k62) rfl rfl (.setCP (s:=S0 ns) (xs:=[.lst 0,.int ((4:Nat):Int)]) (.r rf) g (λt k=>Zev (n:=n+6) (by decide) (g.trans k)) λd t k M=>?_)
  obtain⟨tks,m,rs,e,z,y,A,r,l⟩:=M;subst e;have g1:Grw (S0 ns) t:=g.trans k;have J:∀ {s:Za}{U:Env},U[1]?=some (some (pgD (.tup (tks.map pdD)) m rs))->Y (rT (n+11)) s (.bin .Add (.i 5) (.bin .Mult (.i 2) (.len (.ix (.v 1) (.i 2))))) U (.int ((5+2 * rs.length:Nat):Int)):=λ{s U} h=>by
   have:=Y.lnT (F:=rT (n+11)) (s:=s) (a:=.ix (.v 1) (.i 2)) (xs:=rs.map rwE) (U:=U) (.ixt (j:=2) (xs:=[.tup (tks.map pdD),.int (m:Int),.tup (rs.map rwE)]) (.v h) (.r rf) rfl);rw[aB]at this;rw[bF,eA];exact .add (.r rf) (.mul (.r rf) this (UK (by omega)))
  refine .setY (s:=S0 ns) (J rfl) g1 λQ C=>.setY (s:=S0 ns) (.call1 (.call (xs:=[.lst 0,.int ((5+2 * rs.length:Nat):Int)]) (.r rf) (Yw (n:=n+10) (by omega))) (Zch (n:=n+10))) (g1.trans C) λI K=>?_
  have w:=g1.trans (C.trans K);have D:=ZhQ (c:=ceI ns (5+2 * rs.length));obtain⟨L,N⟩:∃ L:Nat,liI (ceI ns (5+2 * rs.length))=(L:Int):=⟨_,(bL D.1).symm⟩;rw[N]at D ⊢;have lt:=Y.lnT (F:=rT (n+11)) (s:=S0 ns) (a:=.ix (.v 1) (.i 0)) (xs:=tks.map pdD) (U:=[jL 0,some (pgD (.tup (tks.map pdD)) m rs),some (.int ((5+2 * rs.length:Nat):Int)),jN L,none,none,none,none,none,none,none,none]) (.r rf)
  rw[aB]at lt;have G:=Y.gts (b:=.i 2) (j:=2) lt (.r rf);obtain⟨H,x,o⟩:=G I w;cases q:decide ((2:Int) < (tks.length:Int)) with
  |false=>
   rw[q]at x;exact .pre (Zc ((Yu x).trans Zh)) o (QD z y A r l (by omega) (w.trans o))
  |true=>
   rw[q]at x;have p:=Zo (L:Int) (j:=11) (by decide)
   obtain⟨L2,u⟩:∃ L2:Nat,(L:Int) % 11=(L2:Int):=⟨_,(bL p.1).symm⟩;rw[u]at p;have E:Y (rT (n+11)) (S0 ns) (.bin .Mod (.v 3) (.i 11)) [jL 0,some (pgD (.tup (tks.map pdD)) m rs),some (.int ((5+2 * rs.length:Nat):Int)),jN L,none,none,none,none,none,none,none,none] (.int (L2:Int)):=by
    rw[<-u];exact .md (.r rf) (.r rf) (by decide)
   obtain⟨P,O,B⟩:=E H (w.trans o);exact .pre (Zc ((Z5 x).trans ((Zc (Zn O)).trans Zh))) (o.trans B) (QD z y A r l (by omega) (w.trans (o.trans B)))
 obtain⟨d,st',e,_,rfl⟩:=f;exact⟨st',e⟩
end Dp
namespace PySem.W.Fast
def tw14159391623742443383:=0
def tw4479732652754776732:=0
def tw8701709394979091284:=0
def tw14795824419931873144:=0
def tw13106997729511580869:=0
def tw15601034664223120146:=0
def tw3606527939376236145:=0
def tw7327914526199084936:=0
def tw18332051135127476061:=0
def tw12224319894060986219:=0
def tw14697209083328275099:=0
def tw4137573307341653340:=0
def tw728342955144741785:=0
def tw4760441467307851904:=0
def tw12664530958703521031:=0
def tw12283340644028146995:=0
def tw13419795823073719068:=0
def tw3833786794816819137:=0
def tw4549779363653827843:=0
def tw36224932499267498:=0
def tw14896758203034879836:=0
def tw14102753088701189577:=0
def tw3300559769056559016:=0
def tw12898417772575864314:=0
def tw5259950583621694252:=0
def tw1112363257275149841:=0
def tw5379336633828450440:=0
def tw11087078304011062617:=0
def tw18358626912878126584:=0
def tw17424574427776436405:=0
def tw15280447488954325867:=0
def tw12164792994174925351:=0
def tw2260284357684513313:=0
def tw4889970634329494952:=0
def tw8549867717468173063:=0
def tw580660063927145939:=0
def tw17508779283514248175:=0
def tw12972708090690557115:=0
def tw3326888214298251404:=0
def tw5792524602871952567:=0
def tw13447172039228351007:=0
def tw2535911504563531498:=0
def tw7079018778381452430:=0
def tw15461597994889038334:=0
def tw15212883131898293512:=0
def tw6515348774359699473:=0
def tw2272318942357646240:=0
def tw1117533292143995585:=0
def tw1231050027536001536:=0
def tw13203120177942734120:=0
def tw6709363562325800563:=0
def tw6853473025709471706:=0
def tw2906053177971492715:=0
def tw10118331934780430199:=0
def tw12259436589390499474:=0
def tw11462088594213685879:=0
def tw8428480190560338935:=0
def tw12309311627151016353:=0
def tw9130274954118884157:=0
def tw3955836546979780824:=0
def tw12464091211740863881:=0
def tw1629985402730375900:=0
def tw1454350145492048131:=0
def tw5269415881685920750:=0
def tw10601714319676585670:=0
def tw5788857189898535876:=0
def tw6027882026612690259:=0
def tw3258531839959980521:=0
def tw8219605564341549544:=0
def tw1035184904455344705:=0
def tw14126264553843262849:=0
def tw16056284431568289054:=0
def tw14833078203175075615:=0
def tw4071593042922077560:=0
def tw5479126434166259258:=0
def tw16384693803304603021:=0
def tw2636488310022969131:=0
def tw6764476313287591167:=0
def tw15660535016410355482:=0
def tw9923744782173999480:=0
def tw16265049421171827433:=0
def tw6251830002780109752:=0
def tw18356201432652762721:=0
def tw3789362805227201590:=0
def tw10208613440119243350:=0
def tw7470437551354534483:=0
def tw13310150020814154972:=0
def tw389504649271999905:=0
def tw2099431359267479111:=0
def tw14530685539913096975:=0
def tw9238323399686649515:=0
def tw2352989359418116451:=0
def tw18061958590204114579:=0
def tw16853408273920854185:=0
def tw7090703542725488834:=0
def tw11562226230929210460:=0
def tw15149007288333078053:=0
def tw16094457652304877325:=0
def tw4732806871633626893:=0
def tw17873610052382483883:=0
def tw17307728129748652498:=0
def tw13583762812365613092:=0
def tw11842532582601569980:=0
def tw16352769713831077397:=0
def tw17034694637966242764:=0
def tw7235379608966775808:=0
def tw558807600105152765:=0
def tw4056942235633849739:=0
def tw9656462971737911948:=0
def tw15536090125352155842:=0
def tw13144830940954655512:=0
def tw15758963589740284100:=0
def tw3291722328126142101:=0
def tw2746972135367421018:=0
def tw8875042875956665541:=0
def tw1084481508976767381:=0
def tw13198370111935340237:=0
def tw9044678092553669126:=0
def tw14672778783308353865:=0
def tw2724186782376757423:=0
def tw5325188128993148639:=0
def tw6658860275331783255:=0
def tw6462571291347217277:=0
def tw13139993948889880035:=0
def tw267233998986568480:=0
def tw2178362826142271227:=0
def tw14957986384777213687:=0
def tw8054814691339523646:=0
def tw18383047638871215873:=0
def tw5087348775487423512:=0
def tw15679672509581843606:=0
def tw5088623223446459587:=0
def tw6322656102088084635:=0
def tw16888515968040891375:=0
def tw567320030954344700:=0
def tw5443516662763771466:=0
def tw16239847882391095272:=0
def tw12637608541222098141:=0
def tw7791108983334068044:=0
def tw8664219394555141835:=0
def tw14386153005241808884:=0
def tw11237235861025529049:=0
def tw3547420217878323601:=0
def tw5200520081344196692:=0
def tw5112113603497151088:=0
def tw6873220398555252998:=0
def tw1227811379948792631:=0
def tw6474472654254897645:=0
def tw6411468814120678360:=0
def tw11789853810426672351:=0
def tw2977308298093154648:=0
def tw15564586595290205512:=0
def tw17973196529158624739:=0
def tw10611190974569270330:=0
def tw13229876446866024940:=0
def tw8486047834627810738:=0
def tw15050495221638858673:=0
def tw17385338263749590939:=0
def tw8412234639820504392:=0
def tw6956022273213711450:=0
def tw2701051722691070224:=0
def tw16155934473053398901:=0
def tw857264802278899989:=0
def tw17175044517620128782:=0
def tw3787499843307406359:=0
def tw10327982212055883729:=0
def tw15116372014348221342:=0
def tw17850322118449711784:=0
def tw7516469020078376013:=0
def tw5529267092905563812:=0
def tw1421586072662485477:=0
def tw15285671816870536080:=0
def tw5657885621590995725:=0
def tw2297144682603857682:=0
def tw13860711191199429643:=0
def tw3336433196363455265:=0
def tw10810003134697654521:=0
def tw2884140184268785551:=0
def tw136478770543898058:=0
def tw12960116563559486477:=0
def tw2269478842315221844:=0
def tw4333862658484013028:=0
def tw5425109961079151927:=0
def tw14640226996267427558:=0
def tw11934955937427070312:=0
def tw12492726912243872957:=0
def tw17388507522188135397:=0
def tw11098337578499787543:=0
def tw15138205609694698020:=0
def tw4456161964839261439:=0
def tw882502620950570475:=0
def tw14519616345656791759:=0
def tw18423370853586405296:=0
def tw16015529914818744904:=0
def tw4050728137820027898:=0
def tw6281637249618254573:=0
def tw6925532512227199931:=0
def tw9886205619000676673:=0
def tw16077809763991239914:=0
def tw17886161391494845801:=0
def tw2555083271412083008:=0
def tw8383157751981446395:=0
def tw13272698681476317942:=0
def tw15703689627598345895:=0
def tw12173854378832894846:=0
def tw16637333617721692056:=0
def tw4421030346527975420:=0
def tw13380404043295998601:=0
def tw12845588734174868269:=0
def tw17720789722248595552:=0
def tw16297981389023964598:=0
def tw2987267575368752157:=0
def tw14596389370422367938:=0
def tw18096264471508407524:=0
def tw15984599238608443539:=0
def tw11525233686767393416:=0
def tw18315779026357881899:=0
def tw11733358417393048453:=0
def tw6785899108858515940:=0
def tw18379699038468038980:=0
def tw13981477845737151466:=0
def tw1919459601397919275:=0
def tw14440597479026415853:=0
def tw12078440345987438494:=0
def tw1808211941410583837:=0
def tw801606781230753598:=0
def tw5088044545615969112:=0
def tw4075231671755432684:=0
def tw2187208304102031164:=0
def tw12225404676941625310:=0
def tw596604578443831337:=0
def tw7333577337058354802:=0
def tw17978384598050068022:=0
def tw10136478926870135535:=0
def tw16619560264980894898:=0
def tw16609532412691826573:=0
def tw11640214597281009955:=0
def tw6342832305490178231:=0
def tw10426267837850198303:=0
def tw13302672194494357437:=0
def tw11369864999908058553:=0
def tw141703147551296603:=0
def tw1116524898197310960:=0
def tw13136701499473608198:=0
def tw2184038752279404872:=0
def tw292197729978129144:=0
def tw8768973931275739247:=0
def tw2182907301243854349:=0
def tw7430500198289201791:=0
def tw2725253516653271993:=0
def tw18158890600848530805:=0
def tw9394996572462712609:=0
def tw15993397219600651559:=0
def tw10947909928657509386:=0
def tw12969257397547391716:=0
end PySem.W.Fast
namespace Dp
open PySem L2
noncomputable def top(i:Nat):Stmt:=PySem.Challenge.pw_fakehunt_k62_told_by_trials.main.body.getD i (.Pass ⟨0,0,0,0⟩)
noncomputable def G:Gs:=[(S "Step",GV.cls 146 [(S "word",147,1),(S "turned",148,3)] [146,169,149,157,152,160,163]),(S "Sign",GV.cls 169 [(S "word",170,1),(S "turned",171,3)] [169]),(S "More",GV.cls 149 [(S "word",150,1),(S "turned",151,3)] [149]),(S "Turn",GV.cls 157 [(S "word",158,1),(S "turned",159,3)] [157]),(S "Out",GV.cls 152 [(S "word",153,1),(S "turned",154,3)] [152]),(S "Swap",GV.cls 160 [(S "word",161,1),(S "turned",162,3)] [160]),(S "Far",GV.cls 163 [(S "word",164,1),(S "turned",165,3)] [163]),(S "OPERAND_PLACES",GV.dct [(S "put"),(S "if"),(S "tell"),(S "go"),(S "skip")] [(.tup [(.int 2),(.int 4)]),(.tup [(.int 1),(.int 3)]),(.tup [(.int 1)]),(.tup []),(.tup [])]),(S "replaced",GV.fn 42 3 []),(S "operand_places",GV.fn 113 1 []),(S "bit_of",GV.fn 43 1 []),(S "all_bits",GV.fn 56 1 []),(S "has_bit",GV.fn 114 2 []),(S "without_bit",GV.fn 57 2 []),(S "LOWEST",GV.c (.int (-1000000000))),(S "HIGHEST",GV.c (.int 999999999)),(S "HALF",GV.c (.int 1000000000)),(S "RING",GV.c (.int 2000000000)),(S "PUT_SIGNS",GV.c (.kt [(S "+"),(S "-"),(S "*"),(S "/"),(S "mod")])),(S "IF_SIGNS",GV.c (.kt [(S "<"),(S "<="),(S "="),(S ">="),(S ">"),(S "!=")])),(S "around",GV.fn 0 1 []),(S "divided",GV.fn 1 2 []),(S "left_over",GV.fn 2 2 []),(S "reckon",GV.fn 3 3 []),(S "is_so",GV.fn 4 3 []),(S "CONTRARIES",GV.dct [(S "<"),(S ">="),(S "<="),(S ">"),(S "="),(S "!=")] [(.str (S ">=")),(.str (S "<")),(.str (S ">")),(.str (S "<=")),(.str (S "!=")),(.str (S "="))]),(S "behind",GV.fn 70 2 []),(S "fakes",GV.fn 172 1 []),(S "fake_of",GV.fn 180 3 []),(S "worth",GV.fn 5 2 []),(S "began",GV.fn 6 2 []),(S "at_end",GV.fn 7 2 []),(S "values_behind",GV.fn 8 2 []),(S "place_behind",GV.fn 9 3 []),(S "moved",GV.fn 10 2 []),(S "is_outcome",GV.fn 11 1 []),(S "trail",GV.fn 12 3 [(.int 100)]),(S "outcome",GV.fn 13 3 [(.int 100)]),(S "MOST_TRIALS",GV.c (.int 10)),(S "check_trials",GV.fn 181 1 []),(S "WIDEST",GV.c (.int 64)),(S "width",GV.fn 133 1 []),(S "inputs_of",GV.fn 134 1 []),(S "is_wide",GV.fn 135 1 []),(S "box",GV.fn 136 1 []),(S "menu_numbers",GV.fn 137 2 []),(S "menu",GV.fn 138 1 []),(S "tried",GV.fn 139 1 []),(S "NOUGHT",GV.c (.tup [(.str (S "number")),(.int 0)])),(S "ONE",GV.c (.tup [(.str (S "number")),(.int 1)])),(S "SKIP",GV.c (.tup [(.str (S "skip"))])),(S "are_numbers",GV.fn 73 2 []),(S "lesser_first",GV.fn 74 3 []),(S "less_as_more",GV.fn 75 1 []),(S "without_reckoning",GV.fn 76 1 []),(S "made_put",GV.fn 77 1 []),(S "greater_as_less",GV.fn 78 1 []),(S "is_settled",GV.fn 79 1 []),(S "settled",GV.fn 80 1 []),(S "most_as_less",GV.fn 81 1 []),(S "made_if",GV.fn 82 2 []),(S "made_row",GV.fn 83 2 []),(S "made",GV.fn 106 1 []),(S "END",GV.c (.tup [(.str (S "end"))])),(S "row_at",GV.fn 115 2 []),(S "ends_run",GV.fn 116 1 []),(S "reads_only",GV.fn 117 2 []),(S "end_alike",GV.fn 118 3 []),(S "choose_alike",GV.fn 119 3 []),(S "staying",GV.fn 120 3 []),(S "places_behind",GV.fn 121 2 []),(S "follow",GV.fn 122 5 []),(S "found_paper",GV.fn 201 2 []),(S "parting",GV.fn 98 4 [(.int 100)]),(S "tells",GV.fn 99 4 [(.int 100)]),(S "sought",GV.fn 140 3 [(.int 100)]),(S "first_telling",GV.fn 281 4 []),(S "verdict",GV.fn 282 4 []),(S "verdicts",GV.fn 283 3 [(.int 100)]),(S "_law_whole",GV.fn 17 1 []),(S "_law_cell_at",GV.fn 27 2 []),(S "_law_small_by",GV.fn 19 1 []),(S "_law_operand",GV.fn 28 2 []),(S "_law_row",GV.fn 29 4 []),(S "_law_stretch",GV.fn 284 1 []),(S "_law_program",GV.fn 30 2 []),(S "_law_trials",GV.fn 51 3 []),(S "_law_limit",GV.fn 102 1 []),(S "_law_around",GV.fn 31 1 []),(S "_law_reckon",GV.fn 32 3 []),(S "_law_so",GV.fn 33 3 []),(S "_law_worth",GV.fn 34 2 []),(S "_law_next",GV.fn 35 3 []),(S "_law_trail",GV.fn 26 3 []),(S "_law_parted",GV.fn 286 2 []),(S "_law_due",GV.fn 38 4 []),(S "_law_counter",GV.fn 186 1 []),(S "law",GV.fn 16 1 []),(S "len",GV.blt),(S "range",GV.blt),(S "tuple",GV.blt),(S "list",GV.blt),(S "int",GV.blt),(S "bool",GV.blt),(S "str",GV.blt),(S "min",GV.blt),(S "max",GV.blt),(S "isinstance",GV.blt),(S "all",GV.blt),(S "any",GV.blt),(S "zip",GV.blt),(S "sorted",GV.blt),(S "enumerate",GV.blt),(S "set",GV.blt)]
noncomputable def ZW(i k:Nat):Stmt:=match top i with
 |.ClassDef _ _ _ b _ _ _ _ _ _ _=>b.getD k (.Pass ⟨0,0,0,0⟩)
 |s=>s
abbrev Cmp(i:Nat)(N a:Li Str)(c:CS):Prop:=Yv G (top i) N a c
local macro_rules
 |`(tactic| trivial)=>`(tactic| exact⟨⟨rfl,rfl,rfl,by decide +kernel,rfl,by decide +kernel,by decide +kernel⟩,by unfold L2.Loc;decide +kernel,by kernel_rfl⟩)
theorem q_6:Cmp 6 ["things","i","thing"] ["things","i","thing"] c_replaced.body:=by trivial
theorem q_7:Cmp 7 ["row"] ["row"] c_operand_places.body:=by trivial
theorem q_8:Cmp 8 ["i","bit","times"] ["i"] c_bit_of.body:=by trivial
theorem q_9:Cmp 9 ["many"] ["many"] c_all_bits.body:=by trivial
theorem ZhT:Cmp 10 ["bits","i"] ["bits","i"] c_has_bit.body:=by trivial
theorem ZhU:Cmp 11 ["bits","i"] ["bits","i"] c_without_bit.body:=by trivial
theorem ZhV:Cmp 19 ["number"] ["number"] c_around.body:=by trivial
theorem ZhW:Cmp 20 ["one","other"] ["one","other"] c_divided.body:=by trivial
theorem ZhX:Cmp 21 ["one","other"] ["one","other"] c_left_over.body:=by trivial
theorem ZhY:Cmp 22 ["one","sign","other"] ["one","sign","other"] c_reckon.body:=by trivial
theorem ZhZ:Cmp 23 ["one","sign","other"] ["one","sign","other"] c_is_so.body:=by trivial
theorem Zh0:Cmp 26 ["ring","sign"] ["ring","sign"] c_behind.body:=by trivial
theorem Zh1:Cmp 35 ["program","rows","steps","told","k","row","step"] ["program"] c_fakes.body:=by trivial
theorem Zh2:Cmp 36 ["program","k","row"] ["program","k","row"] c_fake_of.body:=by trivial
theorem Zh3:Cmp 38 ["operand","values"] ["operand","values"] c_worth.body:=by trivial
theorem Zh4:Cmp 39 ["program","inputs"] ["program","inputs"] c_began.body:=by trivial
theorem Zh5:Cmp 40 ["program","state"] ["program","state"] c_at_end.body:=by trivial
theorem Zh6:Cmp 41 ["row","values","number"] ["row","values"] c_values_behind.body:=by trivial
theorem Zh7:Cmp 42 ["row","k","values"] ["row","k","values"] c_place_behind.body:=by trivial
theorem Zh8:Cmp 43 ["program","state","k","values","row"] ["program","state"] c_moved.body:=by trivial
theorem Zh9:Cmp 44 ["thing"] ["thing"] c_is_outcome.body:=by trivial
theorem Zia:Cmp 45 ["program","inputs","limit","state","things","done","thing"] ["program","inputs","limit"] c_trail.body:=by trivial
theorem Zib:Cmp 46 ["program","inputs","limit"] ["program","inputs","limit"] c_outcome.body:=by trivial
theorem Zic:Cmp 49 ["trials"] ["trials"] c_check_trials.body:=by trivial
theorem Zid:Cmp 52 ["program","many","low","high"] ["program"] c_width.body:=by trivial
theorem Zie:Cmp 53 ["numbers_taken","told","numbers","longer","inputs"] ["numbers_taken"] c_inputs_of.body:=by trivial
theorem Zif:Cmp 54 ["program"] ["program"] c_is_wide.body:=by trivial
theorem Zig:Cmp 55 ["program"] ["program"] c_box.body:=by trivial
theorem Zih:Cmp 56 ["low","high","numbers","number"] ["low","high"] c_menu_numbers.body:=by trivial
theorem Zii:Cmp 57 ["program"] ["program"] c_menu.body:=by trivial
theorem Zij:Cmp 58 ["program"] ["program"] c_tried.body:=by trivial
theorem Zik:Cmp 63 ["y","z"] ["y","z"] c_are_numbers.body:=by trivial
theorem Zil:Cmp 64 ["row","i","j"] ["row","i","j"] c_lesser_first.body:=by trivial
theorem Zim:Cmp 65 ["row"] ["row"] c_less_as_more.body:=by trivial
theorem Zin:Cmp 66 ["row","y","sign","z"] ["row"] c_without_reckoning.body:=by trivial
theorem Zio:Cmp 67 ["row"] ["row"] c_made_put.body:=by trivial
theorem Zip:Cmp 68 ["row"] ["row"] c_greater_as_less.body:=by trivial
theorem Ziq:Cmp 69 ["row"] ["row"] c_is_settled.body:=by trivial
theorem Zir:Cmp 70 ["row","so"] ["row"] c_settled.body:=by trivial
theorem Zis:Cmp 71 ["row","y","z"] ["row"] c_most_as_less.body:=by trivial
theorem Zit:Cmp 72 ["row","k"] ["row","k"] c_made_if.body:=by trivial
theorem Ziu:Cmp 73 ["row","k"] ["row","k"] c_made_row.body:=by trivial
theorem Ziv:Cmp 74 ["program","rows"] ["program"] c_made.body:=by trivial
theorem Ziw:Cmp 77 ["program","k"] ["program","k"] c_row_at.body:=by trivial
theorem Zix:Cmp 78 ["row"] ["row"] c_ends_run.body:=by trivial
theorem Ziy:Cmp 79 ["row","bits","i"] ["row","bits"] c_reads_only.body:=by trivial
theorem Ziz:Cmp 80 ["row","beside","bits"] ["row","beside","bits"] c_end_alike.body:=by trivial
theorem ZiA:Cmp 81 ["row","beside","bits"] ["row","beside","bits"] c_choose_alike.body:=by trivial
theorem ZiB:Cmp 82 ["row","beside","bits","each"] ["row","beside","bits"] c_staying.body:=by trivial
theorem ZiC:Cmp 83 ["row","k"] ["row","k"] c_places_behind.body:=by trivial
theorem ZiD:Cmp 84 ["one","other","k","j","bits","row","beside","stay","triples","place"] ["one","other","k","j","bits"] c_follow.body:=by trivial
theorem ZiE:Cmp 86 ["one","other","paper","ahead","pair","triples","k","j","stay","bits"] ["one","other"] c_found_paper.body:=by trivial
theorem ZiF:Cmp 88 ["one","other","inputs","limit","things","beside","n"] ["one","other","inputs","limit"] c_parting.body:=by trivial
theorem ZiG:Cmp 89 ["one","other","inputs","limit"] ["one","other","inputs","limit"] c_tells.body:=by trivial
theorem ZiH:Cmp 91 ["one","other","limit","inputs"] ["one","other","limit"] c_sought.body:=by trivial
theorem ZiI:Cmp 93 ["one","other","trials","limit","i","inputs"] ["one","other","trials","limit"] c_first_telling.body:=by trivial
theorem ZiJ:Cmp 94 ["program","other","trials","limit","i","paper","inputs"] ["program","other","trials","limit"] c_verdict.body:=by trivial
theorem ZiK:Cmp 95 ["program","trials","limit"] ["program","trials","limit"] c_verdicts.body:=by trivial
theorem ZiL:Cmp 97 ["_law_found"] ["_law_found"] c__law_whole.body:=by trivial
theorem ZiM:Cmp 98 ["_law_script","_law_k"] ["_law_script","_law_k"] c__law_cell_at.body:=by trivial
theorem ZiN:Cmp 99 ["_law_cell","_law_some"] ["_law_cell"] c__law_small_by.body:=by trivial
theorem ZgW:Cmp 100 ["_law_number","_law_many"] ["_law_number","_law_many"] c__law_operand.body:=by trivial
theorem ZgX:Cmp 101 ["_law_cell","_law_more","_law_many","_law_size","_law_one","_law_other","_law_sign","_law_at","_law_x"] ["_law_cell","_law_more","_law_many","_law_size"] c__law_row.body:=by trivial
theorem ZgY:Cmp 102 ["_law_cell","_law_low"] ["_law_cell"] c__law_stretch.body:=by trivial
theorem ZgZ:Cmp 103 ["_law_script","_law_most","_law_head","_law_taken","_law_many","_law_size","_law_rows","_law_k","_law_cell","_law_takes"] ["_law_script","_law_most"] c__law_program.body:=by trivial
theorem Zg0:Cmp 104 ["_law_script","_law_start","_law_taken","_law_trials_here","_law_k","_law_cells"] ["_law_script","_law_start","_law_taken"] c__law_trials.body:=by trivial
theorem Zg1:Cmp 105 ["_law_cell"] ["_law_cell"] c__law_limit.body:=by trivial
theorem Zg2:Cmp 106 ["_law_number"] ["_law_number"] c__law_around.body:=by trivial
theorem Zg3:Cmp 107 ["_law_one","_law_sign","_law_other"] ["_law_one","_law_sign","_law_other"] c__law_reckon.body:=by trivial
theorem Zg4:Cmp 108 ["_law_one","_law_sign","_law_other","_law_some"] ["_law_one","_law_sign","_law_other"] c__law_so.body:=by trivial
theorem Zg5:Cmp 109 ["_law_operand_here","_law_values"] ["_law_operand_here","_law_values"] c__law_worth.body:=by trivial
theorem Zg6:Cmp 110 ["_law_program_here","_law_at","_law_values","_law_row_here","_law_there","_law_one"] ["_law_program_here","_law_at","_law_values"] c__law_next.body:=by trivial
theorem Zg7:Cmp 111 ["_law_program_here","_law_inputs","_law_limit_here","_law_state","_law_way","_law_done"] ["_law_program_here","_law_inputs","_law_limit_here"] c__law_trail.body:=by trivial
theorem Zg8:Cmp 112 ["_law_one","_law_other","_law_n"] ["_law_one","_law_other"] c__law_parted.body:=by trivial
theorem Zg9:Cmp 113 ["_law_program_here","_law_fake","_law_trials_here","_law_limit_here","_law_i","_law_here","_law_there"] ["_law_program_here","_law_fake","_law_trials_here","_law_limit_here"] c__law_due.body:=by trivial
theorem Zha:Cmp 114 ["_law_cell","_law_skips","_law_rows"] ["_law_cell"] c__law_counter.body:=by trivial
theorem Zef:Cmp 115 ["_law_script","_law_program_here","_law_start","_law_limit_here","_law_cell","_law_trials_here","_law_found","_law_some","_law_fake","_law_verdict","_law_other","_law_due_here"] ["_law_script"] c_law_k62.body:=by trivial
theorem Zfq:Yv G (ZW 27 0) [S "self"] [S "self"] c_Step_word.body:=by trivial
theorem Zfr:Yv G (ZW 27 1) [S "self",S "row",S "many"] [S "self",S "row",S "many"] c_Step_turned.body:=by trivial
theorem Zfs:Yv G (ZW 28 0) [S "self"] [S "self"] c_Sign_word.body:=by trivial
theorem Zft:Yv G (ZW 28 1) [S "self",S "row",S "many"] [S "self",S "row",S "many"] c_Sign_turned.body:=by trivial
theorem Zfu:Yv G (ZW 29 0) [S "self"] [S "self"] c_More_word.body:=by trivial
theorem Zfv:Yv G (ZW 29 1) [S "self",S "row",S "many",S "rows",S "i"] [S "self",S "row",S "many"] c_More_turned.body:=by trivial
theorem Zfw:Yv G (ZW 30 0) [S "self"] [S "self"] c_Turn_word.body:=by trivial
theorem Zfx:Yv G (ZW 30 1) [S "self",S "row",S "many"] [S "self",S "row",S "many"] c_Turn_turned.body:=by trivial
theorem Zfy:Yv G (ZW 31 0) [S "self"] [S "self"] c_Out_word.body:=by trivial
theorem Zfz:Yv G (ZW 31 1) [S "self",S "row",S "many"] [S "self",S "row",S "many"] c_Out_turned.body:=by trivial
theorem ZfA:Yv G (ZW 32 0) [S "self"] [S "self"] c_Swap_word.body:=by trivial
theorem ZfB:Yv G (ZW 32 1) [S "self",S "row",S "many"] [S "self",S "row",S "many"] c_Swap_turned.body:=by trivial
theorem ZfC:Yv G (ZW 33 0) [S "self"] [S "self"] c_Far_word.body:=by trivial
theorem ZfD:Yv G (ZW 33 1) [S "self",S "row",S "many"] [S "self",S "row",S "many"] c_Far_turned.body:=by trivial
@[reducible] noncomputable def tab (l:Li (Nat×Ad)):ClsTab:=⟨λi=>(l.lookup i).getD 0⟩
section
variable [ct:ClsTab]
theorem ZeB{Pm:Params}{K:fG7}{h:Heap}{mg:Str->Ot vL}{fa:Ad}(X:K.In h)(a:h.Ns mainGlobals mg)(hfa:mg "law"=some (.ref fa)){C0:Ad}{C1:Ad}{C2:Ad}{C3:Ad}{C4:Ad}{C5:Ad}{C6:Ad}{A7:Ad}{ob7:Obj}{ep7:Nat}{Y:Tok}{l:Ad}{I:Obj}{bn7_0:Nat}{P:Tok}{O:Tok}{V:Tok}{k:Ad}{H:Obj}{bn7_1:Nat}{M:Tok}{L:Tok}{U:Tok}{j:Ad}{F:Obj}{bn7_2:Nat}{J:Tok}{R:Tok}{i:Ad}{E:Obj}{bn7_3:Nat}{Q:Tok}{g:Ad}{D:Obj}{bn7_4:Nat}{t14:Tok}{t15:Tok}{t16:Tok}{t17:Tok}{A18:Ad}{ob18:Obj}{on18:Nat}{t18_0:Tok}{t18_1:Tok}{t18_2:Tok}{t18_3:Tok}{t18_4:Tok}{A19:Ad}{ob19:Obj}{on19:Nat}{t19_0:Tok}{t19_1:Tok}{t19_2:Tok}{t19_3:Tok}{t19_4:Tok}{t19_5:Tok}{A25:Ad}{m:Obj}{ep25:Nat}{C:Tok}{w:Tok}{B:Tok}{r:Tok}{A:Tok}{q:Tok}{z:Tok}{p:Tok}{y:Tok}{o:Tok}{x:Tok}{n:Tok}{t38:Tok}{t40:Tok}{A48:Ad}{ob48:Obj}{on48:Nat}{t48_0:Tok}{t48_1:Tok}{A49:Ad}{ob49:Obj}{on49:Nat}{t49_0:Tok}{t49_1:Tok}{A50:Ad}{ob50:Obj}{on50:Nat}{t50_0:Tok}{A63:Ad}{Z:Obj}{on63:Nat}{t63_0:Tok}
(yz0:ClsTab.ca 146=C0) (yz1:ClsTab.ca 169=C1) (yz2:ClsTab.ca 149=C2) (yz3:ClsTab.ca 157=C3) (yz4:ClsTab.ca 152=C4) (yz5:ClsTab.ca 160=C5) (yz6:ClsTab.ca 163=C6)
  (y0:ClsAt K "Step" C0) (ym0_0:W.kitOne K (.ref C0) (.ref C0)=some true) (ym0_1:W.kitOne K (.ref C1) (.ref C0)=some true) (ym0_2:W.kitOne K (.ref C2) (.ref C0)=some true) (ym0_3:W.kitOne K (.ref C3) (.ref C0)=some true) (ym0_4:W.kitOne K (.ref C4) (.ref C0)=some true) (ym0_5:W.kitOne K (.ref C5) (.ref C0)=some true) (ym0_6:W.kitOne K (.ref C6) (.ref C0)=some true) (w0_147:MtAt K C0 "word" "Step.word" (ZW 27 0)) (w0_148:MtAt K C0 "turned" "Step.turned" (ZW 27 1))
  (y1:ClsAt K "Sign" C1) (ym1_1:W.kitOne K (.ref C1) (.ref C1)=some true) (w1_170:MtAt K C1 "word" "Sign.word" (ZW 28 0)) (w1_171:MtAt K C1 "turned" "Sign.turned" (ZW 28 1))
  (y2:ClsAt K "More" C2) (ym2_2:W.kitOne K (.ref C2) (.ref C2)=some true) (w2_150:MtAt K C2 "word" "More.word" (ZW 29 0)) (w2_151:MtAt K C2 "turned" "More.turned" (ZW 29 1))
  (y3:ClsAt K "Turn" C3) (ym3_3:W.kitOne K (.ref C3) (.ref C3)=some true) (w3_158:MtAt K C3 "word" "Turn.word" (ZW 30 0)) (w3_159:MtAt K C3 "turned" "Turn.turned" (ZW 30 1))
  (y4:ClsAt K "Out" C4) (ym4_4:W.kitOne K (.ref C4) (.ref C4)=some true) (w4_153:MtAt K C4 "word" "Out.word" (ZW 31 0)) (w4_154:MtAt K C4 "turned" "Out.turned" (ZW 31 1))
  (y5:ClsAt K "Swap" C5) (ym5_5:W.kitOne K (.ref C5) (.ref C5)=some true) (w5_161:MtAt K C5 "word" "Swap.word" (ZW 32 0)) (w5_162:MtAt K C5 "turned" "Swap.turned" (ZW 32 1))
  (y6:ClsAt K "Far" C6) (ym6_6:W.kitOne K (.ref C6) (.ref C6)=some true) (w6_164:MtAt K C6 "word" "Far.word" (ZW 33 0)) (w6_165:MtAt K C6 "turned" "Far.turned" (ZW 33 1))
  (g7:W.nsIn K mainGlobals "OPERAND_PLACES"=some (some (.ref A7))) (d7:K.lookup A7=some ob7) (f7c:ob7.cls=.type "dict") (f7d:ob7.dict=none) (f7s:ob7.slots=#[]) (e7:ob7.data=.dict #[⟨PyData.keyHash Pm "put",.str "put" Y,.ref l⟩,⟨PyData.keyHash Pm "if",.str "if" V,.ref k⟩,⟨PyData.keyHash Pm "tell",.str "tell" U,.ref j⟩,⟨PyData.keyHash Pm "go",.str "go" R,.ref i⟩,⟨PyData.keyHash Pm "skip",.str "skip" Q,.ref g⟩] ep7) (s7:(A7==sysModules)=false)
  (h7_0:K.lookup l=some I) (i7_0:I.cls=.type "tuple") (j7_0:I.data=.seq #[.int (2) P,.int (4) O] bn7_0)
  (h7_1:K.lookup k=some H) (i7_1:H.cls=.type "tuple") (j7_1:H.data=.seq #[.int (1) M,.int (3) L] bn7_1)
  (h7_2:K.lookup j=some F) (i7_2:F.cls=.type "tuple") (j7_2:F.data=.seq #[.int (1) J] bn7_2)
  (h7_3:K.lookup i=some E) (i7_3:E.cls=.type "tuple") (j7_3:E.data=.seq #[] bn7_3)
  (h7_4:K.lookup g=some D) (i7_4:D.cls=.type "tuple") (j7_4:D.data=.seq #[] bn7_4)
  (a8:FnAt K "replaced" (top 6))
  (a9:FnAt K "operand_places" (top 7))
  (a10:FnAt K "bit_of" (top 8))
  (a11:FnAt K "all_bits" (top 9))
  (a12:FnAt K "has_bit" (top 10))
  (a13:FnAt K "without_bit" (top 11))
  (g14:W.nsIn K mainGlobals "LOWEST"=some (some (.int (-1000000000) t14)))
  (g15:W.nsIn K mainGlobals "HIGHEST"=some (some (.int (999999999) t15)))
  (g16:W.nsIn K mainGlobals "HALF"=some (some (.int (1000000000) t16)))
  (g17:W.nsIn K mainGlobals "RING"=some (some (.int (2000000000) t17)))
  (g18:W.nsIn K mainGlobals "PUT_SIGNS"=some (some (.ref A18))) (d18:K.lookup A18=some ob18) (f18c:ob18.cls=.type "tuple") (f18d:ob18.dict=none) (e18:ob18.data=.seq #[.str "+" t18_0,.str "-" t18_1,.str "*" t18_2,.str "/" t18_3,.str "mod" t18_4] on18)
  (g19:W.nsIn K mainGlobals "IF_SIGNS"=some (some (.ref A19))) (d19:K.lookup A19=some ob19) (f19c:ob19.cls=.type "tuple") (f19d:ob19.dict=none) (e19:ob19.data=.seq #[.str "<" t19_0,.str "<=" t19_1,.str "=" t19_2,.str ">=" t19_3,.str ">" t19_4,.str "!=" t19_5] on19)
  (a20:FnAt K "around" (top 19))
  (a21:FnAt K "divided" (top 20))
  (a22:FnAt K "left_over" (top 21))
  (a23:FnAt K "reckon" (top 22))
  (a24:FnAt K "is_so" (top 23))
  (g25:W.nsIn K mainGlobals "CONTRARIES"=some (some (.ref A25))) (d25:K.lookup A25=some m) (f25c:m.cls=.type "dict") (f25d:m.dict=none) (f25s:m.slots=#[]) (e25:m.data=.dict #[⟨PyData.keyHash Pm "<",.str "<" C,.str ">=" w⟩,⟨PyData.keyHash Pm ">=",.str ">=" B,.str "<" r⟩,⟨PyData.keyHash Pm "<=",.str "<=" A,.str ">" q⟩,⟨PyData.keyHash Pm ">",.str ">" z,.str "<=" p⟩,⟨PyData.keyHash Pm "=",.str "=" y,.str "!=" o⟩,⟨PyData.keyHash Pm "!=",.str "!=" x,.str "=" n⟩] ep25) (s25:(A25==sysModules)=false)
  (a26:FnAt K "behind" (top 26))
  (a27:FnAt K "fakes" (top 35))
  (a28:FnAt K "fake_of" (top 36))
  (a29:FnAt K "worth" (top 38))
  (a30:FnAt K "began" (top 39))
  (a31:FnAt K "at_end" (top 40))
  (a32:FnAt K "values_behind" (top 41))
  (a33:FnAt K "place_behind" (top 42))
  (a34:FnAt K "moved" (top 43))
  (a35:FnAt K "is_outcome" (top 44))
  (a36:FnAtE K "trail" (top 45) 100)
  (a37:FnAtE K "outcome" (top 46) 100)
  (g38:W.nsIn K mainGlobals "MOST_TRIALS"=some (some (.int (10) t38)))
  (a39:FnAt K "check_trials" (top 49))
  (g40:W.nsIn K mainGlobals "WIDEST"=some (some (.int (64) t40)))
  (a41:FnAt K "width" (top 52))
  (a42:FnAt K "inputs_of" (top 53))
  (a43:FnAt K "is_wide" (top 54))
  (a44:FnAt K "box" (top 55))
  (a45:FnAt K "menu_numbers" (top 56))
  (a46:FnAt K "menu" (top 57))
  (a47:FnAt K "tried" (top 58))
  (g48:W.nsIn K mainGlobals "NOUGHT"=some (some (.ref A48))) (d48:K.lookup A48=some ob48) (f48c:ob48.cls=.type "tuple") (e48:ob48.data=.seq #[.str ("number") t48_0,.int (0) t48_1] on48)
  (g49:W.nsIn K mainGlobals "ONE"=some (some (.ref A49))) (d49:K.lookup A49=some ob49) (f49c:ob49.cls=.type "tuple") (e49:ob49.data=.seq #[.str ("number") t49_0,.int (1) t49_1] on49)
  (g50:W.nsIn K mainGlobals "SKIP"=some (some (.ref A50))) (d50:K.lookup A50=some ob50) (f50c:ob50.cls=.type "tuple") (e50:ob50.data=.seq #[.str ("skip") t50_0] on50)
  (a51:FnAt K "are_numbers" (top 63))
  (a52:FnAt K "lesser_first" (top 64))
  (a53:FnAt K "less_as_more" (top 65))
  (a54:FnAt K "without_reckoning" (top 66))
  (a55:FnAt K "made_put" (top 67))
  (a56:FnAt K "greater_as_less" (top 68))
  (a57:FnAt K "is_settled" (top 69))
  (a58:FnAt K "settled" (top 70))
  (a59:FnAt K "most_as_less" (top 71))
  (a60:FnAt K "made_if" (top 72))
  (a61:FnAt K "made_row" (top 73))
  (a62:FnAt K "made" (top 74))
  (g63:W.nsIn K mainGlobals "END"=some (some (.ref A63))) (d63:K.lookup A63=some Z) (f63c:Z.cls=.type "tuple") (e63:Z.data=.seq #[.str ("end") t63_0] on63)
  (a64:FnAt K "row_at" (top 77))
  (a65:FnAt K "ends_run" (top 78))
  (a66:FnAt K "reads_only" (top 79))
  (a67:FnAt K "end_alike" (top 80))
  (a68:FnAt K "choose_alike" (top 81))
  (a69:FnAt K "staying" (top 82))
  (a70:FnAt K "places_behind" (top 83))
  (a71:FnAt K "follow" (top 84))
  (a72:FnAt K "found_paper" (top 86))
  (a73:FnAtE K "parting" (top 88) 100)
  (a74:FnAtE K "tells" (top 89) 100)
  (a75:FnAtE K "sought" (top 91) 100)
  (a76:FnAt K "first_telling" (top 93))
  (a77:FnAt K "verdict" (top 94))
  (a78:FnAtE K "verdicts" (top 95) 100)
  (a79:FnAt K "_law_whole" (top 97))
  (a80:FnAt K "_law_cell_at" (top 98))
  (a81:FnAt K "_law_small_by" (top 99))
  (a82:FnAt K "_law_operand" (top 100))
  (a83:FnAt K "_law_row" (top 101))
  (a84:FnAt K "_law_stretch" (top 102))
  (a85:FnAt K "_law_program" (top 103))
  (a86:FnAt K "_law_trials" (top 104))
  (a87:FnAt K "_law_limit" (top 105))
  (a88:FnAt K "_law_around" (top 106))
  (a89:FnAt K "_law_reckon" (top 107))
  (a90:FnAt K "_law_so" (top 108))
  (a91:FnAt K "_law_worth" (top 109))
  (a92:FnAt K "_law_next" (top 110))
  (a93:FnAt K "_law_trail" (top 111))
  (a94:FnAt K "_law_parted" (top 112))
  (a95:FnAt K "_law_due" (top 113))
  (a96:FnAt K "_law_counter" (top 114))
  (a97:FnAt K "law" (top 115))
  (z98:W.nsIn K mainGlobals "len"=some none)
  (z99:W.nsIn K mainGlobals "range"=some none)
  (z100:W.nsIn K mainGlobals "tuple"=some none)
  (z101:W.nsIn K mainGlobals "list"=some none)
  (z102:W.nsIn K mainGlobals "int"=some none)
  (z103:W.nsIn K mainGlobals "bool"=some none)
  (z104:W.nsIn K mainGlobals "str"=some none)
  (z105:W.nsIn K mainGlobals "min"=some none)
  (z106:W.nsIn K mainGlobals "max"=some none)
  (z107:W.nsIn K mainGlobals "isinstance"=some none)
  (z108:W.nsIn K mainGlobals "all"=some none)
  (z109:W.nsIn K mainGlobals "any"=some none)
  (z110:W.nsIn K mainGlobals "zip"=some none)
  (z111:W.nsIn K mainGlobals "sorted"=some none)
  (z112:W.nsIn K mainGlobals "enumerate"=some none)
  (z113:W.nsIn K mainGlobals "set"=some none) :
  Text Pm K mg G T/\∃ (fd:FuncData) (N:Li Str),(∀ (s:sH7) (u:vL),BindsTo s fd ⟨[u],[]⟩ [(S "_law_script",u)])/\DefOk K mg G T "law" 16 [] fa fd [S "_law_script"] N:=by
 exact⟨ZdG (gC X a yz0 y0 (gS yz0 y0 ym0_0 (gS yz1 y1 ym0_1 (gS yz2 y2 ym0_2 (gS yz3 y3 ym0_3 (gS yz4 y4 ym0_4 (gS yz5 y5 ym0_5 (gS yz6 y6 ym0_6 trivial))))))) (gM w0_147 Zfq rfl (gM w0_148 Zfr rfl trivial)) (gC X a yz1 y1 (gS yz1 y1 ym1_1 trivial) (gM w1_170 Zfs rfl (gM w1_171 Zft rfl trivial)) (gC X a yz2 y2 (gS yz2 y2 ym2_2 trivial) (gM w2_150 Zfu rfl (gM w2_151 Zfv rfl trivial)) (gC X a yz3 y3 (gS yz3 y3 ym3_3 trivial) (gM w3_158 Zfw rfl (gM w3_159 Zfx rfl trivial)) (gC X a yz4 y4 (gS yz4 y4 ym4_4 trivial) (gM w4_153 Zfy rfl (gM w4_154 Zfz rfl trivial)) (gC X a yz5 y5 (gS yz5 y5 ym5_5 trivial) (gM w5_161 ZfA rfl (gM w5_162 ZfB rfl trivial)) (gC X a yz6 y6 (gS yz6 y6 ym6_6 trivial) (gM w6_164 ZfC rfl (gM w6_165 ZfD rfl trivial)) (⟨⟨A7,ob7,#[⟨PyData.keyHash Pm "put",.str "put" Y,.ref l⟩,⟨PyData.keyHash Pm "if",.str "if" V,.ref k⟩,⟨PyData.keyHash Pm "tell",.str "tell" U,.ref j⟩,⟨PyData.keyHash Pm "go",.str "go" R,.ref i⟩,⟨PyData.keyHash Pm "skip",.str "skip" Q,.ref g⟩],ep7,W.mg_of X a g7,d7,⟨f7c,f7d,f7s⟩,e7,s7,(by decide),(show EsOk Pm K [⟨PyData.keyHash Pm "put",.str "put" Y,.ref l⟩,⟨PyData.keyHash Pm "if",.str "if" V,.ref k⟩,⟨PyData.keyHash Pm "tell",.str "tell" U,.ref j⟩,⟨PyData.keyHash Pm "go",.str "go" R,.ref i⟩,⟨PyData.keyHash Pm "skip",.str "skip" Q,.ref g⟩] _ _ from .cons (v:=.ref l) (t:=Y) rfl rfl (show RelV (.ref l) (.ref l) from rfl) (λ_ _=>.tup (xs:=[.int (2),.int (4)]) (.inr ⟨I,#[.int (2) P,.int (4) O],bn7_0,h7_0,i7_0,j7_0,(show(2:Nat)<=sizeLine by decide),.cons ⟨_,rfl⟩ (.cons ⟨_,rfl⟩ (.nil))⟩) (.cons (.int _) (.cons (.int _) (.nil)))) (.cons (v:=.ref k) (t:=V) rfl rfl (show RelV (.ref k) (.ref k) from rfl) (λ_ _=>.tup (xs:=[.int (1),.int (3)]) (.inr ⟨H,#[.int (1) M,.int (3) L],bn7_1,h7_1,i7_1,j7_1,(show(2:Nat)<=sizeLine by decide),.cons ⟨_,rfl⟩ (.cons ⟨_,rfl⟩ (.nil))⟩) (.cons (.int _) (.cons (.int _) (.nil)))) (.cons (v:=.ref j) (t:=U) rfl rfl (show RelV (.ref j) (.ref j) from rfl) (λ_ _=>.tup (xs:=[.int (1)]) (.inr ⟨F,#[.int (1) J],bn7_2,h7_2,i7_2,j7_2,(show(1:Nat)<=sizeLine by decide),.cons ⟨_,rfl⟩ (.nil)⟩) (.cons (.int _) (.nil))) (.cons (v:=.ref i) (t:=R) rfl rfl (show RelV (.ref i) (.ref i) from rfl) (λ_ _=>.tup (xs:=[]) (.inr ⟨E,#[],bn7_3,h7_3,i7_3,j7_3,(show(0:Nat)<=sizeLine by decide),.nil⟩) (.nil)) (.cons (v:=.ref g) (t:=Q) rfl rfl (show RelV (.ref g) (.ref g) from rfl) (λ_ _=>.tup (xs:=[]) (.inr ⟨D,#[],bn7_4,h7_4,i7_4,j7_4,(show(0:Nat)<=sizeLine by decide),.nil⟩) (.nil)) (.nil))))))⟩,gD X a a8 q_6 rfl (gD X a a9 q_7 rfl (gD X a a10 q_8 rfl (gD X a a11 q_9 rfl (gD X a a12 ZhT rfl (gD X a a13 ZhU rfl (gI X a g14 (gI X a g15 (gI X a g16 (gI X a g17 (⟨⟨.ref A18,.ref A18,W.mg_of X a g18,rfl,λ_ _=>.kt (its:=#[.str "+" t18_0,.str "-" t18_1,.str "*" t18_2,.str "/" t18_3,.str "mod" t18_4]) d18 f18c f18d e18 (show(5:Nat)<=sizeLine by decide) (.cons ⟨_,rfl⟩ (.cons ⟨_,rfl⟩ (.cons ⟨_,rfl⟩ (.cons ⟨_,rfl⟩ (.cons ⟨_,rfl⟩ (.nil))))))⟩,⟨⟨.ref A19,.ref A19,W.mg_of X a g19,rfl,λ_ _=>.kt (its:=#[.str "<" t19_0,.str "<=" t19_1,.str "=" t19_2,.str ">=" t19_3,.str ">" t19_4,.str "!=" t19_5]) d19 f19c f19d e19 (show(6:Nat)<=sizeLine by decide) (.cons ⟨_,rfl⟩ (.cons ⟨_,rfl⟩ (.cons ⟨_,rfl⟩ (.cons ⟨_,rfl⟩ (.cons ⟨_,rfl⟩ (.cons ⟨_,rfl⟩ (.nil)))))))⟩,gD X a a20 ZhV rfl (gD X a a21 ZhW rfl (gD X a a22 ZhX rfl (gD X a a23 ZhY rfl (gD X a a24 ZhZ rfl (⟨⟨A25,m,#[⟨PyData.keyHash Pm "<",.str "<" C,.str ">=" w⟩,⟨PyData.keyHash Pm ">=",.str ">=" B,.str "<" r⟩,⟨PyData.keyHash Pm "<=",.str "<=" A,.str ">" q⟩,⟨PyData.keyHash Pm ">",.str ">" z,.str "<=" p⟩,⟨PyData.keyHash Pm "=",.str "=" y,.str "!=" o⟩,⟨PyData.keyHash Pm "!=",.str "!=" x,.str "=" n⟩],ep25,W.mg_of X a g25,d25,⟨f25c,f25d,f25s⟩,e25,s25,(by decide),(show EsOk Pm K [⟨PyData.keyHash Pm "<",.str "<" C,.str ">=" w⟩,⟨PyData.keyHash Pm ">=",.str ">=" B,.str "<" r⟩,⟨PyData.keyHash Pm "<=",.str "<=" A,.str ">" q⟩,⟨PyData.keyHash Pm ">",.str ">" z,.str "<=" p⟩,⟨PyData.keyHash Pm "=",.str "=" y,.str "!=" o⟩,⟨PyData.keyHash Pm "!=",.str "!=" x,.str "=" n⟩] _ _ from .cons (v:=.str ">=") (t:=C) rfl rfl (show RelV (.str ">=") (.str ">=" w) from⟨_,rfl⟩) (λ_ _=>.str _) (.cons (v:=.str "<") (t:=B) rfl rfl (show RelV (.str "<") (.str "<" r) from⟨_,rfl⟩) (λ_ _=>.str _) (.cons (v:=.str ">") (t:=A) rfl rfl (show RelV (.str ">") (.str ">" q) from⟨_,rfl⟩) (λ_ _=>.str _) (.cons (v:=.str "<=") (t:=z) rfl rfl (show RelV (.str "<=") (.str "<=" p) from⟨_,rfl⟩) (λ_ _=>.str _) (.cons (v:=.str "!=") (t:=y) rfl rfl (show RelV (.str "!=") (.str "!=" o) from⟨_,rfl⟩) (λ_ _=>.str _) (.cons (v:=.str "=") (t:=x) rfl rfl (show RelV (.str "=") (.str "=" n) from⟨_,rfl⟩) (λ_ _=>.str _) (.nil)))))))⟩,gD X a a26 Zh0 rfl (gD X a a27 Zh1 rfl (gD X a a28 Zh2 rfl (gD X a a29 Zh3 rfl (gD X a a30 Zh4 rfl (gD X a a31 Zh5 rfl (gD X a a32 Zh6 rfl (gD X a a33 Zh7 rfl (gD X a a34 Zh8 rfl (gD X a a35 Zh9 rfl (gE X a a36 Zia rfl (λ_ _ _ _ _ _ _ _ _ _ d e=>⟨λs b f c=>by obtain⟨_,_,_,rfl⟩:=UJ (show b.length=3 by simpa using c);exact W.binds_K f rfl d e rfl rfl,λs b f c=>by obtain⟨_,_,rfl⟩:=Za3 (show b.length=2 by simpa using c);exact W.binds_K f rfl d e rfl rfl⟩) (gE X a a37 Zib rfl (λ_ _ _ _ _ _ _ _ _ _ d e=>⟨λs b f c=>by obtain⟨_,_,_,rfl⟩:=UJ (show b.length=3 by simpa using c);exact W.binds_K f rfl d e rfl rfl,λs b f c=>by obtain⟨_,_,rfl⟩:=Za3 (show b.length=2 by simpa using c);exact W.binds_K f rfl d e rfl rfl⟩) (gI X a g38 (gD X a a39 Zic rfl (gI X a g40 (gD X a a41 Zid rfl (gD X a a42 Zie rfl (gD X a a43 Zif rfl (gD X a a44 Zig rfl (gD X a a45 Zih rfl (gD X a a46 Zii rfl (gD X a a47 Zij rfl (⟨⟨.ref A48,.ref A48,W.mg_of X a g48,rfl,λ_ _=>.tup (xs:=[.str ("number"),.int (0)]) (.inr ⟨ob48,#[.str ("number") t48_0,.int (0) t48_1],on48,d48,f48c,e48,(show(2:Nat)<=sizeLine by decide),.cons ⟨_,rfl⟩ (.cons ⟨_,rfl⟩ (.nil))⟩) (.cons (.str _) (.cons (.int _) (.nil)))⟩,⟨⟨.ref A49,.ref A49,W.mg_of X a g49,rfl,λ_ _=>.tup (xs:=[.str ("number"),.int (1)]) (.inr ⟨ob49,#[.str ("number") t49_0,.int (1) t49_1],on49,d49,f49c,e49,(show(2:Nat)<=sizeLine by decide),.cons ⟨_,rfl⟩ (.cons ⟨_,rfl⟩ (.nil))⟩) (.cons (.str _) (.cons (.int _) (.nil)))⟩,⟨⟨.ref A50,.ref A50,W.mg_of X a g50,rfl,λ_ _=>.tup (xs:=[.str ("skip")]) (.inr ⟨ob50,#[.str ("skip") t50_0],on50,d50,f50c,e50,(show(1:Nat)<=sizeLine by decide),.cons ⟨_,rfl⟩ (.nil)⟩) (.cons (.str _) (.nil))⟩,gD X a a51 Zik rfl (gD X a a52 Zil rfl (gD X a a53 Zim rfl (gD X a a54 Zin rfl (gD X a a55 Zio rfl (gD X a a56 Zip rfl (gD X a a57 Ziq rfl (gD X a a58 Zir rfl (gD X a a59 Zis rfl (gD X a a60 Zit rfl (gD X a a61 Ziu rfl (gD X a a62 Ziv rfl (⟨⟨.ref A63,.ref A63,W.mg_of X a g63,rfl,λ_ _=>.tup (xs:=[.str ("end")]) (.inr ⟨Z,#[.str ("end") t63_0],on63,d63,f63c,e63,(show(1:Nat)<=sizeLine by decide),.cons ⟨_,rfl⟩ (.nil)⟩) (.cons (.str _) (.nil))⟩,gD X a a64 Ziw rfl (gD X a a65 Zix rfl (gD X a a66 Ziy rfl (gD X a a67 Ziz rfl (gD X a a68 ZiA rfl (gD X a a69 ZiB rfl (gD X a a70 ZiC rfl (gD X a a71 ZiD rfl (gD X a a72 ZiE rfl (gE X a a73 ZiF rfl (λ_ _ _ _ _ _ _ _ _ _ d e=>⟨λs b f c=>by obtain⟨_,_,_,_,rfl⟩:=Ze9 (show b.length=4 by simpa using c);exact W.binds_K f rfl d e rfl rfl,λs b f c=>by obtain⟨_,_,_,rfl⟩:=UJ (show b.length=3 by simpa using c);exact W.binds_K f rfl d e rfl rfl⟩) (gE X a a74 ZiG rfl (λ_ _ _ _ _ _ _ _ _ _ d e=>⟨λs b f c=>by obtain⟨_,_,_,_,rfl⟩:=Ze9 (show b.length=4 by simpa using c);exact W.binds_K f rfl d e rfl rfl,λs b f c=>by obtain⟨_,_,_,rfl⟩:=UJ (show b.length=3 by simpa using c);exact W.binds_K f rfl d e rfl rfl⟩) (gE X a a75 ZiH rfl (λ_ _ _ _ _ _ _ _ _ _ d e=>⟨λs b f c=>by obtain⟨_,_,_,rfl⟩:=UJ (show b.length=3 by simpa using c);exact W.binds_K f rfl d e rfl rfl,λs b f c=>by obtain⟨_,_,rfl⟩:=Za3 (show b.length=2 by simpa using c);exact W.binds_K f rfl d e rfl rfl⟩) (gD X a a76 ZiI rfl (gD X a a77 ZiJ rfl (gE X a a78 ZiK rfl (λ_ _ _ _ _ _ _ _ _ _ d e=>⟨λs b f c=>by obtain⟨_,_,_,rfl⟩:=UJ (show b.length=3 by simpa using c);exact W.binds_K f rfl d e rfl rfl,λs b f c=>by obtain⟨_,_,rfl⟩:=Za3 (show b.length=2 by simpa using c);exact W.binds_K f rfl d e rfl rfl⟩) (gD X a a79 ZiL rfl (gD X a a80 ZiM rfl (gD X a a81 ZiN rfl (gD X a a82 ZgW rfl (gD X a a83 ZgX rfl (gD X a a84 ZgY rfl (gD X a a85 ZgZ rfl (gD X a a86 Zg0 rfl (gD X a a87 Zg1 rfl (gD X a a88 Zg2 rfl (gD X a a89 Zg3 rfl (gD X a a90 Zg4 rfl (gD X a a91 Zg5 rfl (gD X a a92 Zg6 rfl (gD X a a93 Zg7 rfl (gD X a a94 Zg8 rfl (gD X a a95 Zg9 rfl (gD X a a96 Zha rfl (gD X a a97 Zef rfl (gB X a z98 (gB X a z99 (gB X a z100 (gB X a z101 (gB X a z102 (gB X a z103 (gB X a z104 (gB X a z105 (gB X a z106 (gB X a z107 (gB X a z108 (gB X a z109 (gB X a z110 (gB X a z111 (gB X a z112 (gB X a z113 (trivial))))))))))))))))))))))))))))))))))))))))))))))))))⟩))))))))))))⟩⟩⟩))))))))))))))))))))))⟩)))))⟩⟩))))))))))⟩)))))))),gL X a hfa a97 Zef rfl λ_ _ _ _ _ _ _=>rfl⟩
theorem Zc6:∀ n,YI G (run T n):=λ_=>Zcy
end
end Dp
open PySem PySem.W PyProof.Rows
set_option maxRecDepth 100000 in
set_option maxHeartbeats 0 in
theorem PySem.Challenge.cw_fakehunt_k62_told_by_trials_holds : PySem.Challenge.rw_fakehunt_k62_told_by_trials.Holds := by
 w_on;o_law;k_head;(case hw=>w_witness2)
 k_fill
 refine Dp.JC (l:=PySem.Challenge.rw_fakehunt_k62_told_by_trials) (G:=Dp.G) (T:=Dp.T) (n:=12) (i:=16) (x := "_law_script") rfl rfl ⟨rfl,by decide,by decide⟩ (λw h Y=>PySem.W.kIn_of Y) Dp.Zc6 ?F (λns hn=>Dp.JB 0 ns)
 case F=>
  intro w mg fa h KX G0 hmg;refine' ⟨Dp.tab [(146,?C0),(169,?C1),(149,?C2),(157,?C3),(152,?C4),(160,?C5),(163,?C6)],Dp.ZeB (ct:=Dp.tab [(146,?C0),(169,?C1),(149,?C2),(157,?C3),(152,?C4),(160,?C5),(163,?C6)]) (Pm:=w.params) (C0:=?C0) (C1:=?C1) (C2:=?C2) (C3:=?C3) (C4:=?C4) (C5:=?C5) (C6:=?C6) KX G0 hmg ?z0 ?z1 ?z2 ?z3 ?z4 ?z5 ?z6 ⟨?_,?_,?_,?_,?_,?_,?_,?_,?_,?_,?_,?_⟩ ?_ ?_ ?_ ?_ ?_ ?_ ?_ (.mk ?_ ?_ ?_ ?_ ?_) (.mk ?_ ?_ ?_ ?_ ?_) ⟨?_,?_,?_,?_,?_,?_,?_,?_,?_,?_,?_,?_⟩ ?_ (.mk ?_ ?_ ?_ ?_ ?_) (.mk ?_ ?_ ?_ ?_ ?_) ⟨?_,?_,?_,?_,?_,?_,?_,?_,?_,?_,?_,?_⟩ ?_ (.mk ?_ ?_ ?_ ?_ ?_) (.mk ?_ ?_ ?_ ?_ ?_) ⟨?_,?_,?_,?_,?_,?_,?_,?_,?_,?_,?_,?_⟩ ?_ (.mk ?_ ?_ ?_ ?_ ?_) (.mk ?_ ?_ ?_ ?_ ?_) ⟨?_,?_,?_,?_,?_,?_,?_,?_,?_,?_,?_,?_⟩ ?_ (.mk ?_ ?_ ?_ ?_ ?_) (.mk ?_ ?_ ?_ ?_ ?_) ⟨?_,?_,?_,?_,?_,?_,?_,?_,?_,?_,?_,?_⟩ ?_ (.mk ?_ ?_ ?_ ?_ ?_) (.mk ?_ ?_ ?_ ?_ ?_) ⟨?_,?_,?_,?_,?_,?_,?_,?_,?_,?_,?_,?_⟩ ?_ (.mk ?_ ?_ ?_ ?_ ?_) (.mk ?_ ?_ ?_ ?_ ?_) ?_ ?_ ?_ ?_ ?_ ?_ ?_ ?_ ?_ ?_ ?_ ?_ ?_ ?_ ?_ ?_ ?_ ?_ ?_ ?_ ?_ ?_ (.mk ?_ ?_ ?_ ?_) (.mk ?_ ?_ ?_ ?_) (.mk ?_ ?_ ?_ ?_) (.mk ?_ ?_ ?_ ?_) (.mk ?_ ?_ ?_ ?_) (.mk ?_ ?_ ?_ ?_) ?_ ?_ ?_ ?_ ?_ ?_ ?_ ?_ ?_ ?_ ?_ ?_ ?_ ?_ (.mk ?_ ?_ ?_ ?_) (.mk ?_ ?_ ?_ ?_) (.mk ?_ ?_ ?_ ?_) (.mk ?_ ?_ ?_ ?_) (.mk ?_ ?_ ?_ ?_) ?_ ?_ ?_ ?_ ?_ ?_ ?_ (.mk ?_ ?_ ?_ ?_) (.mk ?_ ?_ ?_ ?_) (.mk ?_ ?_ ?_ ?_) (.mk ?_ ?_ ?_ ?_) (.mk ?_ ?_ ?_ ?_) (.mk ?_ ?_ ?_ ?_) (.mk ?_ ?_ ?_ ?_) (.mk ?_ ?_ ?_ ?_) (.mk ?_ ?_ ?_ ?_) (.mk ?_ ?_ ?_ ?_) (.mk ?_ ?_ ?_ ?_ ?_ ?_) (.mk ?_ ?_ ?_ ?_ ?_ ?_) ?_ (.mk ?_ ?_ ?_ ?_) ?_ (.mk ?_ ?_ ?_ ?_) (.mk ?_ ?_ ?_ ?_) (.mk ?_ ?_ ?_ ?_) (.mk ?_ ?_ ?_ ?_) (.mk ?_ ?_ ?_ ?_) (.mk ?_ ?_ ?_ ?_) (.mk ?_ ?_ ?_ ?_) ?_ ?_ ?_ ?_ ?_ ?_ ?_ ?_ ?_ ?_ ?_ ?_ (.mk ?_ ?_ ?_ ?_) (.mk ?_ ?_ ?_ ?_) (.mk ?_ ?_ ?_ ?_) (.mk ?_ ?_ ?_ ?_) (.mk ?_ ?_ ?_ ?_) (.mk ?_ ?_ ?_ ?_) (.mk ?_ ?_ ?_ ?_) (.mk ?_ ?_ ?_ ?_) (.mk ?_ ?_ ?_ ?_) (.mk ?_ ?_ ?_ ?_) (.mk ?_ ?_ ?_ ?_) (.mk ?_ ?_ ?_ ?_) ?_ ?_ ?_ ?_ (.mk ?_ ?_ ?_ ?_) (.mk ?_ ?_ ?_ ?_) (.mk ?_ ?_ ?_ ?_) (.mk ?_ ?_ ?_ ?_) (.mk ?_ ?_ ?_ ?_) (.mk ?_ ?_ ?_ ?_) (.mk ?_ ?_ ?_ ?_) (.mk ?_ ?_ ?_ ?_) (.mk ?_ ?_ ?_ ?_) (.mk ?_ ?_ ?_ ?_ ?_ ?_) (.mk ?_ ?_ ?_ ?_ ?_ ?_) (.mk ?_ ?_ ?_ ?_ ?_ ?_) (.mk ?_ ?_ ?_ ?_) (.mk ?_ ?_ ?_ ?_) (.mk ?_ ?_ ?_ ?_ ?_ ?_) (.mk ?_ ?_ ?_ ?_) (.mk ?_ ?_ ?_ ?_) (.mk ?_ ?_ ?_ ?_) (.mk ?_ ?_ ?_ ?_) (.mk ?_ ?_ ?_ ?_) (.mk ?_ ?_ ?_ ?_) (.mk ?_ ?_ ?_ ?_) (.mk ?_ ?_ ?_ ?_) (.mk ?_ ?_ ?_ ?_) (.mk ?_ ?_ ?_ ?_) (.mk ?_ ?_ ?_ ?_) (.mk ?_ ?_ ?_ ?_) (.mk ?_ ?_ ?_ ?_) (.mk ?_ ?_ ?_ ?_) (.mk ?_ ?_ ?_ ?_) (.mk ?_ ?_ ?_ ?_) (.mk ?_ ?_ ?_ ?_) (.mk ?_ ?_ ?_ ?_) (.mk ?_ ?_ ?_ ?_) ?_ ?_ ?_ ?_ ?_ ?_ ?_ ?_ ?_ ?_ ?_ ?_ ?_ ?_ ?_ ?_⟩
  all_goals (first|k_is|exact rfl|skip)
  all_goals (first|k_is|exact rfl|skip)

import PyProof.Rows.All
import Wide.All
import OpenK.AllK
import Wide.FinOn
import Lean
import PyProof.EqAt
import PyProof.EqKinds
import PyProof.TupleCall
import PyProof.TupleKey
import PyProof.DictWalks
import PyProof.DictItems
import KE.KPairComp
import PySem.Challenge.RW_fakehunt_k72_trials_added
set_option Elab.async false
set_option linter.all false
set_option maxRecDepth 100000
set_option maxHeartbeats 4000000
set_option genSizeOf false
def aD:=@Nat.le_refl
def aE:=@List.length_map
def aF:=@decide_eq_false
def aG:=@decide_eq_true
def aH:=@List.mem_cons
def aJ:=@List.mem_singleton
def aK:=@List.length_append
def aL:=@List.size_toArray
def aM:=@List.map_cons
def aP:=@Nat.le_trans
def aQ:=@List.length_cons
def aR:=@List.mem_map
def aS:=@Nat.lt_of_lt_of_le
def aT:=@List.getElem?_map
def aU:=@List.mem_append
def aV:=@Nat.zero_le
def aW:=@Nat.ne_of_lt
def aZ:=@List.mem_of_getElem?
def bA:=@List.all_cons
def bB:=@List.getElem?_eq_some_iff
def bC:=@List.append_nil
def bD:=@Int.toNat_natCast
def bE:=@List.not_mem_nil
def bF:=@List.length_set
def bG:=@Nat.zero_add
def bH:=@List.nodup_nil
def bJ:=@List.lookup_cons
def bK:=@List.getElem?_set_ne
def bL:=@Nat.lt_irrefl
def bM:=@List.nodup_cons
def bN:=@List.map_append
def bO:=@Bool.eq_iff_iff
def bP:=@List.append_assoc
def bQ:=@List.map_map
def bR:=@Int.toNat_of_nonneg
def bS:=@Nat.lt_succ_self
def bT:=@List.length_take
def bU:=@List.getElem?_append_left
def bV:=@Nat.le_succ
def bW:=@beq_eq_false_iff_ne
def bX:=@List.getElem?_append_right
def bY:=@List.replicate_succ
def bZ:=@List.drop_eq_getElem_cons
def cC:=@Bool.or_eq_true
def cD:=@Int.natCast_add
def cF:=@List.flatMap_cons
def cG:=@List.getElem?_set_self
def cH:=@List.mem_append_right
def cJ:=@List.length_replicate
def cK:=@List.find?_cons
def cL:=@Option.bind_eq_some_iff
def cM:=@List.length_range
def cN:=@Nat.le_of_eq
def cP:=@List.any_cons
def cQ:=@List.all_eq_true
def cT:=@Nat.add_assoc
def cU:=@List.length_nil
def cV:=@List.drop_zero
def cW:=@List.mem_range
def cX:=@Array.length_toList
def cY:=@Nat.not_lt
def cZ:=@List.flatten_cons
def dA:=@Bool.and_false
def dB:=@Bool.false_eq_true
def dC:=@List.nodup_append
def dD:=@Bool.and_true
def dF:=@Bool.or_true
def dG:=@List.getElem_mem
def dH:=@List.map_flatMap
def dI:=@Nat.le_of_lt
def dJ:=@List.length_drop
def dL:=@List.nil_append
def dM:=@Option.map_eq_some_iff
def dO:=@Bool.not_eq_true'
def dP:=@List.range'_succ
def dQ:=@List.getElem?_eq_none_iff
def dR:=@Nat.le_add_right
def dS:=@Bool.true_and
def dU:=@List.mem_filter
def dW:=@List.filterMap_cons
def dX:=@List.getElem?_replicate
def dY:=@List.foldl_cons
def dZ:=@Nat.le_of_not_lt
def eC:=@Bool.and_eq_true_iff
def eD:=@List.length_eq_zero_iff
def eE:=@List.contains_cons
def eF:=@Array.getElem?_setIfInBounds
def eG:=@List.range_eq_range'
def eI:=@List.getD_eq_getElem?_getD
def eJ:=@List.cons_ne_nil
def eK:=@List.mem_flatMap
def eL:=@List.length_singleton
def eM:=@Array.getElem?_eq_getElem
def eN:=@List.drop_eq_nil_of_le
def eO:=@List.find?_cons_of_neg
def eP:=@List.getElem?_toArray
def eQ:=@List.take_of_length_le
def eS:=@List.fst_mem_of_mem_zipIdx
section
open PySem PySem.Spec PyProof.Rows
def aA:=@wpAny_bind
def aB:=@wpAny_pure
def aI:=@Heap.lt_size
def aO:=@Heap.get?_push_of_some
def aX:=@wpAny_mono
def aY:=@Heap.get?_push_size
end
abbrev Li.{u}(α:Type u):Type u:=List α
abbrev Ot.{u}(α:Type u):Type u:=Option α
abbrev vL:=PySem.Value
abbrev Ad:=PySem.Addr
abbrev sH7:=PySem.Shared
theorem oB7{α β:Type}{a:α}{f:α->Ot β}:(some a).bind f=f a:=rfl
abbrev fG7:=PySem.W.Frag
theorem bA7(a b:Bool):((a&&b)=true)=(a=true/\b=true):=Bool.and_eq_true a b
theorem lG7{α:Type _}{l:Li α}{i:Nat}(h:i<l.length):l[i]?=some l[i]:=List.getElem?_eq_getElem h
theorem lM7{α:Type _}(y:α){a:α}{l:Li α}(h:a∈l):a∈y::l:=List.mem_cons_of_mem y h
theorem lQ7{α:Type _}{a:α}{l:Li α}:a∈a::l:=List.mem_cons_self
theorem bF7:¬false=true:=Bool.false_ne_true
namespace L2
open PySem PySem.Spec PyProof.Rows
abbrev Key:=Sum Int Str
noncomputable def keyIs:Key->vL->Bool
  |.inl k,v=>Value.isInt k v
  |.inr x,v=>Value.isStrOf x v
noncomputable def keyH(w:World):Key->Int
  |.inl k=>hashInt k
  |.inr x=>hashStr w x
theorem keyIs_shape:∀ {k:Key}{v:vL},keyIs k v=true->(∃ i t,k=Sum.inl i/\v=Value.int i t)\/(∃ x t,k=Sum.inr x/\v=Value.str x t)
  |.inl i,v,h=>by
    obtain⟨t,e⟩:=Value.isInt_shape (k:=i) (v:=v) h;exact .inl ⟨i,t,rfl,e⟩
  |.inr x,v,h=>by
    obtain⟨t,e⟩:=Value.isStrOf_shape (x:=x) (v:=v) h;exact .inr ⟨x,t,rfl,e⟩
theorem keyIs_int(i:Int)(t:Tok):keyIs (.inl i) (.int i t)=true:=by simp[keyIs,Value.isInt]
theorem keyIs_str(x:Str)(t:Tok):keyIs (.inr x) (.str x t)=true:=by simp[keyIs,Value.isStrOf]
theorem key_ll(a b:Int):decide ((Sum.inl a:Key)=Sum.inl b)=(a==b):=by
  by_cases e:a=b
  . subst e;simp
  . have h:¬(Sum.inl a:Key)=Sum.inl b:=λq=>e (Sum.inl.inj q)
    rw[aF h];exact(bW.mpr e).symm
theorem key_rr(a b:Str):decide ((Sum.inr a:Key)=Sum.inr b)=decide (a=b):=by
  by_cases e:a=b
  . subst e;simp
  . have h:¬(Sum.inr a:Key)=Sum.inr b:=λq=>e (Sum.inr.inj q)
    rw[aF h,aF e]
theorem key_lr(a:Int)(b:Str):decide ((Sum.inl a:Key)=Sum.inr b)=false:=aF (λq=>nomatch q)
theorem key_rl(a:Str)(b:Int):decide ((Sum.inr a:Key)=Sum.inl b)=false:=aF (λq=>nomatch q)
noncomputable def mixKind(prog:Program)(w:World):PySem.KeyKind prog w Key where
  is:=keyIs
  hash:=keyH w
  inj:=λv a b l f=>by
    rcases keyIs_shape l with⟨i,t,rfl,rfl⟩|⟨x,t,rfl,rfl⟩
    . rcases keyIs_shape f with⟨j,u,rfl,e⟩|⟨y,u,rfl,e⟩
      . injection e with c _;rw[c]
      . exact nomatch e
    . rcases keyIs_shape f with⟨j,u,rfl,e⟩|⟨y,u,rfl,e⟩
      . exact nomatch e
      . injection e with c _;rw[c]
  byValue:=λk v h=>by
    rcases keyIs_shape h with⟨i,t,rfl,rfl⟩|⟨x,t,rfl,rfl⟩<;>rfl
  pyHash:=λd h=>by
    rcases keyIs_shape d with⟨i,t,rfl,rfl⟩|⟨x,t,rfl,rfl⟩
    . exact wpAny_pyHash_int h
    . exact wpAny_pyHash_str h
  eqBool:=λg d h=>by
    rcases keyIs_shape g with⟨i,t,rfl,rfl⟩|⟨x,t,rfl,rfl⟩
    . rcases keyIs_shape d with⟨j,u,rfl,rfl⟩|⟨y,u,rfl,rfl⟩
      . rw[key_ll]at h;exact wpAny_eqBool_int h
      . rw[key_lr]at h;exact SeqAt.EqAt.int_str i t y u _ _ _ _ h
    . rcases keyIs_shape d with⟨j,u,rfl,rfl⟩|⟨y,u,rfl,rfl⟩
      . rw[key_rl]at h;exact SeqAt.EqAt.str_int x t j u _ _ _ _ h
      . rw[key_rr]at h;exact wpAny_eqBool_str h
  «strs»:=λk x t v h=>by
    rcases keyIs_shape h with⟨i,u,rfl,e⟩|⟨y,u,rfl,e⟩
    . exact nomatch e
    . injection e with c _
      subst c;cases v<;>rfl
theorem mixKind_int(prog:Program)(w:World)(i:Int)(t:Tok):(mixKind prog w).is (.inl i) (.int i t)=true:=keyIs_int i t
theorem mixKind_str(prog:Program)(w:World)(x:Str)(t:Tok):(mixKind prog w).is (.inr x) (.str x t)=true:=keyIs_str x t
inductive V where
  |non|bl (b:Bool)|int (i:Int)|str (x:Str)|byt (b:Array UInt8)|flt (b:UInt64)|ref (a:Addr)|ty (n:String)
  deriving DecidableEq
def RelV:V->vL->Prop
  |.non,u=>u=Value.none
  |.bl b,u=>u=Value.bool b
  |.int i,u=>∃ t,u=Value.int i t
  |.str x,u=>∃ t,u=Value.str x t
  |.byt b,u=>∃ t,u=Value.bytes b t
  |.flt b,u=>∃ t,u=Value.float b t
  |.ref a,u=>u=Value.ref a
  |.ty n,u=>u=Value.type n
abbrev Vals:Li V->Li vL->Prop:=Paired RelV
variable{xs:Li V}{us:Li vL}
theorem Vals.length(r:Vals xs us):xs.length=us.length:=Paired.length r
theorem Vals.get:∀ {xs:Li V}{us:Li vL}{i:Nat}{x:V},Vals xs us->xs[i]?=some x->∃ u,us[i]?=some u/\RelV x u
  |_,_,_,_,.nil,e=>by simp at e
  |_,_,0,_,.cons r _,e=>by simp at e;subst e;exact⟨_,rfl,r⟩
  |_,_,i+1,x,.cons _ t,e=>by
    obtain⟨u,b,a⟩:=Vals.get (i:=i) (x:=x) t (by simpa using e)
    exact⟨u,by simpa using b,a⟩
theorem Vals.set{x:V}{u:vL}(r:RelV x u):∀ {xs:Li V}{us:Li vL} (i:Nat),Vals xs us->Vals (xs.set i x) (us.set i u)
  |_,_,_,.nil=>.nil
  |_,_,0,.cons _ t=>.cons r t
  |_,_,i+1,.cons q t=>.cons q (Vals.set r i t)
theorem Vals.append:∀ {xs ys:Li V}{us ws:Li vL},Vals xs us->Vals ys ws->Vals (xs++ys) (us++ws)
  |_,_,_,_,.nil,s=>s
  |_,_,_,_,.cons r t,s=>.cons r (Vals.append t s)
theorem Vals.take:∀ {xs:Li V}{us:Li vL} (n:Nat),Vals xs us->Vals (xs.take n) (us.take n)
  |_,_,0,_=>.nil
  |_,_,_+1,.nil=>.nil
  |_,_,n+1,.cons r t=>.cons r (Vals.take n t)
theorem Vals.drop:∀ {xs:Li V}{us:Li vL} (n:Nat),Vals xs us->Vals (xs.drop n) (us.drop n)
  |_,_,0,r=>r
  |_,_,_+1,.nil=>.nil
  |_,_,n+1,.cons _ t=>Vals.drop n t
def RelO:Ot V->Ot vL->Prop
  |some v,some u=>RelV v u
  |none,none=>True
  |_,_=>False
def KV{a:Type}:Li (a×V)->Li (a×vL)->Prop:=Paired λ(p:a×V) (q:a×vL)=>p.1=q.1/\RelV p.2 q.2
noncomputable def kV:Key->V
  |.inl i=>.int i
  |.inr x=>.str x
inductive HO where
    |lst (xs:List V)
    |tup (xs:List V)
    |dK (kvs:List (Key×V))|dT (kvs:List (List Key×V))|dN (f:World->List DictEntry)
    |set (S:Int->Bool) (n:Nat)
    |ins (C dx:Addr) (fs:List (Str×V))
    |own (x:Addr)
    |xd (fs:List (Str×V))
    |met (f x:Addr)
    |rng (lo hi:Int)
    |frz (o:Obj) (u:HO)
    |tbl (ps:Array Value)
    |ext (φ:Heap->Prop)
abbrev Hp:=Ad->Ot HO
noncomputable def upd(H:Hp)(a:Ad)(o:HO):Hp:=λb=>if b=a then some o else H b
variable{H:Hp}
theorem upd_same{a:Ad}{o:HO}:upd H a o a=some o:=by unfold upd;rw[if_pos rfl]
theorem upd_ne{a b:Ad}{o:HO}(h:b≠a):upd H a o b=H b:=by unfold upd;rw[if_neg h]
theorem upd_upd{a:Ad}{o u:HO}:upd (upd H a o) a u=upd H a u:=by
  funext b;unfold upd;split<;>rfl
theorem ne_of{a b:Ad}{o u:HO}(h:H a=some o)(c:H b=some u)(d:o≠u):a≠b:=by
  intro e;subst e;rw[h]at c;exact d (Option.some.inj c)
theorem ne_of_none{a b:Ad}{o:HO}(h:H a=some o)(c:H b=none):a≠b:=by
  intro e;subst e;rw[h]at c;cases c
section
variable (P:Program) (w:World)
def ObjOk(H:Hp)(h:Heap)(a:Ad):HO->Prop
  |.lst xs=>xs.length<=sizeLine/\∃ (its:Li vL) (n:Nat),Vals xs its/\h.get? a=some { cls:=.type "list",data:=.seq its.toArray n }
  |.tup xs=>xs.length<=sizeLine/\∃ its:Li vL,Vals xs its/\IsTup h a its.toArray
  |.dK b=>b.length<=sizeLine/\(a==sysModules)=false/\∃ i,KV b i/\h.DictOf (mixKind P w) a i
  |.dT b=>b.length<=sizeLine/\(a==sysModules)=false/\∃ xs:Li (Li Key×Ad×vL),
      Paired (λ(p:Li Key×V) (q:Li Key×Ad×vL)=>p.1=q.1/\H q.2.1=some (.tup (p.1.map kV))/\RelV p.2 q.2.2) b xs /\
      ∃ o d s,h.get? a=some o/\o.ExactDict/\o.data=.dict d s/\d.toList=xs.map (entryOfKey (tupleKind (mixKind P w)))/\(xs.map (·.1)).Nodup
  |.dN f=>(a==sysModules)=false/\∃ o d,h.get? a=some o/\o.ExactDict/\o.data=.dict d d.size/\d.toList=f w
  |.set S n=>h.SetOf (intKind P w) a S n
  |.ins C e fs=>H e=some (.own a)/\fs.length<=1000/\e≠a/\h.get? a=some (W.instObj C e) /\
      ∃ c,h.Ns1 e c/\(∀ f,RelO (fs.lookup f) (c f))/\PySem.Within c (fs.map (·.1))
  |.own _=>∃ o,h.get? a=some o
  |.xd fs=>∃ c,h.Ns1 a c/\∀ f,RelO (fs.lookup f) (c f)
  |.rng m r=>∃ t u v,h.get? a=some { cls:=.type "range",data:=.fields #[.int m t,.int r u,.int 1 v] }
  |.frz o u=>h.get? a=some o/\ObjOk H h a u
  |.tbl l=>h.get? a=some { cls:=.none,data:=.fields l }
  |.met f x=>h.get? a=some (W.methodObj (.ref f) (.ref x))
  |.ext g=>g h/\(∃ o,h.get? a=some o)/\∀ k j:Heap,g k->(∀ o,k.get? a=some o->j.get? a=some o)->g j
def HOk(H:Hp)(h:Heap):Prop:=∀ a o,H a=some o->ObjOk P w H h a o
end
variable{P:Program}{w:World}{H H':Hp}{h h':Heap}{a:Ad}
section
variable{o:HO}
theorem ObjOk.lt(x:ObjOk P w H h a o):a < h.objs.size:=by
  cases o with
  |lst xs=>obtain⟨_,_,_,_,e⟩:=x;exact aI e
  |tup xs=>obtain⟨_,_,_,p⟩:=x;exact p.lt
  |dK b=>obtain⟨_,_,_,_,o,_,_,e,_⟩:=x;exact aI e
  |dT b=>obtain⟨_,_,_,_,o,_,_,e,_⟩:=x;exact aI e
  |dN f=>obtain⟨_,o,_,e,_⟩:=x;exact aI e
  |set S n=>obtain⟨o,_,_,_,e,_⟩:=x;exact aI e
  |ins C k fs=>obtain⟨_,_,_,e,_⟩:=x;exact aI e
  |own y=>obtain⟨_,e⟩:=x;exact aI e
  |xd fs=>obtain⟨_,⟨_,_,_,e,_⟩,_⟩:=x;exact aI e
  |rng i j=>obtain⟨_,_,_,e⟩:=x;exact aI e
  |frz g u=>obtain⟨e,_⟩:=x;exact aI e
  |tbl d=>exact aI (show h.get? a=some _ from x)
  |met f y=>exact aI (show h.get? a=some _ from x)
  |ext c=>obtain⟨_,⟨_,e⟩,_⟩:=x;exact aI e
theorem Paired.mapP{d c:Type}{F G:d->c->Prop}:∀ {l₁:Li d}{l₂:Li c},Paired F l₁ l₂->(∀ a b,F a b->G a b)->Paired G l₁ l₂
  |_,_,.nil,_=>.nil
  |_,_,.cons r t,f=>.cons (f _ _ r) (Paired.mapP t f)
theorem ObjOk.stay(x:ObjOk P w H h a o)(k:∀ b u,(b=a\/H b=some (.own a))->h.get? b=some u->h'.get? b=some u)(I:∀ b,H b=some (.own a)->H' b=some (.own a))(G:∀ b xs,H b=some (.tup xs)->H' b=some (.tup xs)):ObjOk P w H' h' a o:=by
  induction o with
  |lst xs=>obtain⟨z,its,n,r,e⟩:=x;exact⟨z,its,n,r,k _ _ (.inl rfl) e⟩
  |tup xs=>obtain⟨z,its,r,g,e,c⟩:=x;exact⟨z,its,r,g,k _ _ (.inl rfl) e,c⟩
  |dK s=>obtain⟨z,y,D,r,g,i,j,e,c⟩:=x;exact⟨z,y,D,r,g,i,j,k _ _ (.inl rfl) e,c⟩
  |dT s=>
    obtain⟨z,y,xs,r,g,i,j,e,c⟩:=x;exact⟨z,y,xs,Paired.mapP r λp q z=>⟨z.1,G _ _ z.2.1,z.2.2⟩,g,i,j,k _ _ (.inl rfl) e,c⟩
  |dN f=>obtain⟨z,g,i,e,c⟩:=x;exact⟨z,g,i,k _ _ (.inl rfl) e,c⟩
  |set S n=>obtain⟨g,i,j,t,e,c⟩:=x;exact⟨g,i,j,t,k _ _ (.inl rfl) e,c⟩
  |ins C N fs=>
    obtain⟨d,z,E,e,m,⟨l,i,j,J,c⟩,r⟩:=x;exact⟨I _ d,z,E,k _ _ (.inl rfl) e,m,⟨l,i,j,k _ _ (.inr d) J,c⟩,r⟩
  |own y=>obtain⟨g,e⟩:=x;exact⟨g,k _ _ (.inl rfl) e⟩
  |xd fs=>obtain⟨m,⟨l,i,j,e,c⟩,r⟩:=x;exact⟨m,⟨l,i,j,k _ _ (.inl rfl) e,c⟩,r⟩
  |rng L M=>obtain⟨t,u,v,e⟩:=x;exact⟨t,u,v,k _ _ (.inl rfl) e⟩
  |frz g u F=>obtain⟨e,q⟩:=x;exact⟨k _ _ (.inl rfl) e,F q⟩
  |tbl B=>
    have e:h.get? a=some { cls:=.none,data:=.fields B }:=x;show h'.get? a=some { cls:=.none,data:=.fields B };exact k a _ (.inl rfl) e
  |met f y=>
    have e:h.get? a=some (W.methodObj (.ref f) (.ref y)):=x;show h'.get? a=some (W.methodObj (.ref f) (.ref y));exact k a _ (.inl rfl) e
  |ext K=>obtain⟨p,⟨o,e⟩,A⟩:=x;exact⟨A _ _ p λo q=>k _ _ (.inl rfl) q,⟨o,k _ _ (.inl rfl) e⟩,A⟩
theorem HOk.lt(x:HOk P w H h)(e:H a=some o):a < h.objs.size:=(x a o e).lt
theorem HOk.fresh(x:HOk P w H h)(e:h.objs.size<=a):H a=none:=by
  cases q:H a with
  |none=>rfl
  |some u=>exact absurd (aS (x.lt q) e) (bL _)
theorem HOk.kept(x:HOk P w H h)(k:∀ b u,h.get? b=some u->h'.get? b=some u):HOk P w H h':=λa o e=>
  (x a o e).stay (λb u _ q=>k b u q) (λ_ q=>q) λ_ _ q=>q
theorem HOk.laid(x:HOk P w H h)(k:∀ b u,h.get? b=some u->h'.get? b=some u)(g:h.objs.size<=a)(new:ObjOk P w (upd H a o) h' a o):HOk P w (upd H a o) h':=λb u e=>by
  have d:=x.fresh g;by_cases f:b=a
  . subst f;rw[upd_same]at e;cases e;exact new
  . rw[upd_ne f]at e
    exact(x b u e).stay (λc v _ q=>k c v q) (λc q=>by rw[upd_ne (ne_of_none q d)];exact q) λc xs q=>by rw[upd_ne (ne_of_none q d)];exact q
end
def Rd(H:Hp)(a:Ad)(u:HO):Prop:=H a=some u\/∃ o,H a=some (.frz o u)
variable{w:World}{h:Heap}
theorem Rd.ok{P:Program}{a:Ad}{u:HO}(r:Rd H a u)(x:HOk P w H h):ObjOk P w H h a u:=by
  rcases r with r|⟨o,r⟩
  . exact x a u r
  . obtain⟨_,q⟩:=x a _ r
    exact q
def Mut:Ot HO->Prop
  |some (.lst _)=>True
  |some (.dK _)=>True
  |some (.dT _)=>True
  |some (.dN _)=>True
  |some (.set _ _)=>True
  |some (.ins _ _ _)=>True
  |some (.ext _)=>True
  |_=>False
variable{x:Ad}
section
variable{e:Ad}{o':HO}
theorem HOk.write(ok:HOk P w H h)(g:Mut (H x))(m:e=x\/H e=some (.own x))(k:∀ b u,b≠e->h.get? b=some u->h'.get? b=some u)(j:∃ u,h'.get? e=some u)(new:ObjOk P w (upd H x o') h' x o'):HOk P w (upd H x o') h':=λb u q=>by
  have d:∀ c y,H c=some (.own y)->c≠x:=λc y r z=>by subst z;rw[r]at g;exact g
  have f:∀ c xs,H c=some (.tup xs)->c≠x:=λc xs r z=>by subst z;rw[r]at g;exact g
  by_cases i:b=x
  . subst i;rw[upd_same]at q;cases q;exact new
  . rw[upd_ne i]at q
    by_cases a:b=e
    . have l:H b=some (.own x):=by
        rcases m with z|z
        . exact absurd (a.trans z) i
        . rw[a];exact z
      rw[q]at l;cases l
      obtain⟨v,n⟩:=j;exact⟨v,by rw[a];exact n⟩
    . refine(ok b u q).stay (λc v hc r=>k c v ?_ r) (λc r=>by rw[upd_ne (d c b r)];exact r) λc xs r=>by rw[upd_ne (f c xs r)];exact r
      rcases hc with rfl|hc
      . exact a
      . rintro rfl
        rcases m with z|z
        . exact d c b hc z
        . rw[hc]at z;cases z;exact i rfl
end
structure Un(fs ex:List Addr)(H H':Hp)(h h':Heap):Prop where
  keep:∀ b o,h.get? b=some o->H b=none->b∉fs->b∉ex->h'.get? b=some o
  slot:∀ b o,h.get? b=some o->H b=none->b∈fs->b∉ex->∃ sl,h'.get? b=some { o with slots:=sl }
  free:∀ b o,h.get? b=some o->H b=none->b∉ex->H' b=none
  there:∀ b o,h.get? b=some o->b∉ex->∃ o',h'.get? b=some o'
  tups:∀ b xs,H b=some (.tup xs)->H' b=some (.tup xs)
  frzs:∀ b o u,H b=some (.frz o u)->H' b=some (.frz o u)
  tbls:∀ b ps,H b=some (.tbl ps)->∃ more,H' b=some (.tbl (ps++more))
section
variable{fs fs' ex ex':Li Ad}{H1 H2:Hp}{h1 h2:Heap}{e:Ad}{o:HO}
theorem Un.any(u:Un fs ex H H1 h h1){b:Ad}{a:Obj}(q:h.get? b=some a)(n:H b=none)(c:b∉ex):∃ sl,h1.get? b=some { a with slots:=sl }:=by
  by_cases d:b∈fs
  . exact u.slot b a q n d c
  . exact⟨a.slots,u.keep b a q n d c⟩
theorem Un.kept(k:∀ b u,h.get? b=some u->h'.get? b=some u):Un fs ex H H h h':=
  ⟨λb a q _ _ _=>k b a q,λb a q _ _ _=>⟨a.slots,k b a q⟩,λ_ _ _ n _=>n,λb a q _=>⟨a,k b a q⟩,λ_ _ q=>q,λ_ _ _ q=>q,λ_ c q=>⟨#[],by rw[q];simp⟩⟩
theorem Un.refl:Un fs ex H H h h:=Un.kept λ_ _ q=>q
theorem Un.laid(k:∀ b u,h.get? b=some u->h'.get? b=some u)(d:h.objs.size<=a)(c:H a=none):Un fs ex H (upd H a o) h h' where
  keep:=λb u q _ _ _=>k b u q
  slot:=λb u q _ _ _=>⟨u.slots,k b u q⟩
  free:=λb u q n _=>by rw[upd_ne (aW (aS (aI q) d))];exact n
  there:=λb u q _=>⟨u,k b u q⟩
  tups:=λb xs q=>by rw[upd_ne (ne_of_none q c)];exact q
  frzs:=λb u xs q=>by rw[upd_ne (ne_of_none q c)];exact q
  tbls:=λb e q=>⟨#[],by rw[upd_ne (ne_of_none q c),q];simp⟩
theorem Un.write(c:Mut (H x))(j:e=x\/H e=some (.own x))(k:∀ b u,b≠e->h.get? b=some u->h'.get? b=some u)(f:∃ u,h'.get? e=some u):Un fs ex H (upd H x o) h h':=by
  have g:∀ b,H b=none->b≠x:=λb n z=>by subst z;rw[n]at c;exact c
  have i:∀ b,H b=none->b≠e:=λb n z=>by
    subst z;rcases j with r|r
    . exact g b n r
    . rw[n]at r;cases r
  have d:∀ b u,H b=some u->¬Mut (some u)->b≠x:=λb u q nm z=>by subst z;rw[q]at c;exact nm c
  refine⟨λb u q n _ _=>k b u (i b n) q,λb u q n _ _=>⟨u.slots,k b u (i b n) q⟩,λb u q n _=>by rw[upd_ne (g b n)];exact n,λb u q _=>?_,
    λb xs q=>by rw[upd_ne (d b _ q λz=>z)];exact q,λb u xs q=>by rw[upd_ne (d b _ q λz=>z)];exact q,λb l q=>⟨#[],by rw[upd_ne (d b _ q λz=>z),q];simp⟩⟩
  by_cases a:b=e
  . subst a;exact f
  . exact⟨u,k b u a q⟩
end
noncomputable def trk(h:Heap)(H:Hp):Li Ad:=(List.range h.objs.size).filter λa=>(H a).isSome
noncomputable def hidT(h:Heap)(H:Hp):Heap:=W.hideAll h (trk h H)
theorem hidT_size(h:Heap)(H:Hp):(hidT h H).objs.size=h.objs.size:=W.hideAll_size _ _
theorem hidT_get{b:Ad}{o:Obj}(e:h.get? b=some o)(n:H b=none):(hidT h H).get? b=some o:=
  W.hideAll_get _ e λa=>by
    have q:(H b).isSome=true:=(dU.mp a).2;rw[n]at q;simp at q
theorem of_hidT{b:Ad}{o:Obj}(e:(hidT h H).get? b=some o):h.get? b=some o/\H b=none:=by
  have a:h.get? b=some o:=W.of_hideAll (trk h H) e;refine⟨a,?_⟩;cases q:H b with
  |none=>rfl
  |some x=>
    have c:b∈trk h H:=dU.mpr ⟨cW.mpr (aI a),by simp[q]⟩
    have z:(hidT h H).get? b=none:=W.hideAll_none (trk h H) c;rw[z]at e;cases e
structure Mod(K:fG7)(mg:Str->Option Value)(base:Heap):Prop where
  kin:K.In base
  glob:base.Ns mainGlobals mg
  blt:∃ mb,base.Ns builtinsNs mb/\∀ x:Str,x ≠ "__name__"->mb x=bootBuiltins x
  nolimit:base.NoLimit
structure Cx where
  prog:Program
  w:World
  K:fG7
  mg:Str->Option Value
  base:Heap
  A:Around
  N:List Str
  s₀:Shared
  H₀:Hp
  env:Env
  outer:List Env
  stack:List Env
  ex:List Addr
  fn:Str->Bool
  calm:Bool
  pn:List (Addr×Obj)
  xe:Value->Shared->Prop
noncomputable def frs(l:Li Env):Li Ad:=l.filterMap (·.frame)
noncomputable abbrev Cx.fs(X:Cx):Li Ad:=frs X.outer
def Vis(sc:Scope)(x:Str):Prop:=sc.names.lookup x=some .local\/sc.names.lookup x=some .cell\/sc.names.lookup x=some .free
def Loc(sc:Scope)(x:Str):Prop:=sc.names.lookup x=some .local\/sc.names.lookup x=some .cell
def Look(env:Env)(h:Heap)(m:Str->Ot vL)(x:Str)(u:vL):Prop:=
  (env.kindOf x=some .local/\m x=some u)\/((env.kindOf x=some .cell\/env.kindOf x=some .free)/\∃ c,env.cells.lookup x=some c/\h.IsCell c (some u))
structure Cx.Ok(X:Cx):Prop where
  mod:Mod X.K X.mg X.base
  kind:X.env.scope.kind=.function
  glob:X.env.globals=mainGlobals
  blt:X.env.builtins=builtinsNs
  above:X.s₀.heap.objs.size<=X.env.locals
  inj:∀ x y c,X.env.cells.lookup x=some c->X.env.cells.lookup y=some c->x=y
  has:∀ x,(X.env.kindOf x=some .cell\/X.env.kindOf x=some .free)->∃ c,X.env.cells.lookup x=some c
  cab:∀ x c,X.fn x=true->X.env.cells.lookup x=some c->X.s₀.heap.objs.size<=c
  hd:X.calm=true->X.A.handled=none
  frames:X.A.frames=some X.stack
  stk:X.stack=X.outer\/(X.stack=X.env :: X.outer/\X.env.frame=some X.env.locals)
  exf:∀ b∈X.ex,b≠X.env.locals/\∀ x c,X.env.cells.lookup x=some c->c≠b
  bs:∀ b o,X.base.get? b=some o->X.s₀.heap.get? b=some o/\X.H₀ b=none
  bsz:X.base.objs.size<=X.s₀.heap.objs.size
  noex:∀ b o,X.base.get? b=some o->b∉X.ex
  exfs:∀ b∈X.ex,b∉X.fs
  funs:X.s₀.heap.FunFrames X.base X.outer
  frf:∀ b∈X.fs,X.H₀ b=none
structure Inv(X:Cx)(pQ:List (Addr×Obj))(O:List (Option V))(H:Hp)(s:Shared):Prop where
  ok:X.Ok
  os:s.os=X.s₀.os
  bare:AllBare s.gens
  base:Un X.fs X.ex X.H₀ H X.s₀.heap s.heap
  loc:∃ m,s.heap.Ns X.env.locals m/\∀ (i:Nat) (x:Str) (v:V),X.N[i]?=some x->O[i]?=some (some v)->Vis X.env.scope x->∃ u,RelV v u/\Look X.env s.heap m x u
  cell:∀ x c,X.env.cells.lookup x=some c->∃ v,s.heap.IsCell c v
  free:H X.env.locals=none
  freeC:∀ x c,X.env.cells.lookup x=some c->H c=none
  pin:∀ p∈X.pn++pQ,s.heap.get? p.1=some p.2/\H p.1=none/\p.1≠X.env.locals/\p.1∉X.fs/\∀ v,p.2.data≠.cell v
  hok:HOk X.prog X.w H s.heap
  len:O.length=X.N.length
variable{g':Array GenState}{t' i:Nat}{d':Drawn}{N:Li Str}{s':sH7}
variable{X:Cx}{pQ:Li (Ad×Obj)}{s:sH7}
section
variable{O:Li (Ot V)}
theorem Cx.Ok.nofr(ok:X.Ok){b:Ad}{o:Obj}(e:X.base.get? b=some o):b∉X.fs:=λa=>by
  have:=(ok.funs.mem a).1;rw[e]at this;cases this
theorem Inv.bs(I:Inv X pQ O H s):∀ b o,X.base.get? b=some o->s.heap.get? b=some o/\H b=none:=λb o e=>
  ⟨I.base.keep b o (I.ok.bs b o e).1 (I.ok.bs b o e).2 (I.ok.nofr e) (I.ok.noex b o e),I.base.free b o (I.ok.bs b o e).1 (I.ok.bs b o e).2 (I.ok.noex b o e)⟩
theorem Inv.bk(I:Inv X pQ O H s):∀ b o,X.base.get? b=some o->s.heap.get? b=some o:=λb o e=>(I.bs b o e).1
theorem Inv.mod(I:Inv X pQ O H s):Mod X.K X.mg X.base:=I.ok.mod
theorem Inv.kIn(I:Inv X pQ O H s):X.K.In s.heap:=I.ok.mod.kin.keeps I.bk
theorem Inv.lt(I:Inv X pQ O H s):X.env.locals < s.heap.objs.size:=let ⟨_,hn,_⟩:=I.loc;hn.lt
theorem Inv.sz(I:Inv X pQ O H s):X.s₀.heap.objs.size<=s.heap.objs.size:=aP I.ok.above (dI I.lt)
theorem Inv.nofs(I:Inv X pQ O H s){a:Ad}(h:s.heap.objs.size<=a):a∉X.fs:=λc=>by
  obtain⟨_,o,b,_⟩:=I.ok.funs.mem c;exact absurd (aS (aI b) (aP I.sz h)) (bL _)
theorem Inv.cne(I:Inv X pQ O H s):∀ x c,X.env.cells.lookup x=some c->c≠X.env.locals:=λx c e z=>by
  obtain⟨v,o,d,f⟩:=I.cell x c e;obtain⟨m,⟨g,h,i,a,b,_⟩,_⟩:=I.loc;rw[z,a]at d;cases d;rw[b]at f;cases f
theorem Inv.funs(I:Inv X pQ O H s):s.heap.FunFrames X.base X.outer:=by
  have all:∀ (l:Li Env),(∀ b∈frs l,b∈X.fs)->X.s₀.heap.FunFrames X.base l->s.heap.FunFrames X.base l:=by
    intro l
    induction l with
    |nil=>intro _ _;trivial
    |cons p r g=>
      intro f k;obtain⟨m,⟨L,o,a,j,i,n⟩,h⟩:=k;have d:L∈X.fs:=f L (by unfold frs;rw[dW,a];exact lQ7)
      obtain⟨sl,e⟩:=I.base.slot L o i (I.ok.frf L d) d λz=>I.ok.exfs L z d
      exact⟨m,⟨L,_,a,j,e,n⟩,g (λb c=>f b (by unfold frs;rw[dW,a];exact lM7 _ c)) h⟩
  exact all X.outer (λ_ c=>c) I.ok.funs
theorem Inv.stack(I:Inv X pQ O H s):s.heap.FunFrames X.base X.stack:=by
  rcases I.ok.stk with e|⟨e,b⟩
  . rw[e];exact I.funs
  . rw[e]
    obtain⟨m,a,_⟩:=I.loc;refine .cons (by rw[I.ok.kind];decide) b a ?_ I.funs
    exact Heap.get?_none_of_le (aP I.ok.bsz I.ok.above)
theorem Inv.stkSub(I:Inv X pQ O H s):∀ b∈frs X.stack,b∈X.env.locals :: X.fs:=λb a=>by
  rcases I.ok.stk with e|⟨e,c⟩
  . rw[e]at a;exact lM7 _ a
  . rw[e]at a
    unfold frs at a;rw[dW,c]at a;exact a
theorem Inv.stkFree(I:Inv X pQ O H s):∀ b∈frs X.stack,H b=none:=λb hb=>by
  rcases aH.mp (I.stkSub b hb) with e|hb
  . rw[e];exact I.free
  . obtain⟨_,o,a,_⟩:=I.ok.funs.mem hb
    exact I.base.free b o a (I.ok.frf b hb) λz=>I.ok.exfs b z hb
theorem Inv.step{ch:Li Ad}(I:Inv X pQ O H s)(g:∀ b∈ch,(b∈X.ex\/X.s₀.heap.objs.size<=b)/\b≠X.env.locals/\(∀ x c,X.env.cells.lookup x=some c->c≠b)/\∀ p∈X.pn++pQ,p.1≠b)(keep:∀ b o,b≠X.env.locals->b∉X.fs->b∉ch->s.heap.get? b=some o->H b=none->h'.get? b=some o)(slot:∀ b o,b≠X.env.locals->b∈X.fs->b∉ch->s.heap.get? b=some o->H b=none->∃ sl,h'.get? b=some { o with slots:=sl })(free:∀ b o,b∉ch->s.heap.get? b=some o->H b=none->H' b=none)(there:∀ b o,b∉ch->s.heap.get? b=some o->∃ B,h'.get? b=some B)(tups:∀ b xs,H b=some (.tup xs)->H' b=some (.tup xs))(frzs:∀ b o u,H b=some (.frz o u)->H' b=some (.frz o u))(tbls:∀ b E,H b=some (.tbl E)->∃ more,H' b=some (.tbl (E++more)))(N:∀ m,s.heap.Ns X.env.locals m->h'.Ns X.env.locals m)(hok:HOk X.prog X.w H' h')(T:AllBare g') :
    Inv X pQ O H' { s with heap:=h',gens:=g',drawn:=d',toks:=t' }:=by
  have C:∀ b o,X.s₀.heap.get? b=some o->b≠X.env.locals:=λb o e=>aW (aS (aI e) I.ok.above)
  have j:∀ b o,X.s₀.heap.get? b=some o->b∉X.ex->b∉ch:=λb o e a y=>by
    rcases (g b y).1 with z|z
    . exact a z
    . exact absurd (aS (aI e) z) (bL _)
  have h:∀ x c,X.env.cells.lookup x=some c->∀ v,s.heap.IsCell c v->h'.IsCell c v:=λx c e v ⟨o,A,G⟩=>by
    have f:c∉ch:=λz=>(g c z).2.2.1 x c e rfl
    by_cases M:c∈X.fs
    . obtain⟨sl,q⟩:=slot c o (I.cne x c e) M f A (I.freeC x c e)
      exact⟨_,q,G⟩
    . exact⟨o,keep c o (I.cne x c e) M f A (I.freeC x c e),G⟩
  refine⟨I.ok,I.os,T,⟨λb o e n y a=>?_,λb o e n y a=>?_,λb o e n a=>?_,λb o e a=>?_,λb xs e=>tups b xs (I.base.tups b xs e),λb o xs e=>frzs b o xs (I.base.frzs b o xs e),λb E e=>?_⟩,?_,λx c e=>?_,?_,λx c e=>?_,λp L=>?_,hok,I.len⟩
  . exact keep b o (C b o e) y (j b o e a) (I.base.keep b o e n y a) (I.base.free b o e n a)
  . obtain⟨sl,t⟩:=I.base.slot b o e n y a
    obtain⟨F,D⟩:=slot b _ (C b o e) y (j b o e a) t (I.base.free b o e n a);exact⟨F,D⟩
  . obtain⟨B,t⟩:=I.base.there b o e a
    exact free b B (j b o e a) t (I.base.free b o e n a)
  . obtain⟨B,t⟩:=I.base.there b o e a
    exact there b B (j b o e a) t
  . obtain⟨Q,t⟩:=I.base.tbls b E e
    obtain⟨P,D⟩:=tbls b _ t;exact⟨Q++P,by rw[D,Array.append_assoc]⟩
  . obtain⟨m,R,S⟩:=I.loc
    refine⟨m,N m R,λi x v t D U=>?_⟩
    obtain⟨u,r,l⟩:=S i x v t D U;refine⟨u,r,?_⟩;rcases l with l|⟨k,c,e,z⟩
    . exact .inl l
    . exact .inr ⟨k,c,e,h x c e _ z⟩
  . obtain⟨v,z⟩:=I.cell x c e
    exact⟨v,h x c e v z⟩
  . obtain⟨m,⟨o,_,_,A,_⟩,_⟩:=I.loc
    exact free _ o (λz=>(g _ z).2.1 rfl) A I.free
  . obtain⟨v,o,A,G⟩:=I.cell x c e
    exact free c o (λz=>(g c z).2.2.1 x c e rfl) A (I.freeC x c e)
  . obtain⟨e,n,K,J,d⟩:=I.pin p L
    have f:p.1∉ch:=λz=>(g p.1 z).2.2.2 p L rfl
    exact⟨keep p.1 p.2 K J f e n,free p.1 p.2 f e n,K,J,d⟩
theorem Inv.un(I:Inv X pQ O H s)(u:Un X.fs [] H H' s.heap h')(hok:HOk X.prog X.w H' h'):Inv X pQ O H' { s with heap:=h',toks:=t' }:=by
  obtain⟨m,⟨o,p,q,g,r⟩,_⟩:=id I.loc;obtain⟨sl,j⟩:=u.any g I.free (by simp)
  exact I.step (g':=s.gens) (d':=s.drawn) (ch:=[]) (λ_ z=>nomatch z) (λb o _ c _ e n=>u.keep b o e n c (by simp)) (λb o _ c _ e n=>u.slot b o e n c (by simp)) (λb o _ e n=>u.free b o e n (by simp)) (λb o _ e=>u.there b o e (by simp)) u.tups u.frzs u.tbls (λl i=>by
    obtain⟨k,d,f,a,h⟩:=i;rw[g]at a;cases a
    exact⟨_,d,f,j,h⟩) hok I.bare
theorem Inv.call{ch:Li Ad}(I:Inv X pQ O H s)(u:Un (frs X.stack) ch H H' s.heap h')(hok:HOk X.prog X.w H' h')(q:AllBare g')(f:∀ b∈ch,(b∈X.ex\/X.s₀.heap.objs.size<=b)/\b≠X.env.locals/\(∀ x c,X.env.cells.lookup x=some c->c≠b)/\∀ p∈X.pn++pQ,p.1≠b) :
    Inv X pQ O H' { s with heap:=h',gens:=g',drawn:=d',toks:=t' }:=by
  obtain⟨m,⟨o,A,B,j,r⟩,_⟩:=id I.loc;obtain⟨sl,g⟩:=u.any j I.free λz=>(f _ z).2.1 rfl
  exact I.step (ch:=ch) f (λb o g t a e n=>u.keep b o e n (λz=>(aH.mp (I.stkSub b z)).elim g t) a) (λb o _ _ a e n=>u.any e n a) (λb o a e n=>u.free b o e n a) (λb o a e=>u.there b o e a) u.tups u.frzs u.tbls (λy l=>by
    obtain⟨v,h,i,d,k⟩:=l;rw[j]at d;cases d
    exact⟨_,h,i,g,k⟩) hok q
theorem Inv.turned{a:Ad}(I:Inv X pQ O H s)(k:∀ b o,b≠a->s.heap.get? b=some o->h'.get? b=some o)(i:H a=none)(g:a≠X.env.locals)(y:a∈X.ex\/X.s₀.heap.objs.size<=a)(w:∀ x c,X.env.cells.lookup x=some c->c≠a)(t:∀ p∈X.pn++pQ,p.1≠a):Inv X pQ O H { s with heap:=h',toks:=t' }:=by
  have f:∀ b u,H b=some u->b≠a:=λb u e z=>by rw[z,i]at e;cases e
  refine I.step (g':=s.gens) (d':=s.drawn) (ch:=[a]) (λb l=>?_) (λb o _ _ d e _=>k b o (λz=>d (by simp[z])) e) (λb o _ _ d e _=>⟨o.slots,k b o (λz=>d (by simp[z])) e⟩) (λ_ _ _ _ n=>n)
    (λb o d e=>⟨o,k b o (λz=>d (by simp[z])) e⟩) (λ_ _ e=>e) (λ_ _ _ e=>e) (λb C e=>⟨#[],by rw[e];simp⟩) (λm j=>?_) (λb u e=>?_) I.bare
  . have e:b=a:=by simpa using l
    subst e;exact⟨y,g,w,t⟩
  . obtain⟨o,A,B,h,r⟩:=j
    exact⟨o,A,B,k _ o (Ne.symm g) h,r⟩
  . refine(I.hok b u e).stay (λc v d q=>k c v ?_ q) (λ_ q=>q) λ_ _ q=>q
    rcases d with z|z
    . rw[z];exact f b u e
    . exact f c _ z
theorem Inv.tok(I:Inv X pQ O H s)(t:Nat):Inv X pQ O H { s with toks:=t }:=I.un (h':=s.heap) (t':=t) Un.refl I.hok
theorem Inv.kept{t':Nat}(I:Inv X pQ O H s)(k:∀ b u,s.heap.get? b=some u->h'.get? b=some u):Inv X pQ O H { s with heap:=h',toks:=t' }:=I.un (Un.kept k) (I.hok.kept k)
theorem Inv.laid{a:Ad}{o:HO}{t':Nat}(I:Inv X pQ O H s)(k:∀ b u,s.heap.get? b=some u->h'.get? b=some u)(c:s.heap.objs.size<=a)(new:ObjOk X.prog X.w (upd H a o) h' a o) :
    Inv X pQ O (upd H a o) { s with heap:=h',toks:=t' }:=I.un (Un.laid k c (I.hok.fresh c)) (I.hok.laid k c new)
theorem Inv.write{x e:Ad}{o:HO}{t':Nat}(I:Inv X pQ O H s)(c:Mut (H x))(d:e=x\/H e=some (.own x))(k:∀ b u,b≠e->s.heap.get? b=some u->h'.get? b=some u)(a:∃ u,h'.get? e=some u)(new:ObjOk X.prog X.w (upd H x o) h' x o):Inv X pQ O (upd H x o) { s with heap:=h',toks:=t' }:=I.un (Un.write c d k a) (I.hok.write c d k a new)
theorem Inv.pins_of{a:Li (Ad×Obj)}(I:Inv X pQ O H s)(h:∀ p∈a,s.heap.get? p.1=some p.2/\H p.1=none/\p.1≠X.env.locals/\p.1∉X.fs/\∀ v,p.2.data≠.cell v):Inv X a O H s:=
  ⟨I.ok,I.os,I.bare,I.base,I.loc,I.cell,I.free,I.freeC,λp b=>(aU.mp b).elim (λz=>I.pin p (List.mem_append_left _ z)) (h p),I.hok,I.len⟩
theorem nodup_ix(hN:N.Nodup){j:Nat}{x:Str}(a:N[i]?=some x)(b:N[j]?=some x):i=j:=by
  obtain⟨f,d⟩:=bB.mp a;obtain⟨e,c⟩:=bB.mp b;exact(List.getElem_inj hN).mp (d.trans c.symm)
theorem store_ok2{M:Model}{A:Around}{E:vL->sH7->Prop}{x:Str}{v:V}{u:vL}{Q:Unit->sH7->Prop}(I:Inv X pQ O H s)(hN:X.N.Nodup)(P:X.N[i]?=some x)(t:Loc X.env.scope x)(r:RelV v u)(h:∀ s',Inv X pQ (O.set i (some v)) H s'->(∃ a,Heap.SameBut a s.heap s'.heap/\(a=X.env.locals\/X.env.cells.lookup x=some a))->Q () s')(hf:X.fn x=true\/X.env.scope.names.lookup x=some .local:=by first|exact .inl rfl|exact .inr rfl|assumption):wpAny M A (storeName X.env x u) Q E s:=by
  obtain⟨m,hn,hl⟩:=id I.loc;have R:(X.env.scope.kind==.class||(X.env.scope.kind==.module&&X.env.locals != X.env.globals))=false:=by rw[I.ok.kind];rfl
  have D:i < O.length:=by rw[I.len];exact(bB.mp P).1
  have cne:=I.cne;have g:∀ {a:Ad}{h':Heap},(∃ o,s.heap.get? a=some o/\H a=none)->Heap.SameBut a s.heap h'->HOk X.prog X.w H h':=λ{a h'} ha f b ob e=>by
    obtain⟨_,_,B⟩:=ha;refine(I.hok b ob e).stay (λc U hc q=>(f.2 c ?_).trans q) (λ_ q=>q) λ_ _ q=>q
    rintro rfl
    rcases hc with rfl|hc
    . rw[B]at e;cases e
    . rw[B]at hc;cases hc
  rcases t with hk|hk
  . refine wpAny_storeName_local hk hn (λh' hn' f=>?_) R
    obtain⟨oL,_,_,hoL,_⟩:=id hn;refine h _ ⟨I.ok,I.os,I.bare,⟨λb o e n J t=>?_,λb o e n J t=>?_,I.base.free,λb o e t=>?_,I.base.tups,I.base.frzs,I.base.tbls⟩,⟨_,hn',λj y Z l C e3=>?_⟩,λy c e=>?_,I.free,I.freeC,λp hp=>?_,g ⟨oL,hoL,I.free⟩ f,by simpa using I.len⟩ ⟨_,f,.inl rfl⟩
    . exact(f.2 b (aW (aS (aI e) I.ok.above))).trans (I.base.keep b o e n J t)
    . obtain⟨sl,l⟩:=I.base.slot b o e n J t
      exact⟨sl,(f.2 b (aW (aS (aI e) I.ok.above))).trans l⟩
    . obtain⟨o',l⟩:=I.base.there b o e t
      exact⟨o',(f.2 b (aW (aS (aI e) I.ok.above))).trans l⟩
    . by_cases F:j=i
      . subst F
        rw[P]at l;cases l
        rw[cG D]at C;cases C;exact⟨u,r,.inl ⟨hk,by simp⟩⟩
      . rw[bK (Ne.symm F)]at C
        obtain⟨u',r',q⟩:=hl j y Z l C e3;refine⟨u',r',?_⟩;rcases q with⟨k,e⟩|⟨k,c,e,z⟩
        . refine .inl ⟨k,?_⟩
          have:y≠x:=λe=>F (nodup_ix hN l (e ▸ P))
          simp[this,e]
        . exact .inr ⟨k,c,e,z.sameBut f (cne y c e)⟩
    . obtain⟨U,z⟩:=I.cell y c e
      exact⟨U,z.sameBut f (cne y c e)⟩
    . obtain⟨e,n,W,nf,d⟩:=I.pin p hp
      exact⟨(f.2 p.1 W).trans e,n,W,nf,d⟩
  . have G:X.fn x=true:=by
      rcases hf with z|z
      . exact z
      . rw[z]at hk;cases hk
    obtain⟨c,hc⟩:=I.ok.has x (.inl hk);obtain⟨U,z⟩:=I.cell x c hc;refine wpAny_storeName_cell I.ok.kind hk hc z (λh' T f=>?_)
    obtain⟨oc,L,K⟩:=id z;refine h { s with heap:=h' } ⟨I.ok,I.os,I.bare,⟨λb o e n J t=>?_,λb o e n J t=>?_,I.base.free,λb o e t=>?_,I.base.tups,I.base.frzs,I.base.tbls⟩,⟨m,hn.sameBut f (Ne.symm (cne x c hc)),λj y Z l C e3=>?_⟩,λy Y e=>?_,I.free,I.freeC,λp hp=>?_,g ⟨oc,L,I.freeC x c hc⟩ f,by simpa using I.len⟩ ⟨c,f,.inr hc⟩
    . exact(f.2 b (aW (aS (aI e) (I.ok.cab x c G hc)))).trans (I.base.keep b o e n J t)
    . obtain⟨sl,l⟩:=I.base.slot b o e n J t
      exact⟨sl,(f.2 b (aW (aS (aI e) (I.ok.cab x c G hc)))).trans l⟩
    . obtain⟨o',l⟩:=I.base.there b o e t
      exact⟨o',(f.2 b (aW (aS (aI e) (I.ok.cab x c G hc)))).trans l⟩
    . by_cases F:j=i
      . subst F
        rw[P]at l;cases l
        rw[cG D]at C;cases C;exact⟨u,r,.inr ⟨.inl hk,c,hc,T⟩⟩
      . rw[bK (Ne.symm F)]at C
        obtain⟨u',r',q⟩:=hl j y Z l C e3;refine⟨u',r',?_⟩;rcases q with q|⟨k,Y,e,z'⟩
        . exact .inl q
        . refine .inr ⟨k,Y,e,z'.sameBut f ?_⟩
          rintro rfl
          exact F (nodup_ix hN l (I.ok.inj _ _ _ e hc ▸ P))
    . by_cases S:Y=c
      . subst S;exact⟨_,T⟩
      . obtain⟨w2,z2⟩:=I.cell y Y e
        exact⟨w2,z2.sameBut f S⟩
    . obtain⟨e,n,W,nf,d⟩:=I.pin p hp
      refine⟨(f.2 p.1 ?_).trans e,n,W,nf,d⟩;intro q;rw[q,L]at e;have q':oc=p.2:=Option.some.inj e;exact d U (by rw[<-q'];exact K)
theorem store_ok{M:Model}{A:Around}{E:vL->sH7->Prop}{x:Str}{v:V}{u:vL}{Q:Unit->sH7->Prop}(I:Inv X pQ O H s)(hN:X.N.Nodup)(b:X.N[i]?=some x)(a:Loc X.env.scope x)(r:RelV v u)(h:∀ s',Inv X pQ (O.set i (some v)) H s'->Q () s')(c:X.fn x=true\/X.env.scope.names.lookup x=some .local:=by first|exact .inl rfl|exact .inr rfl|assumption):wpAny M A (storeName X.env x u) Q E s:=
  store_ok2 I hN b a r (λs' d _=>h s' d) c
theorem Inv.call'{ch:Li Ad}(I:Inv X pQ O H s)(f:s'.os=s.os)(u:Un (frs X.stack) ch H H' s.heap s'.heap)(hok:HOk X.prog X.w H' s'.heap)(g:AllBare s'.gens)(a:∀ b∈ch,(b∈X.ex\/X.s₀.heap.objs.size<=b)/\b≠X.env.locals/\(∀ x c,X.env.cells.lookup x=some c->c≠b)/\∀ p∈X.pn++pQ,p.1≠b):Inv X pQ O H' s':=by
  obtain⟨h',g',d',t',d⟩:=s';have e:d=s.os:=f;subst e;exact I.call (g':=g') (t':=t') (d':=d') u hok g a
end
abbrev XK:=vL->Ot Ad->Hp->Prop
abbrev St:=Li (Ot V)
abbrev VK:=V->Hp->Prop
abbrev TE:=St->Hp->VK->Prop
abbrev TT:=St->Hp->(Bool->Hp->Prop)->Prop
abbrev TA:=St->Hp->(Li V->Hp->Prop)->Prop
structure Ends where
  nx:St->Hp->Prop
  rt:VK
  bk:St->Hp->Prop:=λ_ _=>False
  ct:St->Hp->Prop:=λ_ _=>False
abbrev TS:=Ends->St->Hp->Prop
def EP(X:Cx)(b:Li (Ad×Obj))(O:St)(Q:VK)(u:vL)(s':sH7):Prop:=∃ v a,Inv X b O a s'/\RelV v u/\Q v a
def TP(X:Cx)(c:Li (Ad×Obj))(O:St)(Q:Bool->Hp->Prop)(b:Bool)(s':sH7):Prop:=∃ a,Inv X c O a s'/\Q b a
def AP(X:Cx)(c:Li (Ad×Obj))(O:St)(Q:Li V->Hp->Prop)(us:Li vL)(s':sH7):Prop:=∃ a b,Inv X c O b s'/\Vals a us/\Q a b
def SP(X:Cx)(c:Li (Ad×Obj))(D:Ends)(f:Flow)(s':sH7):Prop:=
  match f with
  |.next=>∃ b a,Inv X c b a s'/\D.nx b a
  |.brk=>∃ b a,Inv X c b a s'/\D.bk b a
  |.cont=>∃ b a,Inv X c b a s'/\D.ct b a
  |.ret u=>∃ v b a,Inv X c b a s'/\RelV v u/\D.rt v a
def PE(X:Cx)(e:Expr)(t:TE):Prop:=
  ∀ (pQ:Li (Ad×Obj)) (s:sH7) (O:St) (H:Hp) (Q:VK),Inv X pQ O H s->t O H Q->wpAny (model X.prog X.w) X.A (eval e X.env) (EP X pQ O Q) X.xe s
def PT(X:Cx)(e:Expr)(t:TT):Prop:=
  ∀ (pQ:Li (Ad×Obj)) (s:sH7) (O:St) (H:Hp) (Q:Bool->Hp->Prop),Inv X pQ O H s->t O H Q->wpAny (model X.prog X.w) X.A (isTrue e X.env (eval e X.env)) (TP X pQ O Q) X.xe s
def PW(X:Cx)(e:Expr)(t:TT):Prop:=
  ∀ (whole:Sem vL) (pQ:Li (Ad×Obj)) (s:sH7) (O:St) (H:Hp) (Q:Bool->Hp->Prop),Inv X pQ O H s->t O H Q->wpAny (model X.prog X.w) X.A (isTrue e X.env whole) (TP X pQ O Q) X.xe s
variable{X:Cx}
theorem PW.pt{e:Expr}{t:TT}(h:PW X e t):PT X e t:=h _
def PA(X:Cx)(a:Li Expr)(t:TA):Prop:=
  ∀ (pos:Pos) (pQ:Li (Ad×Obj)) (s:sH7) (O:St) (H:Hp) (Q:Li V->Hp->Prop),Inv X pQ O H s->t O H Q->wpAny (model X.prog X.w) X.A (spliced (backTo pos (starEach a X.env))) (AP X pQ O Q) X.xe s
def PS(X:Cx)(a:Stmt)(t:TS):Prop:=
  ∀ (pQ:Li (Ad×Obj)) (s:sH7) (O:St) (H:Hp) (D:Ends),Inv X pQ O H s->t D O H->wpAny (model X.prog X.w) X.A (exec a X.env) (SP X pQ D) X.xe s
def PSs(X:Cx)(a:Li Stmt)(t:TS):Prop:=
  ∀ (pQ:Li (Ad×Obj)) (s:sH7) (O:St) (H:Hp) (D:Ends),Inv X pQ O H s->t D O H->wpAny (model X.prog X.w) X.A (execs a X.env) (SP X pQ D) X.xe s
variable{M:Model}{A:Around}
theorem thn{b:Type}{t:Sem b}{Q c:b->sH7->Prop}{E:vL->sH7->Prop}{s:sH7}(h:wpAny M A t Q E s)(d:∀ a s,Q a s->c a s):wpAny M A t c E s:=aX h d λ_ _ x=>x
variable{pQ:Li (Ad×Obj)}{s:sH7}{Q:vL->sH7->Prop}
variable{b:Expr}{ta tb:TE}{pos:Pos}
section
def tVar(i:Nat):TE:=λO H Q=>∃ v,O[i]?=some (some v)/\Q v H
def tC(v:V):TE:=λ_ H Q=>Q v H
theorem pe_var{x:Str}{pos:Pos}(hN:X.N[i]?=some x)(g:Vis X.env.scope x)(hd:(x==("__debug__":Str))=false:=by decide)(d:(x==("__classdict__":Str))=false:=by decide):PE X (.Name x pos) (tVar i):=by
  intro pQ s O H Q I h;obtain⟨v,e,h⟩:=h;obtain⟨m,j,n⟩:=I.loc;obtain⟨u,r,l⟩:=n i x v hN e g;have b:EP X pQ O Q u s:=⟨v,H,I,r,h⟩;rcases l with⟨hk,k⟩|⟨hk,c,f,a⟩
  . exact wpAny_Name (wpAny_loadName_local I.ok.kind hk j k b) hd
  . rcases hk with hk|hk
    . exact wpAny_Name (wpAny_loadName_cell I.ok.kind hk f a b) hd
    . exact wpAny_Name (wpAny_loadName_free I.ok.kind hk f a b d) hd
theorem pe_int{i j pos}:PE X (.Constant (.int i) j pos) (tC (.int i)):=λ_ _ _ H _ I h=>wpAny_Constant_int ⟨.int i,H,I.tok _,⟨_,rfl⟩,h⟩
theorem pe_bl{b j pos}:PE X (.Constant (.bool b) j pos) (tC (.bl b)):=λ_ _ _ H _ I h=>Constant_bool ⟨.bl b,H,I,rfl,h⟩
theorem pe_non{j pos}:PE X (.Constant .none j pos) (tC .non):=λ_ _ _ H _ I h=>Constant_none ⟨.non,H,I,rfl,h⟩
theorem pe_str{x j pos}:PE X (.Constant (.str x) j pos) (tC (.str x)):=λ_ _ _ H _ I h=>Calls.Constant_str ⟨.str x,H,I.tok _,⟨_,rfl⟩,h⟩
def Gl(X:Cx)(x:Str):Prop:=X.env.kindOf x=some .globalImplicit
theorem ld_glob{E:vL->sH7->Prop}{O:St}{x:Str}{u:vL}{pos:Pos}(I:Inv X pQ O H s)(b:Gl X x)(a:X.mg x=some u)(h:Q u s)(hd:(x==("__debug__":Str))=false:=by decide):wpAny (model X.prog X.w) X.A (eval (.Name x pos) X.env) Q E s:=
  Calls.Name_function_global I.ok.kind b (Calls.loadGlobal_global (by rw[I.ok.glob];exact I.mod.glob.keeps I.bk) a h) hd
theorem ld_blt{E:vL->sH7->Prop}{O:St}{x:Str}{u:vL}{pos:Pos}(I:Inv X pQ O H s)(d:Gl X x)(c:X.mg x=none)(a:bootBuiltins x=some u)(h:Q u s)(b:x ≠ "__name__":=by decide)(hd:(x==("__debug__":Str))=false:=by decide):wpAny (model X.prog X.w) X.A (eval (.Name x pos) X.env) Q E s:=by
  obtain⟨g,f,e⟩:=I.mod.blt;exact Calls.Name_function_global I.ok.kind d (Calls.loadGlobal_builtin (by rw[I.ok.glob];exact I.mod.glob.keeps I.bk) c (by rw[I.ok.blt];exact f.keeps I.bk) ((e x b).trans a) h) hd
theorem pe_glob{x:Str}{v:V}{u:vL}{pos:Pos}(b:Gl X x)(a:X.mg x=some u)(r:RelV v u)(hd:(x==("__debug__":Str))=false:=by decide):PE X (.Name x pos) (tC v):=
  λ_ _ _ H _ I h=>ld_glob I b a ⟨v,H,I,r,h⟩ hd
theorem pe_bltn{x:Str}{v:V}{u:vL}{pos:Pos}(d:Gl X x)(c:X.mg x=none)(a:bootBuiltins x=some u)(r:RelV v u)(b:x ≠ "__name__":=by decide)(hd:(x==("__debug__":Str))=false:=by decide):PE X (.Name x pos) (tC v):=
  λ_ _ _ H _ I h=>ld_blt I d c a ⟨v,H,I,r,h⟩ b hd
variable{a:Expr}
def PC(X:Cx)(e:CmpOp)(a b:Expr)(t:TE):Prop:=
  ∀ (pQ:Li (Ad×Obj)) (s:sH7) (O:St) (H:Hp) (Q:VK),Inv X pQ O H s->t O H Q->
    wpAny (model X.prog X.w) X.A (eval a X.env) (λv d=>wpAny (model X.prog X.w) X.A (eval b X.env) (λu c=>wpAny (model X.prog X.w) X.A (compareOp e v u) (EP X pQ O Q) X.xe c) X.xe d) X.xe s
def tB(t:TE):TT:=λO H Q=>t O H λx a=>∃ c,x=.bl c/\Q c a
theorem pt_val{e:Expr}{t:TE}(h:PE X e t)(g:∀ a,isTrue e X.env a=(do let v <-a;standAt e.pos;holding [v] (truthy v)):=by intro _;rfl):PT X e (tB t):=by
  intro pQ s O H Q I f;refine isTrue_plain (thn (h pQ s O H _ I f) λv k ⟨x,j,i,b,c⟩=>?_) (g _)
  obtain⟨d,rfl,q⟩:=c;cases b;exact wpAny_truthy_bool ⟨j,i,q⟩
variable{tA tB':TT}{rest:Li Expr}
def tAnd(t u:TT):TT:=λO H Q=>t O H λc a=>if c=true then u O a Q else Q false a
def tOr(t u:TT):TT:=λO H Q=>t O H λc a=>if c=true then Q true a else u O a Q
def tNot(t:TT):TT:=λO H Q=>t O H λc a=>Q (!c) a
theorem pw_and1(b:PT X a tA):PW X (.BoolOp .And [a] pos) tA:=by
  intro d pQ s O H Q I h;refine isTrue_and (thn (b pQ s O H Q I h) λc f e=>?_)
  cases c with
  |true=>exact isTrue_and_nil e
  |false=>exact e
theorem pw_or1(b:PT X a tA):PW X (.BoolOp .Or [a] pos) tA:=by
  intro d pQ s O H Q I h;refine isTrue_or (thn (b pQ s O H Q I h) λc f e=>?_)
  cases c with
  |false=>exact isTrue_or_nil e
  |true=>exact e
theorem pw_and(k:PT X a tA)(j:PW X (.BoolOp .And (b :: rest) pos) tB'):PW X (.BoolOp .And (a :: b :: rest) pos) (tAnd tA tB'):=by
  intro g pQ s O H Q I h;refine isTrue_and (thn (k pQ s O H _ I h) λc i ⟨f,e,d⟩=>?_)
  cases c with
  |true=>exact j g pQ i O f Q e d
  |false=>exact⟨f,e,d⟩
theorem pw_or(k:PT X a tA)(j:PW X (.BoolOp .Or (b :: rest) pos) tB'):PW X (.BoolOp .Or (a :: b :: rest) pos) (tOr tA tB'):=by
  intro g pQ s O H Q I h;refine isTrue_or (thn (k pQ s O H _ I h) λc i ⟨f,e,d⟩=>?_)
  cases c with
  |true=>exact⟨f,e,d⟩
  |false=>exact j g pQ i O f Q e d
theorem pt_not(b:PT X a tA):PT X (.UnaryOp .Not a pos) (tNot tA):=by
  intro pQ s O H Q I h;exact isTrue_not (b pQ s O H (λc d=>Q (!c) d) I h)
def tAndV(ta tb:TE):TE:=λO H Q=>ta O H λx a=>∃ c,x=.bl c/\if c=true then tb O a Q else Q (.bl false) a
def tOrV(ta tb:TE):TE:=λO H Q=>ta O H λx a=>∃ c,x=.bl c/\if c=true then Q (.bl true) a else tb O a Q
def tNotV(ta:TE):TE:=λO H Q=>ta O H λx a=>∃ c,x=.bl c/\Q (.bl (!c)) a
theorem pe_one{op}{t:TE}(h:PE X a t):PE X (.BoolOp op [a] pos) t:=λpQ s O H Q I b=>BoolOp_one (h pQ s O H Q I b)
theorem pe_and(k:PE X a ta)(j:PE X (.BoolOp .And (b :: rest) pos) tb):PE X (.BoolOp .And (a :: b :: rest) pos) (tAndV ta tb):=by
  intro pQ s O H Q I h;refine BoolOp_and (thn (k pQ s O H _ I h) λv g ⟨x,f,e,i,d⟩=>?_)
  obtain⟨c,rfl,d⟩:=d;cases i;refine wpAny_truthy_bool ?_;cases c with
  |true=>exact j pQ g O f Q e d
  |false=>exact⟨.bl false,f,e,rfl,d⟩
theorem pe_or(k:PE X a ta)(j:PE X (.BoolOp .Or (b :: rest) pos) tb):PE X (.BoolOp .Or (a :: b :: rest) pos) (tOrV ta tb):=by
  intro pQ s O H Q I h;refine BoolOp_or (thn (k pQ s O H _ I h) λv g ⟨x,f,e,i,d⟩=>?_)
  obtain⟨c,rfl,d⟩:=d;cases i;refine wpAny_truthy_bool ?_;cases c with
  |false=>exact j pQ g O f Q e d
  |true=>exact⟨.bl true,f,e,rfl,d⟩
theorem pe_not(e:PE X a ta):PE X (.UnaryOp .Not a pos) (tNotV ta):=by
  intro pQ s O H Q I h;refine UnaryOp_ (thn (e pQ s O H _ I h) λv i ⟨x,g,f,d,b⟩=>?_)
  obtain⟨c,rfl,b⟩:=b;cases d;exact not_of (wpAny_truthy_bool ⟨.bl (!c),g,f,rfl,b⟩)
def tIf(t:TT)(ta tb:TE):TE:=λO H Q=>t O H λc a=>if c=true then ta O a Q else tb O a Q
theorem pe_ifExp{c:Expr}(j:PT X c tA)(l:PE X a ta)(k:PE X b tb):PE X (.IfExp c a b pos) (tIf tA ta tb):=by
  intro pQ s O H Q I h;refine wpAny_IfExp (thn (j pQ s O H _ I h) λd e ⟨i,g,f⟩=>?_)
  cases d with
  |true=>exact l pQ e O i Q g f
  |false=>exact k pQ e O i Q g f
end
def SqL(K:fG7)(H:Hp)(a:Ad)(xs:Li V):Prop:=
  Rd H a (.lst xs) \/
    ∃ (o:Obj) (its:Array vL) (n:Nat),K.lookup a=some o/\o.cls=.type "list"/\o.dict=none/\o.data=.seq its n/\its.size<=sizeLine/\Vals xs its.toList
def SqT(K:fG7)(H:Hp)(a:Ad)(xs:Li V):Prop:=
  Rd H a (.tup xs) \/
    ∃ (o:Obj) (its:Array vL) (n:Nat),K.lookup a=some o/\o.cls=.type "tuple"/\o.data=.seq its n/\its.size<=sizeLine/\Vals xs its.toList
noncomputable def absV:vL->Ot V
  |.none=>some .non
  |.bool b=>some (.bl b)
  |.int i _=>some (.int i)
  |.str x _=>some (.str x)
  |.bytes b _=>some (.byt b)
  |.float b _=>some (.flt b)
  |.ref a=>some (.ref a)
  |.type n=>some (.ty n)
  |_=>none
theorem RelV.abs{x:V}{u:vL}(r:RelV x u):absV u=some x:=by
  cases x with
  |non=>cases r;rfl
  |bl _=>cases r;rfl
  |int _=>obtain⟨t,rfl⟩:=r;rfl
  |str _=>obtain⟨t,rfl⟩:=r;rfl
  |byt _=>obtain⟨t,rfl⟩:=r;rfl
  |flt _=>obtain⟨t,rfl⟩:=r;rfl
  |ref _=>cases r;rfl
  |ty _=>cases r;rfl
variable{y:V}
theorem RelV.inj{x:V}{u:vL}(r:RelV x u)(q:RelV y u):x=y:=Option.some.inj (r.abs.symm.trans q.abs)
theorem Vals.inj:∀ {xs ys:Li V}{us:Li vL},Vals xs us->Vals ys us->xs=ys
  |_,_,_,.nil,.nil=>rfl
  |_,_,_,.cons r t,.cons a t'=>by rw[r.inj a,Vals.inj t t']
variable{K:fG7}
variable{O:St}{xs:Li V}
section
variable{ys:Li V}
theorem SqT.of(h:H a=some (.tup xs)):SqT K H a xs:=.inl (.inl h)
theorem Inv.list(I:Inv X pQ O H s)(h:SqL X.K H a xs):∃ its:Li vL,Vals xs its/\PlainL s.heap a its.toArray/\xs.length<=sizeLine:=by
  rcases h with h|⟨o,its,n,c,f,d,b,g,r⟩
  . obtain⟨z,its,n,r,e⟩:=h.ok I.hok
    exact⟨its,r,⟨_,n,e,rfl,rfl,rfl⟩,z⟩
  . refine⟨its.toList,r,⟨o,n,I.kIn a o c,f,d,by simpa using b⟩,?_⟩
    have e:=r.length;simp only[cX]at e;omega
theorem Inv.tuple(I:Inv X pQ O H s)(h:SqT X.K H a xs):∃ its:Li vL,Vals xs its/\IsTup s.heap a its.toArray/\xs.length<=sizeLine:=by
  rcases h with h|⟨o,its,n,c,d,b,f,r⟩
  . obtain⟨z,its,r,p⟩:=h.ok I.hok
    exact⟨its,r,p,z⟩
  . refine⟨its.toList,r,⟨o,I.kIn a o c,d,n,by simpa using b⟩,?_⟩
    have e:=r.length;simp only[cX]at e;omega
theorem Inv.list_inj(I:Inv X pQ O H s)(h:SqL X.K H a xs)(g:SqL X.K H a ys):xs=ys:=by
  obtain⟨its,r,⟨o,n,e,_,_,d⟩,_⟩:=I.list h;obtain⟨b,f,⟨j,k,c,_,_,d'⟩,_⟩:=I.list g;rw[e]at c;cases c
  rw[d]at d'
  injection d' with i _
  have:its=b:=by simpa using congrArg Array.toList i
  subst this;exact r.inj f
theorem Inv.tuple_inj(I:Inv X pQ O H s)(h:SqT X.K H a xs)(g:SqT X.K H a ys):xs=ys:=by
  obtain⟨its,r,⟨o,e,_,n,d⟩,_⟩:=I.tuple h;obtain⟨b,f,⟨j,c,_,k,d'⟩,_⟩:=I.tuple g;rw[e]at c;cases c
  rw[d]at d'
  injection d' with i _
  have:its=b:=by simpa using congrArg Array.toList i
  subst this;exact r.inj f
end
noncomputable abbrev Cx.wish(X:Cx)(E:vL->sH7->Prop):Cx:={ X with xe:=E }
noncomputable abbrev Cx.nox(X:Cx):Cx:=X.wish λ_ _=>False
theorem Cx.Ok.wish(ok:X.Ok)(E:vL->sH7->Prop):(X.wish E).Ok:=
  ⟨ok.mod,ok.kind,ok.glob,ok.blt,ok.above,ok.inj,ok.has,ok.cab,ok.hd,ok.frames,ok.stk,ok.exf,ok.bs,ok.bsz,ok.noex,ok.exfs,ok.funs,ok.frf⟩
theorem Cx.Ok.unwish{E:vL->sH7->Prop}(ok:(X.wish E).Ok):X.Ok:=
  ⟨ok.mod,ok.kind,ok.glob,ok.blt,ok.above,ok.inj,ok.has,ok.cab,ok.hd,ok.frames,ok.stk,ok.exf,ok.bs,ok.bsz,ok.noex,ok.exfs,ok.funs,ok.frf⟩
variable{E:vL->sH7->Prop}
theorem Inv.wish(I:Inv X pQ O H s)(E:vL->sH7->Prop):Inv (X.wish E) pQ O H s:=⟨I.ok.wish E,I.os,I.bare,I.base,I.loc,I.cell,I.free,I.freeC,I.pin,I.hok,I.len⟩
theorem Inv.unwish(I:Inv (X.wish E) pQ O H s):Inv X pQ O H s:=⟨I.ok.unwish,I.os,I.bare,I.base,I.loc,I.cell,I.free,I.freeC,I.pin,I.hok,I.len⟩
theorem SP.unwish{D:Ends}{f:Flow}(h:SP (X.wish E) pQ D f s'):SP X pQ D f s':=by
  cases f with
  |next=>obtain⟨a,b,I,q⟩:=h;exact⟨a,b,I.unwish,q⟩
  |brk=>obtain⟨a,b,I,q⟩:=h;exact⟨a,b,I.unwish,q⟩
  |cont=>obtain⟨a,b,I,q⟩:=h;exact⟨a,b,I.unwish,q⟩
  |ret u=>obtain⟨v,a,b,I,r,q⟩:=h;exact⟨v,a,b,I.unwish,r,q⟩
theorem PE.nox{e:Expr}{t:TE}(h:PE X.nox e t):PE X e t:=λpQ s O H Q I a=>
  aX (h pQ s O H Q (I.wish _) a) (λ_ _ ⟨v,c,b,r,q⟩=>⟨v,c,b.unwish,r,q⟩) λ_ _ z=>False.elim z
theorem PT.nox{e:Expr}{t:TT}(h:PT X.nox e t):PT X e t:=λpQ s O H Q I a=>
  aX (h pQ s O H Q (I.wish _) a) (λ_ _ ⟨c,b,q⟩=>⟨c,b.unwish,q⟩) λ_ _ z=>False.elim z
theorem PSs.nox{a:Li Stmt}{t:TS}(h:PSs X.nox a t):PSs X a t:=λpQ s O H D I b=>
  aX (h pQ s O H D (I.wish _) b) (λ_ _ q=>q.unwish) λ_ _ z=>False.elim z
variable{e:Expr}{te:TE}
section
variable{st:Stmt}{rest:Li Stmt}{t u:TS}
def tNext:TS:=λD O H=>D.nx O H
def tSeq(t u:TS):TS:=λD O H=>t { D with nx:=u D } O H
theorem pss_nil:PSs X [] tNext:=λ_ _ O H _ I h=>wpAny_execs_nil ⟨O,H,I,h⟩
theorem pss_cons(c:PS X st t)(b:PSs X rest u):PSs X (st :: rest) (tSeq t u):=by
  intro pQ s O H D I h;refine wpAny_execs_cons (thn (c pQ s O H { D with nx:=u D } I h) λf a q=>?_)
  cases f with
  |next=>
    obtain⟨d,g,e,q⟩:=q;exact b pQ a d g D e q
  |ret v=>exact q
  |brk=>exact q
  |cont=>exact q
theorem pss_one(a:PS X st t):PSs X [st] t:=by
  intro pQ s O H D I h;refine wpAny_execs_cons (thn (a pQ s O H D I h) λf b q=>?_)
  cases f with
  |next=>exact wpAny_execs_nil q
  |ret v=>exact q
  |brk=>exact q
  |cont=>exact q
def tBreak:TS:=λD O H=>D.bk O H
def tCont:TS:=λD O H=>D.ct O H
theorem ps_pass:PS X (.Pass pos) tNext:=λ_ _ O H _ I h=>wpAny_Pass ⟨O,H,I,h⟩
theorem ps_break:PS X (.Break pos) tBreak:=λ_ _ O H _ I h=>wpAny_Break ⟨O,H,I,h⟩
theorem ps_continue:PS X (.Continue pos) tCont:=λ_ _ O H _ I h=>wpAny_Continue ⟨O,H,I,h⟩
theorem Inv.quiet{O:St}(I:Inv X pQ O H s):interactive X.env=false:=by simp[interactive,I.ok.kind]
def tDrop(te:TE):TS:=λD O H=>te O H λ_ a=>D.nx O a
theorem ps_expr(c:PE X e te)(b:swapsWith e none pos.line X.env=pure false:=by rfl):PS X (.Expr e pos) (tDrop te):=by
  intro pQ s O H D I h;exact wpAny_Expr_any (thn (c pQ s O H _ I h) λv g ⟨x,f,d,i,a⟩=>⟨O,f,d,a⟩) I.quiet b
def tRet(te:TE):TS:=λD O H=>te O H D.rt
theorem ps_ret(c:PE X e te):PS X (.Return (some e) pos) (tRet te):=by
  intro pQ s O H D I h;exact wpAny_Return_some (thn (c pQ s O H _ I h) λv g ⟨x,f,d,a,b⟩=>⟨x,O,f,d,a,b⟩)
def tIfS(c:TT)(t u:TS):TS:=λD O H=>c O H λb a=>if b=true then t D O a else u D O a
theorem ps_if{c:Expr}{a b:Li Stmt}{e:TT}(k:PT X c e)(m:PSs X a t)(l:PSs X b u):PS X (.If c a b pos) (tIfS e t u):=by
  intro pQ s O H D I h;refine wpAny_If (thn (k pQ s O H _ I h) λd f ⟨j,i,g⟩=>?_)
  cases d with
  |true=>exact m pQ f O j D i g
  |false=>exact l pQ f O j D i g
def tNever:TS:=λ_ _ _=>False
theorem pss_never{a:Li Stmt}:PSs X a tNever:=λ_ _ _ _ _ _ h=>h.elim
end
abbrev TG:=V->St->Hp->(St->Hp->Prop)->Prop
abbrev TGs:=Li V->St->Hp->(St->Hp->Prop)->Prop
def PG(X:Cx)(a:Expr)(t:TG):Prop:=
  ∀ (pQ:Li (Ad×Obj)) (s:sH7) (O:St) (H:Hp) (v:V) (u:vL) (Q:St->Hp->Prop),Inv X pQ O H s->RelV v u->t v O H Q->
    wpAny (model X.prog X.w) X.A (assign a X.env u) (λ_ s'=>∃ b c,Inv X pQ b c s'/\Q b c) X.xe s
def PGs(X:Cx)(c:Li Expr)(t:TGs):Prop:=
  ∀ (pQ:Li (Ad×Obj)) (s:sH7) (O:St) (H:Hp) (vs:Li V) (us:Li vL) (Q:St->Hp->Prop),Inv X pQ O H s->Vals vs us->t vs O H Q->
    wpAny (model X.prog X.w) X.A (assignInOrder ((assignEach c X.env).map (·.2)) us) (λ_ s'=>∃ a b,Inv X pQ a b s'/\Q a b) X.xe s
abbrev TSet:=V->V->V->Hp->(Hp->Prop)->Prop
def PSet(X:Cx)(t:TSet):Prop:=
  ∀ (pQ:Li (Ad×Obj)) (s:sH7) (O:St) (H:Hp) (o i v:V) (ov iv u:vL) (Q:Hp->Prop),Inv X pQ O H s->RelV o ov->RelV i iv->RelV v u->t o i v H Q->
    wpAny (model X.prog X.w) X.A (setItem ov iv u) (λ_ s'=>∃ a,Inv X pQ O a s'/\Q a) X.xe s
variable{es:Li Expr}{n:Nat}{tg:Expr}
def gName(i:Nat):TG:=λv O H Q=>Q (O.set i (some v)) H
theorem pg_name{x:Str}(hN:X.N.Nodup)(b:X.N[i]?=some x)(a:Loc X.env.scope x)(c:X.fn x=true\/X.env.scope.names.lookup x=some .local:=by first|exact .inl rfl|exact .inr rfl|assumption):PG X (.Name x pos) (gName i):=by
  intro pQ s O H v u Q I r h;exact wpAny_assign_Name (store_ok I hN b a r (λs' d=>⟨_,H,d,h⟩) c)
def gNil:TGs:=λa O H Q=>a=[]/\Q O H
def gCons(t:TG)(u:TGs):TGs:=λa O H Q=>∃ v r,a=v :: r/\t v O H λb c=>u r b c Q
theorem pgs_nil:PGs X [] gNil:=by
  intro pQ s O H a us Q I r h;obtain⟨e,h⟩:=h;subst e;cases r;exact assignInOrder_nil ⟨O,H,I,h⟩
theorem pgs_cons{e:Expr}{t:TG}{u:TGs}(i:PG X e t)(g:PGs X es u)(f:(assignEach (e :: es) X.env).map (·.2)=assign e X.env :: (assignEach es X.env).map (·.2):=by rfl):PGs X (e :: es) (gCons t u):=by
  intro pQ s O H m us Q I r h;obtain⟨v,n,j,h⟩:=h;subst j;cases r with
  |cons r c=>
    rw[f];refine assignInOrder_cons (thn (i pQ s O H _ _ _ I r h) λ_ b ⟨a,l,k,d⟩=>?_)
    exact g pQ b a l _ _ Q k c d
def gTup(K:fG7)(n:Nat)(t:TGs):TG:=λv O H Q=>∃ a xs,v=.ref a/\SqT K H a xs/\xs.length=n/\t xs O H Q
theorem pg_tup{k:Nat}{t:TGs}(p:X.calm=true)(h:PGs X es t)(l:(assignEach es X.env).length=n:=by rfl)(d:(assignEach es X.env).findIdx? (·.1)=none:=by rfl):PG X (.Tuple es k pos) (gTup X.K n t):=by
  intro pQ s O H v u Q I r c;obtain⟨a,xs,w,j,m,c⟩:=c;subst w;cases r;obtain⟨its,f,i,y⟩:=I.tuple j;refine assign_Tuple_tuple (I.ok.hd p) i (by simp[l,<-m,f.length]) d λq g=>?_
  have x:Inv X pQ O H { s with heap:=q }:=I.kept (t':=s.toks) λb o e=>g b o (aW (aI e)) e
  exact h pQ _ O H xs _ Q x (by simpa using f) c
def gSub(a b:TE)(t:TSet):TG:=λv O H Q=>a O H λo e=>b O e λi d=>t o i v d λc=>Q O c
theorem pg_sub{o i:Expr}{c d:TE}{t:TSet}(p:PE X o c)(q:PE X i d)(n:PSet X t)(w:∀ v,assign (.Subscript o i pos) X.env v=(do
      let a <-holding [v] (eval o X.env)
      let b <-holding [v,a] (eval i X.env)
      standAt pos
      holding [v,a,b] (setItem a b v)
      release [v,a,b] []):=by intro _;rfl):PG X (.Subscript o i pos) (gSub c d t):=by
  intro pQ s O H v u Q I r h;rw[w];refine aA (wpAny_holding (thn (p pQ s O H _ I h) λa f ⟨x,E,B,j,m⟩=>?_))
  refine aA (wpAny_holding (thn (q pQ f O E _ B m) λb e ⟨y,D,A,g,l⟩=>?_))
  refine aA (wpAny_standAt (aA (wpAny_holding (thn (n pQ e O D x y v a b u _ A j g r l) λ_ F ⟨C,z,k⟩=>?_))))
  exact wpAny_release ⟨O,C,z,k⟩
def tAsg(te:TE)(g:TG):TS:=λD O H=>te O H λx a=>g x O a D.nx
theorem ps_asg{e:Expr}{te:TE}{g:TG}(j:PE X e te)(i:PG X tg g)(f:swapsWithSole [tg] e pos.line X.env=pure false:=by rfl)(d:swappedStores [tg] e X.env=pure none:=by rfl)(k:(assignEach [tg] X.env).map (·.2)=[assign tg X.env]:=by rfl):PS X (.Assign [tg] e pos) (tAsg te g):=by
  intro pQ s O H D I h;refine wpAny_Assign_stores (thn (j pQ s O H _ I h) λv a ⟨x,m,l,b,c⟩=>?_) f d
  rw[k];exact thn (i pQ a O m x v _ l b c) λ_ n q=>q
theorem ps_set{x:Str}{e:Expr}{te:TE}{a:Pos}(hN:X.N.Nodup)(g:X.N[i]?=some x)(d:Loc X.env.scope x)(k:PE X e te)(f:swapsWith e (some (.Name x a)) pos.line X.env=pure false:=by rfl)(j:X.fn x=true\/X.env.scope.names.lookup x=some .local:=by first|exact .inl rfl|exact .inr rfl|assumption) :
    PS X (.Assign [.Name x a] e pos) (tAsg te (gName i)):=by
  intro pQ s O H D I h;refine wpAny_Assign_Name (thn (k pQ s O H _ I h) λv p ⟨y,n,m,b,c⟩=>?_) f
  exact store_ok m hN g d b (λo l=>⟨_,n,l,c⟩) j
variable{body:Li Stmt}
def tWhile(c:TT)(g:TS):TS:=λD O H=>∃ W:Nat->St->Hp->Prop,(∃ m,W m O H)/\∀ m O H,W m O H->
  c O H λb e=>if b=true then ∃ N:St->Hp->Prop,(∀ d f,N d f->∃ a,a < m/\W a d f)/\g { D with nx:=N,ct:=N,bk:=D.nx } O e else D.nx O e
theorem ps_while{c:Expr}{p:TT}{q:TS}(r:PassesOwn (model X.prog X.w) X.A X.env X.xe)(K:PT X c p)(L:PSs X body q):PS X (.While c body [] pos) (tWhile p q):=by
  intro pQ s O H D I h;obtain⟨W,⟨J,E⟩,turn⟩:=h;refine wpAny_While (codeAny_whileLoop (λn s'=>∃ u B,Inv X pQ u B s'/\W n u B) ?_ J ⟨O,H,I,E⟩)
  rintro n G ⟨d,z,M,C⟩
  refine wpAny_passesOwn r (thn (K pQ G d z _ M (turn n d z C)) λb F ⟨y,x,i⟩=>?_)
  cases b with
  |true=>
    obtain⟨N,t,i⟩:=i;rw[if_pos rfl];refine wpAny_passesOwn r (thn (L pQ F d y _ x i) λf P g=>?_)
    cases f with
    |next=>
      obtain⟨a,e,o,k⟩:=g;obtain⟨l,m,j⟩:=t a e k;exact⟨l,m,a,e,o,j⟩
    |cont=>
      obtain⟨a,e,o,k⟩:=g;obtain⟨l,m,j⟩:=t a e k;exact⟨l,m,a,e,o,j⟩
    |brk=>exact g
    |ret v=>exact g
  |false=>
    rw[if_neg bF7];exact wpAny_execs_nil ⟨d,y,x,i⟩
structure It where
  go:Nat->Hp->Prop
  yld:Nat->Hp->V->Hp->Prop
  stop:Nat->Hp->Prop
def FpOk(X:Cx)(pQ:Li (Ad×Obj))(H:Hp)(b:Ad):Prop:=
  H b=none/\b≠X.env.locals/\b∉X.fs/\(b∈X.ex\/X.s₀.heap.objs.size<=b)/\(∀ x c,X.env.cells.lookup x=some c->c≠b)/\∀ p∈X.pn++pQ,p.1≠b
theorem Inv.fpOk{O:St}{d:Hp}{b:Ad}(I:Inv X pQ O H s)(a:s.heap.objs.size<=b)(g:d b=none):FpOk X pQ d b:=by
  refine⟨g,Nat.ne_of_gt (aS I.lt a),I.nofs a,.inr (aP I.sz a),λx c e z=>?_,λp f z=>?_⟩
  . obtain⟨v,q⟩:=I.cell x c e
    exact absurd (aS q.lt (by rw[z];exact a)) (bL _)
  . exact absurd (aS (aI (I.pin p f).1) (by rw[z];exact a)) (bL _)
structure Turn(P:Program)(w:World)(K:fG7)(tg:Expr)(J:It)(fp:List Addr)(it:Addr)(tn:Nat->Heap->Prop):Prop where
  mem:it∈fp
  obj:∀ i h,tn i h->∀ b∈fp,∃ o,h.get? b=some o/\∀ v,o.data≠.cell v
  keep:∀ i h h',tn i h->(∀ b∈fp,∀ o,h.get? b=some o->h'.get? b=some o)->tn i h'
  item:∀ (X:Cx),X.prog=P->X.w=w->X.K=K->X.calm=true->∀ (i:Nat) (pQ:List (Addr×Obj)) (s:Shared) (O:St) (H:Hp) (E:Value->Shared->Prop),Inv X pQ O H s->(∀ b∈fp,FpOk X pQ H b)->tn i s.heap->J.go i H->
    wpAny (model P w) X.A (pyNext (.ref it)) (λr s1=>∃ u,r=some u /\
      wpAny (model P w) X.A (letOwnedTupleGo tg (.ref it) u) (λ_ s2=>∃ x H',Inv X pQ O H' s2/\RelV x u/\J.yld i H x H'/\tn (i+1) s2.heap/\∀ b∈fp,H' b=none) E s1) E s
  done:∀ (X:Cx),X.prog=P->X.w=w->X.K=K->X.calm=true->∀ (i:Nat) (pQ:List (Addr×Obj)) (s:Shared) (O:St) (H:Hp) (E:Value->Shared->Prop),Inv X pQ O H s->(∀ b∈fp,FpOk X pQ H b)->tn i s.heap->J.stop i H->
    wpAny (model P w) X.A (pyNext (.ref it)) (λr s1=>r=none/\Inv X pQ O H s1) E s
  self:∀ (A:Around) (i:Nat) (s:Shared) (Q:Value->Shared->Prop) (E:Value->Shared->Prop),tn i s.heap->Q (.ref it) s->wpAny (model P w) A (pyIter (.ref it)) Q E s
abbrev TI:=St->Hp->(It->Hp->Prop)->Prop
def PIE(X:Cx)(pQ:Li (Ad×Obj))(O:St)(tg:Expr)(R:It->Hp->Prop)(a:vL)(c:sH7):Prop:=
  ∃ (it:Ad) (fp:Li Ad) (tn:Nat->Heap->Prop) (J:It) (H':Hp),a=.ref it/\Inv X pQ O H' c/\Turn X.prog X.w X.K tg J fp it tn/\tn 0 c.heap/\(∀ b∈fp,FpOk X pQ H' b)/\R J H'
def PI(X:Cx)(tg a:Expr)(b:TI):Prop:=
  ∀ (pQ:Li (Ad×Obj)) (s:sH7) (O:St) (H:Hp) (R:It->Hp->Prop),Inv X pQ O H s->b O H R->
    wpAny (model X.prog X.w) X.A (eval a X.env) (λv c=>wpAny (model X.prog X.w) X.A (pyIter v) (PIE X pQ O tg R) X.xe c) X.xe s
theorem go_of{E:vL->sH7->Prop}{c:Ad}{u:vL}{o:Obj}{n:String}{b:Array vL}{Q:Unit->sH7->Prop}(d:s.heap.get? c=some o)(f:o.cls=.type n)(hd:o.data=.fields b)(e:["enumerate", "zip", "dict_itemiterator", "dict_reverseitemiterator", "odict_iterator", "itertools.zip_longest", "itertools.pairwise"].contains n=false)(a:Q () s):wpAny M A (letOwnedTupleGo tg (.ref c) u) Q E s:=by
  unfold letOwnedTupleGo;cases tg<;>first
    |exact aB a
    | (cases u<;>first
        |exact aB a
        | (refine aA (wpAny_load d ?_)
           rw[f,hd];show wpAny M A (if (["enumerate", "zip", "dict_itemiterator", "dict_reverseitemiterator", "odict_iterator", "itertools.zip_longest", "itertools.pairwise"].contains n&&b[0]?==some (rawInt _))=true then _ else _) Q E s
           rw[if_neg (by intro h;rw[e,Bool.false_and]at h;cases h)]
           exact aB a))
noncomputable def Itl(K:fG7)(a:Ad):It:=
  ⟨λi H=>∃ xs x,SqL K H a xs/\xs[i]?=some x,λi H x b=>b=H/\∀ xs,SqL K H a xs->xs[i]?=some x,λi H=>∃ xs,SqL K H a xs/\xs.length<=i⟩
noncomputable def Itt(K:fG7)(a:Ad):It:=
  ⟨λi H=>∃ xs x,SqT K H a xs/\xs[i]?=some x,λi H x b=>b=H/\∀ xs,SqT K H a xs->xs[i]?=some x,λi H=>∃ xs,SqT K H a xs/\xs.length<=i⟩
noncomputable def Itr(a:Int)(n:Nat):It:=⟨λi _=>i < n,λi H x b=>b=H/\x=.int (a+i),λi _=>n<=i⟩
theorem turn_list{P:Program}(a g:Ad):Turn P w K tg (Itl K a) [g] g (λi h=>h.IsListIter g a i) where
  mem:=by simp
  obj:=λi h f b j=>by
    have e:b=g:=by simpa using j
    subst e;obtain⟨o,e,c,d⟩:=f;exact⟨o,e,λv z=>by rw[d]at z;cases z⟩
  keep:=λi h q f k=>f.at λo e=>k g (by simp) o e
  item:=by
    intro X B y C J i pQ s O H E I n f A;subst B y C;obtain⟨xs,x,m,t⟩:=A;obtain⟨its,r,p,N⟩:=I.list m;obtain⟨u,R,M⟩:=r.get t;obtain⟨f0,f1,S,G,F,D⟩:=n g (by simp)
    refine wpAny_pyNext_list_item f p.isList (x:=u) (by simpa using R) λq l L=>?_
    have U:Inv X pQ O H { s with heap:=q }:=I.turned (t':=s.toks) (λb o j e=>(L.2 b j).trans e) f0 f1 G F D
    obtain⟨o,e,c,d⟩:=id l;exact⟨u,rfl,go_of (s:={ s with heap:=q }) e c d (by decide) ⟨x,H,U,M,⟨rfl,λV Q=>by rw[I.list_inj Q m];exact t⟩,l,λb j=>(n b j).1⟩⟩
  done:=by
    intro X B y C J i pQ s O H E I n f A;subst B y C;obtain⟨xs,m,t⟩:=A;obtain⟨its,r,p,N⟩:=I.list m;obtain⟨f0,f1,S,G,F,D⟩:=n g (by simp)
    have W:=r.length;exact wpAny_pyNext_list_end (I.ok.hd J) f p.isList (by simp;omega) λq T=>⟨rfl,I.turned (t':=s.toks) (λb o j e=>T b o j e) f0 f1 G F D⟩
  self:=λ_ _ _ _ _ f h=>wpAny_pyIter_listiter f h
theorem turn_tuple{P:Program}(a g:Ad):Turn P w K tg (Itt K a) [g] g (λi h=>h.IsTupleIter g a i) where
  mem:=by simp
  obj:=λi h f b j=>by
    have e:b=g:=by simpa using j
    subst e;obtain⟨o,e,c,d⟩:=f;exact⟨o,e,λv z=>by rw[d]at z;cases z⟩
  keep:=λi h q f k=>f.at λo e=>k g (by simp) o e
  item:=by
    intro X B y C J i pQ s O H E I n f A;subst B y C;obtain⟨xs,x,m,t⟩:=A;obtain⟨its,r,p,N⟩:=I.tuple m;obtain⟨u,R,M⟩:=r.get t;obtain⟨f0,f1,S,G,F,D⟩:=n g (by simp)
    refine wpAny_pyNext_tuple_item f (show s.heap.IsTuple a its.toArray from p) (x:=u) (by simpa using R) λq l L=>?_
    have U:Inv X pQ O H { s with heap:=q }:=I.turned (t':=s.toks) (λb o j e=>(L.2 b j).trans e) f0 f1 G F D
    obtain⟨o,e,c,d⟩:=id l;exact⟨u,rfl,go_of (s:={ s with heap:=q }) e c d (by decide) ⟨x,H,U,M,⟨rfl,λV Q=>by rw[I.tuple_inj Q m];exact t⟩,l,λb j=>(n b j).1⟩⟩
  done:=by
    intro X B y C J i pQ s O H E I n f A;subst B y C;obtain⟨xs,m,t⟩:=A;obtain⟨its,r,p,N⟩:=I.tuple m;obtain⟨f0,f1,S,G,F,D⟩:=n g (by simp)
    have W:=r.length;exact wpAny_pyNext_tuple_end (I.ok.hd J) f (show s.heap.IsTuple a its.toArray from p) (by simp;omega) λq T=>⟨rfl,I.turned (t':=s.toks) (λb o j e=>T b o j e) f0 f1 G F D⟩
  self:=λ_ _ _ _ _ f h=>wpAny_pyIter_tupleiter f h
theorem turn_range{P:Program}(c:Ad)(g:Int)(n:Nat):Turn P w K tg (Itr g n) [c] c (λi h=>IsRangeIter h c (g+(i:Nat) * 1) ((n:Int) - (i:Nat)) 1) where
  mem:=by simp
  obj:=λi h a b d=>by
    have e:b=c:=by simpa using d
    subst e;exact⟨_,a,λv z=>by
      have C:Data.fields _=Data.cell v:=z;cases C⟩
  keep:=λi h l a k=>k c (by simp) _ a
  item:=by
    intro X r m u q i pQ s O H E I j a p;subst r m u;obtain⟨f0,f1,G,A,y,x⟩:=j c (by simp)
    have W:=Walks.range (prog:=X.prog) (w:=X.w) (I.ok.hd q) c g 1 n;refine W.item i s _ _ p a λv l B F f D=>?_
    obtain⟨t,rfl⟩:=F;have L:Inv X pQ O H { s with heap:=l,toks:=B }:=I.turned (λb o d e=>D b o (by simpa using d) e) f0 f1 A y x
    refine⟨_,rfl,go_of (s:={ s with heap:=l,toks:=B }) (n := "range_iterator") f rfl rfl (by decide) ⟨.int (g+i),H,L,⟨t,?_⟩,⟨rfl,rfl⟩,f,λb d=>(j b d).1⟩⟩
    rw[Int.mul_one]
  done:=by
    intro X r m u q i pQ s O H E I j a p;subst r m u;obtain⟨f0,f1,G,A,y,x⟩:=j c (by simp)
    exact wpAny_pyNext_range_end (I.ok.hd q) a (by have:n<=i:=p;omega) λl J=>⟨rfl,I.turned (t':=s.toks) (λb o d e=>J b o d e) f0 f1 A y x⟩
  self:=λ_ _ _ _ _ a h=>wpAny_pyIter_rangeiter a h
variable{l:Expr}{lo:Int}{fp:Li Ad}
variable{tg:Expr}
def iList(K:fG7)(tl:TE):TI:=λO H R=>tl O H λx b=>∃ a,x=.ref a/\(∃ xs,SqL K b a xs)/\R (Itl K a) b
def iTup(K:fG7)(tl:TE):TI:=λO H R=>tl O H λx b=>∃ a,x=.ref a/\(∃ xs,SqT K b a xs)/\R (Itt K a) b
theorem pi_list{tl:TE}(j:PE X l tl):PI X tg l (iList X.K tl):=by
  intro pQ s O H R I h;refine thn (j pQ s O H _ I h) λv c ⟨x,m,d,f,g⟩=>?_
  obtain⟨a,e,⟨xs,i⟩,q⟩:=g;subst e;cases f;obtain⟨its,n,p,r⟩:=d.list i;refine wpAny_pyIter_list p.isList ?_;refine⟨c.heap.objs.size,[c.heap.objs.size],_,_,m,rfl,d.kept (t':=c.toks) λb o e=>aO _ e,turn_list a _,⟨_,aY _ rfl,rfl,rfl⟩,λb k=>?_,q⟩
  have e:b=c.heap.objs.size:=by simpa using k
  subst e;exact d.fpOk (aD _) (d.hok.fresh (aD _))
theorem pi_tup{tl:TE}(j:PE X l tl):PI X tg l (iTup X.K tl):=by
  intro pQ s O H R I h;refine thn (j pQ s O H _ I h) λv c ⟨x,m,d,f,g⟩=>?_
  obtain⟨a,e,⟨xs,i⟩,q⟩:=g;subst e;cases f;obtain⟨its,n,p,r⟩:=d.tuple i;refine wpAny_pyIter_tuple (show c.heap.IsTuple a its.toArray from p) ?_;refine⟨c.heap.objs.size,[c.heap.objs.size],_,_,m,rfl,d.kept (t':=c.toks) λb o e=>aO _ e,turn_tuple a _,⟨_,aY _ rfl,rfl,rfl⟩,λb k=>?_,q⟩
  have e:b=c.heap.objs.size:=by simpa using k
  subst e;exact d.fpOk (aD _) (d.hok.fresh (aD _))
theorem range_it{O:St}{R:It->Hp->Prop}{E:vL->sH7->Prop}{a:Int}{t u v:Tok}{c:Nat}(I:Inv X pQ O H s)(j:-(2 ^ 62)<=lo)(i:lo < 2 ^ 62)(h:-(2 ^ 62)<=a)(g:a < 2 ^ 62)(q:R (Itr lo (a - lo).toNat) H):wpAny (model X.prog X.w) X.A (pyIter (.ref s.heap.objs.size)) (PIE X pQ O tg R) E { s with heap:=s.heap.push { cls:=.type "range",data:=.fields #[.int lo t,.int a u,.int 1 v] },toks:=c }:=by
  refine wpAny_pyIter_range (IsRange.new ..) (small_one j i h g) ?_;have d:Inv X pQ O H { s with heap:=s.heap.push { cls:=.type "range",data:=.fields #[.int lo t,.int a u,.int 1 v] },toks:=c }:=I.kept λb o e=>aO _ e
  refine⟨(s.heap.push { cls:=.type "range",data:=.fields #[.int lo t,.int a u,.int 1 v] }).objs.size,[(s.heap.push { cls:=.type "range",data:=.fields #[.int lo t,.int a u,.int 1 v] }).objs.size],_,_,H,rfl,
    d.kept (t':=c) λb o e=>aO _ e,turn_range _ lo (a - lo).toNat,?_,λb f=>?_,q⟩
  . have l:lo+((0:Nat):Int) * 1=lo:=by simp
    have k:(((a - lo).toNat:Nat):Int) - ((0:Nat):Int)=Builtin.Range.rangeSize lo a 1:=by rw[rangeSize_one];split<;>omega
    show IsRangeIter _ _ (lo+((0:Nat):Int) * 1) ((((a - lo).toNat:Nat):Int) - ((0:Nat):Int)) 1;rw[l,k];exact aY _ rfl
  . have e:b=(s.heap.push { cls:=.type "range",data:=.fields #[.int lo t,.int a u,.int 1 v] }).objs.size:=by simpa using f
    subst e;exact d.fpOk (aD _) (d.hok.fresh (aD _))
def iRng1(b:TA):TI:=λO H R=>b O H λa c=>∃ j:Int,a=[.int j]/\-(2 ^ 62)<=j/\j < 2 ^ 62/\R (Itr 0 j.toNat) c
theorem pi_range1{a:Expr}{c:TA}{p pos:Pos}(l:Gl X "range")(k:X.mg "range"=none)(m:PA X [a] c)(i:starEach [a] X.env=[(false,eval a X.env)]:=by rfl):PI X tg (.Call (.Name "range" p) [a] [] pos) (iRng1 c):=by
  intro pQ s O H R I h;refine Call_ (ld_blt I l k boot_range (PyProof.Rows.callWith_type1 (thn (m pos pQ s O H _ I h) λus u ⟨o,v,n,f,b⟩=>?_) i rfl))
  obtain⟨j,e,b,g,q⟩:=b;subst e;cases f with
  |cons r d=>
    cases d;obtain⟨t,rfl⟩:=r;exact call_range_1 (range_it n (by omega) (by omega) b g (by simpa using q))
def tFor(e:TI)(g:TG)(f:TS):TS:=λD O H=>e O H λJ j=>∃ W:Nat->Nat->St->Hp->Prop,(∃ m,W 0 m O j)/\∀ i m O H,W i m O H->
  (J.stop i H/\D.nx O H)\/(J.go i H/\∃ N:St->Hp->Prop,(∀ d a,N d a->∃ c,c < m/\W (i+1) c d a)/\∀ x a,J.yld i H x a->g x O a λb h=>f { D with nx:=N,ct:=N,bk:=D.nx } b h)
noncomputable def pinsAt(fp:Li Ad)(h:Heap):Li (Ad×Obj):=fp.filterMap λb=>(h.get? b).map λo=>(b,o)
theorem mem_pinsAt{b:Ad}{o:Obj}(a:b∈fp)(e:h.get? b=some o):(b,o)∈pinsAt fp h:=List.mem_filterMap.mpr ⟨b,a,by rw[e];rfl⟩
theorem of_pinsAt{p:Ad×Obj}(a:p∈pinsAt fp h):p.1∈fp/\h.get? p.1=some p.2:=by
  obtain⟨b,c,e⟩:=List.mem_filterMap.mp a;cases q:h.get? b with
  |none=>rw[q]at e;cases e
  |some o=>
    rw[q]at e;have d:(b,o)=p:=Option.some.inj e;subst d;exact⟨c,q⟩
theorem Inv.pinned{O:St}{fp:Li Ad}(I:Inv X pQ O H s)(h:∀ b∈fp,FpOk X pQ H b)(g:∀ b∈fp,∃ o,s.heap.get? b=some o/\∀ v,o.data≠.cell v):Inv X (pQ++pinsAt fp s.heap) O H s:=
  I.pins_of λp f=>(aU.mp f).elim (λz=>I.pin p (cH _ z)) λz=>by
    obtain⟨a,e⟩:=of_pinsAt z;obtain⟨f0,f1,i,_⟩:=h p.1 a;obtain⟨o,c,d⟩:=g p.1 a;rw[e]at c;cases c
    exact⟨e,f0,f1,i,d⟩
theorem Inv.unpinned{a:Li (Ad×Obj)}{O:St}(I:Inv X (pQ++a) O H s):Inv X pQ O H s:=I.pins_of λp b=>I.pin p (cH _ (List.mem_append_left _ b))
theorem ps_for{k:Expr}{V:TI}{g:TG}{Z:TS}{pos:Pos}(F:PassesOwn (model X.prog X.w) X.A X.env X.xe)(hc:X.calm=true)(hi:PI X tg k V)(hg:PG X tg g)(l:PSs X body Z)(hs:∀ x,foldedSetIterable k X.env x=pure x:=by intro _;rfl):PS X (.For tg k body [] pos) (tFor V g Z):=by
  intro pQ s O H D I h;refine wpAny_For (thn (hi pQ s O H _ I h) λv s1 h1=>thn h1 λitv s2 h2=>?_) hs
  obtain⟨it,fp,Y,J,H2,e,I2,T,P,f2,W,⟨m0,w0⟩,turn⟩:=h2;subst e
  -- what stays true of the iterator's objects through the loop
  have j:∀ {y:Hp},(∀ b∈fp,y b=none)->∀ b∈fp,FpOk X pQ y b:=λhn b l=>⟨hn b l,(f2 b l).2⟩
  refine codeAny_forLoop_any (λn s'=>∃ i K y,Inv X pQ K y s'/\Y i s'.heap/\(∀ b∈fp,y b=none)/\W i n K y) ?_ m0 ⟨0,O,H2,I2,P,λb l=>(f2 b l).1,w0⟩
  rintro n s3 ⟨i,c,L,I3,C,G,w3⟩
  rcases turn i n c L w3 with⟨stop,qn⟩|⟨go,N,hN,step⟩
  . refine wpAny_passesOwn F (thn (T.done X rfl rfl rfl hc i pQ s3 c L X.xe I3 (j G) C stop) λr s4 ⟨R,I4⟩=>?_)
    subst R;exact wpAny_execs_nil ⟨c,L,I4,qn⟩
  . refine wpAny_passesOwn F (thn (T.item X rfl rfl rfl hc i pQ s3 c L X.xe I3 (j G) C go) λr s4 ⟨u,R,h4⟩=>?_)
    subst R;refine wpAny_passesOwn F (thn h4 λ_ s5 ⟨x,H5,I5,r5,y5,B,S⟩=>?_)
    have U:=I5.pinned (j S) (T.obj _ _ B);refine wpAny_passesOwn F (thn (hg _ s5 c H5 x u _ U r5 (step x H5 y5)) λ_ s6 ⟨M,H6,I6,q6⟩=>?_)
    refine wpAny_passesOwn F (thn (l _ s6 M H6 _ I6 q6) λf Q z=>?_)
    have p:∀ {a:St}{t:Hp},Inv X (pQ++pinsAt fp s5.heap) a t Q->N a t->∃ m,m < n/\∃ i K y,Inv X pQ K y Q/\Y i Q.heap/\(∀ b∈fp,y b=none)/\W i m K y:=λ{a t} q E=>by
      obtain⟨m',hm,w7⟩:=hN a t E;refine⟨m',hm,i+1,a,t,q.unpinned,T.keep _ _ _ B λb l o e=>(q.pin (b,o) (cH _ (cH _ (mem_pinsAt l e)))).1,λb l=>?_,w7⟩
      obtain⟨o,e,d⟩:=T.obj _ _ B b l;exact(q.pin (b,o) (cH _ (cH _ (mem_pinsAt l e)))).2.1
    cases f with
    |next=>obtain⟨a,t,q,E⟩:=z;exact p q E
    |cont=>obtain⟨a,t,q,E⟩:=z;exact p q E
    |brk=>obtain⟨a,t,q,z⟩:=z;exact⟨a,t,q.unpinned,z⟩
    |ret v=>obtain⟨x7,a,t,q,r7,z⟩:=z;exact⟨x7,a,t,q.unpinned,r7,z⟩
theorem for_tup{a:Ad}{g:TG}{k:TS}{D:Ends}{O:St}{H:Hp}(b:Nat->St->Hp->Prop)(t:b 0 O H)(r:∀ i O H,i<=xs.length->b i O H->SqT K H a xs)(o:∀ i x O H,xs[i]?=some x->b i O H->g x O H λc j=>k { D with nx:=b (i+1),ct:=b (i+1),bk:=D.nx } c j)(hd:∀ O H,b xs.length O H->D.nx O H) :
    ∃ W:Nat->Nat->St->Hp->Prop,(∃ m,W 0 m O H)/\∀ i m O H,W i m O H->
      ((Itt K a).stop i H/\D.nx O H)\/((Itt K a).go i H/\∃ N:St->Hp->Prop,(∀ h d,N h d->∃ l,l < m/\W (i+1) l h d)/\∀ x d,(Itt K a).yld i H x d->g x O d λc j=>k { D with nx:=N,ct:=N,bk:=D.nx } c j):=by
  refine⟨λi m O H=>m=xs.length - i/\i<=xs.length/\b i O H,⟨xs.length,by simp,aV _,t⟩,?_⟩
  rintro i m O H ⟨rfl,s,p⟩
  have q:=r i O H s p;by_cases f:i < xs.length
  . refine .inr ⟨⟨xs,xs[i],q,by simp[f]⟩,b (i+1),λh d n=>⟨xs.length - (i+1),by omega,rfl,f,n⟩,λx d y=>?_⟩
    obtain⟨e,y⟩:=y;subst e;exact o i x O _ (y xs q) p
  . have e:i=xs.length:=by omega
    subst e;exact .inl ⟨⟨xs,q,aD _⟩,hd O H p⟩
theorem for_range{g:TG}{j:TS}{D:Ends}{O:St}{H:Hp}(c:Nat->St->Hp->Prop)(q:c 0 O H)(o:∀ i O H,i < n->c i O H->g (.int (lo+i)) O H λa h=>j { D with nx:=c (i+1),ct:=c (i+1),bk:=D.nx } a h)(hd:∀ O H,c n O H->D.nx O H) :
    ∃ W:Nat->Nat->St->Hp->Prop,(∃ m,W 0 m O H)/\∀ i m O H,W i m O H->
      ((Itr lo n).stop i H/\D.nx O H)\/((Itr lo n).go i H/\∃ N:St->Hp->Prop,(∀ f d,N f d->∃ k,k < m/\W (i+1) k f d)/\∀ x d,(Itr lo n).yld i H x d->g x O d λa h=>j { D with nx:=N,ct:=N,bk:=D.nx } a h):=by
  refine⟨λi m O H=>m=n - i/\i<=n/\c i O H,⟨n,by simp,aV _,q⟩,?_⟩
  rintro i m O H ⟨rfl,r,p⟩
  by_cases b:i < n
  . refine .inr ⟨b,c (i+1),λf d l=>⟨n - (i+1),by omega,rfl,b,l⟩,λx d y=>?_⟩
    obtain⟨e,y⟩:=y;subst e y;exact o i O _ b p
  . have e:i=n:=by omega
    subst e;exact .inl ⟨aD _,hd O H p⟩
abbrev R2:=V->V->Hp->VK->Prop
def OpR(X:Cx)(f:vL->vL->Sem vL)(r:R2):Prop:=
  ∀ (pQ:Li (Ad×Obj)) (s:sH7) (O:St) (H:Hp) (x y:V) (v u:vL) (Q:VK),Inv X pQ O H s->RelV x v->RelV y u->r x y H Q->
    wpAny (model X.prog X.w) X.A (f v u) (EP X pQ O Q) X.xe s
def UnR(X:Cx)(f:vL->Sem vL)(r:V->Hp->VK->Prop):Prop:=
  ∀ (pQ:Li (Ad×Obj)) (s:sH7) (O:St) (H:Hp) (x:V) (v:vL) (Q:VK),Inv X pQ O H s->RelV x v->r x H Q->
    wpAny (model X.prog X.w) X.A (f v) (EP X pQ O Q) X.xe s
def CallR(X:Cx)(f:vL)(r:Li V->Hp->VK->Prop):Prop:=
  ∀ (pQ:Li (Ad×Obj)) (s:sH7) (O:St) (H:Hp) (xs:Li V) (us:Li vL) (Q:VK),Inv X pQ O H s->Vals xs us->r xs H Q->
    wpAny (model X.prog X.w) X.A (call f us) (EP X pQ O Q) X.xe s
def tOp(r:R2)(b a:TE):TE:=λO H Q=>b O H λx d=>a O d λy c=>r x y c Q
def tUn(r:V->Hp->VK->Prop)(a:TE):TE:=λO H Q=>a O H λx b=>r x b Q
def rI(C:Int->Int->Prop)(g:Int->Int->V):R2:=λx y H Q=>∃ i j,x=.int i/\y=.int j/\C i j/\Q (g i j) H
def rI0(g:Int->Int->V):R2:=λx y H Q=>∃ i j,x=.int i/\y=.int j/\Q (g i j) H
def rU(g:Int->V):V->Hp->VK->Prop:=λx H Q=>∃ i,x=.int i/\Q (g i) H
variable{c:Expr}{tc:TE}
section
variable{a:Expr}
theorem binT(q:PE X a ta)(p:PE X b tb){O:St}{R:V->V->Hp->Prop}(I:Inv X pQ O H s)(h:ta O H λx i=>tb O i λy c=>R x y c){f:vL->vL->Sem vL}(o:∀ v u g x y c,Inv X pQ O c g->RelV x v->RelV y u->R x y c->wpAny (model X.prog X.w) X.A (f v u) Q X.xe g) :
    wpAny (model X.prog X.w) X.A (eval a X.env) (λv e=>wpAny (model X.prog X.w) X.A (eval b X.env) (λu d=>wpAny (model X.prog X.w) X.A (f v u) Q X.xe d) X.xe e) X.xe s:=by
  refine thn (q pQ s O H _ I h) λv j ⟨x,i,t,l,n⟩=>?_
  refine thn (p pQ j O i _ t n) λu g ⟨y,c,r,k,m⟩=>?_
  exact o v u g x y c r l k m
theorem pe_op{c:Operator}{r:R2}(g:OpR X (binaryOp c) r)(j:PE X a ta)(i:PE X b tb):PE X (.BinOp a c b pos) (tOp r ta tb):=by
  intro pQ s O H Q I h;exact wpAny_BinOp (binT j i I h λv u d x y l k f e q=>g pQ d O l x y v u Q k f e q)
theorem pe_un{b:UnaryOp}{r:V->Hp->VK->Prop}(f:UnR X (unaryOp b) r)(g:PE X a ta):PE X (.UnaryOp b a pos) (tUn r ta):=by
  intro pQ s O H Q I h;exact UnaryOp_ (thn (g pQ s O H _ I h) λv c ⟨x,j,i,d,e⟩=>f pQ c O j x v Q i d e)
theorem opI{f:vL->vL->Sem vL}{C:Int->Int->Prop}{g:Int->Int->Int}(a:∀ (i j:Int) (t u:Tok) (s:sH7) (Q:vL->sH7->Prop) (E:vL->sH7->Prop),C i j->Q (.int (g i j) s.toks) { s with toks:=s.toks+1 }->wpAny (model X.prog X.w) X.A (f (.int i t) (.int j u)) Q E s) :
    OpR X f (rI C λi j=>.int (g i j)):=by
  intro pQ s O H x y v u Q I c b h;obtain⟨i,j,rfl,rfl,d,q⟩:=h;obtain⟨t,rfl⟩:=c;obtain⟨t',rfl⟩:=b;exact a i j t t' s _ _ d ⟨.int (g i j),H,I.tok _,⟨_,rfl⟩,q⟩
theorem opI0{f:vL->vL->Sem vL}{g:Int->Int->Int}(a:∀ (i j:Int) (t u:Tok) (s:sH7) (Q:vL->sH7->Prop) (E:vL->sH7->Prop),Q (.int (g i j) s.toks) { s with toks:=s.toks+1 }->wpAny (model X.prog X.w) X.A (f (.int i t) (.int j u)) Q E s) :
    OpR X f (rI0 λi j=>.int (g i j)):=by
  intro pQ s O H x y v u Q I c b h;obtain⟨i,j,rfl,rfl,q⟩:=h;obtain⟨t,rfl⟩:=c;obtain⟨t',rfl⟩:=b;exact a i j t t' s _ _ ⟨.int (g i j),H,I.tok _,⟨_,rfl⟩,q⟩
theorem opB0{f:vL->vL->Sem vL}{g:Int->Int->Bool}(a:∀ (i j:Int) (t u:Tok) (s:sH7) (Q:vL->sH7->Prop) (E:vL->sH7->Prop),Q (.bool (g i j)) s->wpAny (model X.prog X.w) X.A (f (.int i t) (.int j u)) Q E s) :
    OpR X f (rI0 λi j=>.bl (g i j)):=by
  intro pQ s O H x y v u Q I c b h;obtain⟨i,j,rfl,rfl,q⟩:=h;obtain⟨t,rfl⟩:=c;obtain⟨t',rfl⟩:=b;exact a i j t t' s _ _ ⟨.bl (g i j),H,I,rfl,q⟩
def CDiv(i j:Int):Prop:=0 < j/\j < 1073741824
def CDivN(i j:Int):Prop:=j≠0/\j.natAbs < 1073741824
def CPow(i j:Int):Prop:=0<=j/\j<=1000000/\i.natAbs < 2 ^ 64
def CMul(i j:Int):Prop:=(-(2 ^ 64) < i/\i < 2 ^ 64)\/(-(2 ^ 64) < j/\j < 2 ^ 64)
theorem CMul.ok{i j:Int}(h:CMul i j):IntMulOk i j:=by
  rcases h with⟨b,a⟩|⟨b,a⟩
  . exact .of_left (intBits_le_64 b a)
  . exact .of_right (intBits_le_64 b a)
theorem op_add:OpR X (binaryOp .Add) (rI0 λi j=>.int (i+j)):=opI0 λ_ _ _ _ _ _ _ q=>add_int q
theorem op_sub:OpR X (binaryOp .Sub) (rI0 λi j=>.int (i - j)):=opI0 λ_ _ _ _ _ _ _ q=>sub_int q
theorem op_mul:OpR X (binaryOp .Mult) (rI CMul λi j=>.int (i * j)):=opI λ_ _ _ _ _ _ _ a q=>mul_int q a.ok
theorem op_fdiv:OpR X (binaryOp .FloorDiv) (rI CDiv λi j=>.int (i / j)):=opI λi j _ _ _ _ _ a q=>by
  have c:(0:Int) < j:=a.1;have b:j < 1073741824:=a.2;exact floordiv_int (by omega) (by rw[Int.fdiv_eq_ediv_of_nonneg i (by omega)];exact q) (.inl (PyProof.noPylong_small (by omega)))
theorem op_fdivN:OpR X (binaryOp .FloorDiv) (rI CDivN λi j=>.int (i.fdiv j)):=opI λ_ _ _ _ _ _ _ a q=>floordiv_int a.1 q (.inl (PyProof.noPylong_small a.2))
theorem op_mod:OpR X (binaryOp .Mod) (rI (λ_ j=>0 < j) λi j=>.int (i % j)):=opI λi j _ _ _ _ _ a q=>by
  have b:(0:Int) < j:=a;exact mod_int' (by omega) (by rw[Int.fmod_eq_emod_of_nonneg i (by omega)];exact q)
theorem op_modN:OpR X (binaryOp .Mod) (rI (λ_ j=>j≠0) λi j=>.int (i.fmod j)):=opI λ_ _ _ _ _ _ _ a q=>mod_int' a q
theorem op_shl:OpR X (binaryOp .LShift) (rI CPow λi j=>.int (i * 2 ^ j.toNat)):=opI λ_ _ _ _ _ _ _ a q=>lshift_int_small a.1 a.2.1 a.2.2 q
theorem op_or:OpR X (binaryOp .BitOr) (rI0 λi j=>.int (Builtin.bitOr i j)):=opI0 λ_ _ _ _ _ _ _ q=>or_int q
theorem unI{f:vL->Sem vL}{g:Int->Int}(a:∀ (i:Int) (t:Tok) (s:sH7) (Q:vL->sH7->Prop) (E:vL->sH7->Prop),Q (.int (g i) s.toks) { s with toks:=s.toks+1 }->wpAny (model X.prog X.w) X.A (f (.int i t)) Q E s) :
    UnR X f (rU λi=>.int (g i)):=by
  intro pQ s O H x v Q I b h;obtain⟨i,rfl,q⟩:=h;obtain⟨t,rfl⟩:=b;exact a i t s _ _ ⟨.int (g i),H,I.tok _,⟨_,rfl⟩,q⟩
theorem un_neg:UnR X (unaryOp .USub) (rU λi=>.int (-i)):=unI λ_ _ _ _ _ q=>neg_int q
end
noncomputable def scal:V->V->Bool
  |.non,.non=>true|.non,.int _=>true|.int _,.non=>true|.non,.bl _=>true|.bl _,.non=>true|.non,.str _=>true|.str _,.non=>true
  |.int _,.int _=>true|.bl _,.bl _=>true|.str _,.str _=>true|.byt _,.byt _=>true
  |.int _,.str _=>true|.str _,.int _=>true|.bl _,.str _=>true|.str _,.bl _=>true
  |_,_=>false
def rEq:R2:=λx y H Q=>scal x y=true/\Q (.bl (decide (x=y))) H
def rNe:R2:=λx y H Q=>scal x y=true/\Q (.bl (!decide (x=y))) H
theorem dec_int{i j:Int}:decide (V.int i=V.int j)=(i==j):=by
  rw[bO];simp
theorem dec_bl{i j:Bool}:decide (V.bl i=V.bl j)=(i==j):=by
  rw[bO];simp
theorem dec_str{i j:Str}:decide (V.str i=V.str j)=(i==j):=by
  rw[bO];simp
theorem dec_byt{i j:Array UInt8}:decide (V.byt i=V.byt j)=(i.toList==j.toList):=by
  rw[bO];cases i;cases j;simp
variable{op:CmpOp}
section
variable{a:Expr}
theorem fin_bl{O:St}{Q:VK}{k a:Bool}(I:Inv X pQ O H s)(q:Q (.bl k) H)(e:k=a):EP X pQ O Q (.bool a) s:=by
  subst e;exact⟨.bl k,H,I,rfl,q⟩
theorem op_eq:OpR X (compareOp .Eq) rEq:=by
  intro pQ s O H x y v u Q I c a h;obtain⟨b,q⟩:=h;cases x with
  |non=>
    cases c;cases y with
    |non=>cases a;exact PySem.EqNone.eq_none_none (fin_bl I q (by simp))
    |bl j=>cases a;exact PySem.EqNone.eq_none_bool (fin_bl I q (by simp))
    |int j=>obtain⟨t',rfl⟩:=a;exact PySem.EqNone.eq_none_int (fin_bl I q (by simp))
    |str j=>obtain⟨t',rfl⟩:=a;exact PySem.EqNone.eq_none_str (fin_bl I q (by simp))
    |_=>exact absurd (show false=true from b) bF7
  |bl i=>
    cases c;cases y with
    |non=>cases a;exact PySem.EqNone.eq_bool_none (fin_bl I q (by simp))
    |bl j=>cases a;exact eq_bool (fin_bl I q dec_bl)
    |str j=>obtain⟨t',rfl⟩:=a;exact PySem.EqMixed.eq_bool_str (fin_bl I q (by simp))
    |_=>exact absurd (show false=true from b) bF7
  |int i=>
    obtain⟨t,rfl⟩:=c;cases y with
    |non=>cases a;exact PySem.EqNone.eq_int_none (fin_bl I q (by simp))
    |int j=>obtain⟨t',rfl⟩:=a;exact eq_int (fin_bl I q dec_int)
    |str j=>obtain⟨t',rfl⟩:=a;exact PySem.EqMixed.eq_int_str (fin_bl I q (by simp))
    |_=>exact absurd (show false=true from b) bF7
  |str i=>
    obtain⟨t,rfl⟩:=c;cases y with
    |non=>cases a;exact PySem.EqNone.eq_str_none (fin_bl I q (by simp))
    |bl j=>cases a;exact PySem.EqMixed.eq_str_bool (fin_bl I q (by simp))
    |int j=>obtain⟨t',rfl⟩:=a;exact PySem.EqMixed.eq_str_int (fin_bl I q (by simp))
    |str j=>obtain⟨t',rfl⟩:=a;exact eq_str (fin_bl I q dec_str)
    |_=>exact absurd (show false=true from b) bF7
  |byt i=>
    obtain⟨t,rfl⟩:=c;cases y with
    |byt j=>obtain⟨t',rfl⟩:=a;exact W.eq_bytes (fin_bl I q dec_byt)
    |_=>exact absurd (show false=true from b) bF7
  |_=>cases y<;>exact absurd (show false=true from b) bF7
theorem op_ne:OpR X (compareOp .NotEq) rNe:=by
  intro pQ s O H x y v u Q I c a h;obtain⟨b,q⟩:=h;cases x with
  |non=>
    cases c;cases y with
    |non=>cases a;exact PySem.EqNone.ne_none_none (fin_bl I q (by simp))
    |bl j=>cases a;exact PySem.EqNone.ne_none_bool (fin_bl I q (by simp))
    |int j=>obtain⟨t',rfl⟩:=a;exact PySem.EqNone.ne_none_int (fin_bl I q (by simp))
    |str j=>obtain⟨t',rfl⟩:=a;exact PySem.EqNone.ne_none_str (fin_bl I q (by simp))
    |_=>exact absurd (show false=true from b) bF7
  |bl i=>
    cases c;cases y with
    |non=>cases a;exact PySem.EqNone.ne_bool_none (fin_bl I q (by simp))
    |bl j=>cases a;exact ne_bool (fin_bl I q (congrArg not dec_bl))
    |str j=>obtain⟨t',rfl⟩:=a;exact PySem.EqMixed.ne_bool_str (fin_bl I q (by simp))
    |_=>exact absurd (show false=true from b) bF7
  |int i=>
    obtain⟨t,rfl⟩:=c;cases y with
    |non=>cases a;exact PySem.EqNone.ne_int_none (fin_bl I q (by simp))
    |int j=>obtain⟨t',rfl⟩:=a;exact ne_int (fin_bl I q (congrArg not dec_int))
    |str j=>obtain⟨t',rfl⟩:=a;exact PySem.EqMixed.ne_int_str (fin_bl I q (by simp))
    |_=>exact absurd (show false=true from b) bF7
  |str i=>
    obtain⟨t,rfl⟩:=c;cases y with
    |non=>cases a;exact PySem.EqNone.ne_str_none (fin_bl I q (by simp))
    |bl j=>cases a;exact PySem.EqMixed.ne_str_bool (fin_bl I q (by simp))
    |int j=>obtain⟨t',rfl⟩:=a;exact PySem.EqMixed.ne_str_int (fin_bl I q (by simp))
    |str j=>obtain⟨t',rfl⟩:=a;exact ne_str (fin_bl I q (congrArg not dec_str))
    |_=>exact absurd (show false=true from b) bF7
  |byt i=>
    obtain⟨t,rfl⟩:=c;cases y with
    |byt j=>obtain⟨t',rfl⟩:=a;exact W.ne_bytes (fin_bl I q (congrArg not dec_byt))
    |_=>exact absurd (show false=true from b) bF7
  |_=>cases y<;>exact absurd (show false=true from b) bF7
theorem op_lt:OpR X (compareOp .Lt) (rI0 λi j=>.bl (decide (i < j))):=opB0 λ_ _ _ _ _ _ _ q=>lt_int q
theorem op_le:OpR X (compareOp .LtE) (rI0 λi j=>.bl (decide (i<=j))):=opB0 λ_ _ _ _ _ _ _ q=>le_int q
theorem op_gt:OpR X (compareOp .Gt) (rI0 λi j=>.bl (decide (j < i))):=opB0 λ_ _ _ _ _ _ _ q=>gt_int q
theorem op_ge:OpR X (compareOp .GtE) (rI0 λi j=>.bl (decide (j<=i))):=opB0 λ_ _ _ _ _ _ _ q=>ge_int q
theorem op_in_str:OpR X (compareOp .In) (λx y H Q=>∃ i j,x=.str i/\y=.str j/\Q (.bl (!(Builtin.Str.occurrences j i 0 j.length 1).isEmpty)) H):=by
  intro pQ s O H x y v u Q I b a h;obtain⟨i,j,rfl,rfl,q⟩:=h;obtain⟨t,rfl⟩:=b;obtain⟨t',rfl⟩:=a;exact in_str (fin_bl I q rfl)
theorem op_isN:OpR X (compareOp .Is) (λx y H Q=>y=.non/\Q (.bl (decide (x=.non))) H):=by
  intro pQ s O H x y v u Q I a b h;obtain⟨rfl,q⟩:=h;cases b;refine is_none_gen (fin_bl I q ?_);cases x<;>first
    | (cases a;rfl)
    | (obtain⟨t,rfl⟩:=a;rfl)
theorem op_notN:OpR X (compareOp .IsNot) (λx y H Q=>y=.non/\Q (.bl (!decide (x=.non))) H):=by
  intro pQ s O H x y v u Q I a b h;obtain⟨rfl,q⟩:=h;cases b;refine isnot_none_gen (fin_bl I q ?_);cases x<;>first
    | (cases a;rfl)
    | (obtain⟨t,rfl⟩:=a;rfl)
theorem pe_cmpR{r:R2}(f:OpR X (compareOp op) r)(j:PE X a ta)(i:PE X b tb)(g:behindInMarks op b=false):PE X (.Compare a [op] [b] pos) (tOp r ta tb):=by
  intro pQ s O H Q I h;exact wpAny_Compare1 (binT j i I h λv u c x y l k e d q=>f pQ c O l x y v u Q k e d q) g
def tTest(t:TE):TT:=λO H Q=>t O H λx a=>∃ k,x=.bl k/\Q k a
theorem pt_cmpR{r:R2}(o:OpR X (compareOp op) r)(t:PE X a ta)(q:PE X b tb)(p:behindInMarks op b=false):PT X (.Compare a [op] [b] pos) (tTest (tOp r ta tb)):=by
  intro pQ s O H Q I h;refine wpAny_isTrue_Compare1 (thn (t pQ s O H _ I h) λv f ⟨x,E,B,j,n⟩=>thn (q pQ f O E _ B n) λu d ⟨y,D,A,i,m⟩=>
    thn (o pQ d O D x y v u _ A j i m) λc F ⟨z,C,w,g,k,e,l⟩=>?_) p
  subst e;cases g;exact wpAny_truthy_bool ⟨C,w,l⟩
theorem line63:(sizeLine:Nat) < 2 ^ 63:=by rw[sizeLine_eq];decide
theorem op_add_str:OpR X (binaryOp .Add) (λx y H Q=>∃ i j,x=.str i/\y=.str j/\i.length+j.length<=sizeLine/\Q (.str (i++j)) H):=by
  intro pQ s O H x y v u Q I b a h;obtain⟨i,j,rfl,rfl,c,q⟩:=h;obtain⟨t,rfl⟩:=b;obtain⟨t',rfl⟩:=a;exact add_str (λt' d=>⟨.str (i++j),H,I.tok _,⟨_,rfl⟩,q⟩) c
theorem vals1{x:V}(r:Vals [x] us):∃ u,us=[u]/\RelV x u:=by
  cases r with
  |cons b a=>cases a;exact⟨_,rfl,b⟩
theorem vals2{x:V}(r:Vals [x,y] us):∃ u a,us=[u,a]/\RelV x u/\RelV y a:=by
  cases r with
  |cons e d=>
    cases d with
    |cons c b=>cases b;exact⟨_,_,rfl,e,c⟩
theorem call_max2(b:X.calm=true):CallR X (.builtin "max") (λxs H Q=>∃ i j,xs=[.int i,.int j]/\Q (.int (if j > i then j else i)) H):=by
  intro pQ s O H xs us Q I r h;obtain⟨i,j,rfl,q⟩:=h;obtain⟨u,c,rfl,⟨t,rfl⟩,⟨t',rfl⟩⟩:=vals2 r;refine max_two_ints (I.ok.hd b) λe d k=>⟨_,H,I.kept k,?_,q⟩
  by_cases a:j > i
  . rw[if_pos a,if_pos a];exact⟨_,rfl⟩
  . rw[if_neg a,if_neg a];exact⟨_,rfl⟩
theorem call_min2(b:X.calm=true):CallR X (.builtin "min") (λxs H Q=>∃ i j,xs=[.int i,.int j]/\Q (.int (if j < i then j else i)) H):=by
  intro pQ s O H xs us Q I r h;obtain⟨i,j,rfl,q⟩:=h;obtain⟨u,c,rfl,⟨t,rfl⟩,⟨t',rfl⟩⟩:=vals2 r;refine min_two_ints (I.ok.hd b) λe d k=>⟨_,H,I.kept k,?_,q⟩
  by_cases a:j < i
  . rw[if_pos a,if_pos a];exact⟨_,rfl⟩
  . rw[if_neg a,if_neg a];exact⟨_,rfl⟩
def LenV(K:fG7)(x:V)(H:Hp)(n:Nat):Prop:=
  match x with
  |.str y=>y.length<=sizeLine/\n=y.length
  |.byt y=>y.size<=sizeLine/\n=y.size
  |.ref p=>(∃ xs,SqL K H p xs/\n=xs.length)\/∃ xs,SqT K H p xs/\n=xs.length
  |_=>False
theorem call_len:CallR X (.builtin "len") (λxs H Q=>∃ x n,xs=[x]/\LenV X.K x H n/\Q (.int n) H):=by
  intro pQ s O H xs us Q I r h;obtain⟨x,n,rfl,e,q⟩:=h;obtain⟨u,rfl,c⟩:=vals1 r;have l:=line63;have k:sizeLine=16777216:=sizeLine_eq;cases x with
  |str y=>
    obtain⟨t,rfl⟩:=c;obtain⟨j,b⟩:y.length<=sizeLine/\n=y.length:=e;subst b;exact len_str (by omega) ⟨.int _,H,I.tok _,⟨_,rfl⟩,q⟩
  |byt y=>
    obtain⟨t,rfl⟩:=c;obtain⟨j,b⟩:y.size<=sizeLine/\n=y.size:=e;subst b;exact W.len_bytes (by omega) ⟨.int _,H,I.tok _,⟨_,rfl⟩,q⟩
  |ref p=>
    cases c;have b:(∃ xs,SqL X.K H p xs/\n=xs.length)\/∃ xs,SqT X.K H p xs/\n=xs.length:=e;rcases b with⟨xs,g,b⟩|⟨xs,g,b⟩
    . subst b
      obtain⟨its,d,f,i⟩:=I.list g;have a:=d.length;exact Calls.call_len_list f.isList (by simp only[aL];omega) ⟨.int xs.length,H,I.tok _,⟨_,by simp only[aL];rw[a]⟩,q⟩
    . subst b
      obtain⟨its,d,f,i⟩:=I.tuple g;have a:=d.length;exact len_tuple f (by simp only[aL];omega) ⟨.int xs.length,H,I.tok _,⟨_,by simp only[aL];rw[a]⟩,q⟩
  |_=>exact(show False from e).elim
end
structure ObjM(h:Heap)(x dx C:Addr)(mA:Str->Option Value):Prop where
  obj:h.get? x=some (W.instObj C dx)
  ns:h.Ns1 dx mA
  ne:dx≠x
variable{mA:Str->Ot vL}
theorem lookIn_ns{f:Ad}(n:h.Ns1 f mA):∃ d,h.get? f=some d/\∀ b,W.lookIn b d=some (mA b):=by
  obtain⟨o,es,p,i,l,k,_,j⟩:=n;refine⟨o,i,λb=>?_⟩
  have e:=j b;unfold nsFind findBy at e;rw[<-Array.find?_toList]at e;unfold W.lookIn;rw[l];dsimp only;split
  . rename_i y q
    rw[q]at e;exact congrArg some e
  . rename_i q
    rw[q]at e;have a:es.toList.any (·.refKey)=false:=by
      rw[List.any_eq_false];intro y g;obtain⟨z,t,c⟩:=k y (Array.mem_toList_iff.mp g);simp[DictEntry.refKey,c]
    have m:¬es.toList.any (·.refKey)=true:=by rw[a];exact bF7
    rw[if_neg m];exact congrArg some e
theorem ObjM.look{x c C:Ad}(I:ObjM h x c C mA):∃ b,W.InstAt h x (W.instObj C c) C (some b)/\∀ a,W.lookIn a b=some (mA a):=
  let ⟨b,ho,hl⟩:=lookIn_ns I.ns
  ⟨b,⟨I.obj,rfl,rfl,ho⟩,hl⟩
variable{pl:Sem Bool}{kw:Li (Str×vL)}
variable{A:Around}{K:fG7}{dx C f:Ad}{mA:Str->Ot vL}
section
variable{prog:Program}{name:Str}{v:vL}
theorem get_map{a:Bool}(X:K.In s.heap)(I:ObjM s.heap x dx C mA)(f:W.plainGet K C name=true)(e:W.hasDictIn K C=true)(g:W.findIn K (.ref C) name=some none)(c:mA name=some v)(b:W.handedIn v=true)(h:Q v { s with toks:=s.toks+1 }) :
    wpAny (model prog w) A (getAttr (.ref x) name a) Q E s:=by
  obtain⟨i,J,d⟩:=I.look;exact W.get_value X J (W.plainGet_of f).1 (W.findObj_own e g rfl (by rw[d,c])) b h
theorem get_meth{Q:vL×Li vL->sH7->Prop}(X:K.In s.heap)(I:ObjM s.heap x dx C mA)(a:W.plainGet K C name=true)(g:W.findIn K (.ref C) name=some (some (.ref f)))(d:W.isFn K (.ref f)=true)(c:mA name=none)(h:Q (.ref f,[.ref x]) s) :
    wpAny (model prog w) A (getMethod (.ref x) name pl) Q E s:=by
  obtain⟨b,J,e⟩:=I.look;exact W.method_fn X J (W.plainGet_of a).1 (W.plainGet_of a).2 g (beq_iff_eq.mp d) (by show(W.lookIn name b).map (·.isSome)=some false;rw[e,c];rfl) h
theorem set_map{j:Li Str}{Q:Unit->sH7->Prop}(X:K.In s.heap)(I:ObjM s.heap x dx C mA)(o:W.findIn K (.ref C) "__setattr__"=some (some (.builtin "object.__setattr__")))(p:W.plainOver K C=true)(m:W.takerIn K C name=some none)(q:W.hasDictIn K C=true)(l:PySem.Within mA j)(n:j.length<=sizeLine)(h:∀ e,ObjM e x dx C (λy=>if y=name then some v else mA y)->Heap.SameBut dx s.heap e->Q () { s with heap:=e,toks:=s.toks+2 }) :
    wpAny (model prog w) A (setAttr (.ref x) name v) Q E s:=by
  obtain⟨B,J,D⟩:=I.look;refine W.set_plain X J o (W.osa_open (s:={ s with toks:=s.toks+1 }) (r:=none) X J p m λb=>?_)
  obtain⟨F,t,g⟩:=W.any_some q;have k:s.heap.get? x=some ⟨.ref C,some dx,.plain,#[]⟩:=I.obj;refine aA (aB (aA (aA (wpAny_loadPart k (aA (W.Looks.here (s:={ s with toks:=s.toks+1 }) (W.looks_clsIn X t) ?_))))))
  rw[g];refine aB (a:=some dx) (aA (aB (aA ?_)));refine wpAny_nsSet1 (s:={ s with toks:=s.toks+1 }) I.ns λe d c=>?_
  obtain⟨oD,u,z,f,hdD,i⟩:=d.count (PySem.Within.cons name v l);refine aA (wpAny_lookBehind f (by rw[hdD];exact pastItsLine_dict (aP i (by rw[aQ];omega))) ?_)
  exact aB (h _ ⟨(c.2 _ (Ne.symm I.ne)).trans I.obj,d,I.ne⟩ c)
theorem make_map{R:Result->sH7->Prop}{b:Li vL}(X:K.In s.heap)(c:W.makesIn K C=true)(e:W.findIn K (.ref C) "__init__"=some (some (.ref f)))(i:W.typeIn K (.ref f)=some (.type "function"))(h:codeAny (model prog w) (A.under (.builtin "type.__call__" ⟨.ref C :: b,kw⟩)) (.call (.ref f) ⟨.ref (s.heap.objs.size+1) :: b,kw⟩) (W.InitBack (s.heap.objs.size+1) R)
      { s with heap:=(s.heap.push W.emptyDict).push (W.instObj C s.heap.objs.size) }) :
    codeAny (model prog w) A (.call (.ref C) ⟨b,kw⟩) R s:=by
  obtain⟨k,g,d,t,j⟩:=s;exact W.make_core (W.makes_of X c) (W.looks_findIn X e) (λa=>W.bind_fn X a i) (.inl rfl) h
end
noncomputable def putF(f:Str)(v:V):Li (Str×V)->Li (Str×V)
  |[]=>[(f,v)]
  | (g,x) :: r=>if g=f then (g,v) :: r else (g,x) :: putF f v r
theorem lookup_putF(f g:Str)(v:V):∀ fs:Li (Str×V),(putF f v fs).lookup g=if g=f then some v else fs.lookup g
  |[]=>by
    show List.lookup g [(f,v)]=_;by_cases h:g=f
    . have a:(g==f)=true:=beq_iff_eq.mpr h
      simp only[List.lookup,a,if_pos h]
    . have a:(g==f)=false:=bW.mpr h
      simp only[List.lookup,a,if_neg h]
  | (k,x) :: r=>by
    have c:=lookup_putF f g v r;rw[show putF f v ((k,x) :: r)=(if k=f then (k,v) :: r else (k,x) :: putF f v r) from rfl]
    by_cases b:k=f
    . rw[if_pos b]
      by_cases h:g=k
      . have a:(g==k)=true:=beq_iff_eq.mpr h
        simp only[List.lookup,a,if_pos (h.trans b)]
      . have a:(g==k)=false:=bW.mpr h
        simp only[List.lookup,a,if_neg (λe:g=f=>h (e.trans b.symm))]
    . rw[if_neg b]
      by_cases h:g=k
      . have a:(g==k)=true:=beq_iff_eq.mpr h
        simp only[List.lookup,a,if_neg (λe:g=f=>b (h.symm.trans e))]
      . have a:(g==k)=false:=bW.mpr h
        simp only[List.lookup,a];exact c
theorem keys_putF(f:Str)(v:V):∀ fs:Li (Str×V),f∈(putF f v fs).map (·.1)/\∀ g,g∈fs.map (·.1)->g∈(putF f v fs).map (·.1)
  |[]=>⟨by simp[putF],λg h=>by simp at h⟩
  | (k,x) :: r=>by
    obtain⟨c,b⟩:=keys_putF f v r;rw[show putF f v ((k,x) :: r)=(if k=f then (k,v) :: r else (k,x) :: putF f v r) from rfl]
    by_cases a:k=f
    . rw[if_pos a]
      subst a;exact⟨by simp,λg h=>by simpa using h⟩
    . rw[if_neg a]
      refine⟨?_,λg h=>?_⟩
      . rw[aM]
        exact lM7 _ c
      . rw[aM]at h ⊢
        rcases aH.mp h with e|e
        . exact aH.mpr (.inl e)
        . exact lM7 _ (b g e)
theorem length_putF(f:Str)(v:V):∀ fs:Li (Str×V),(putF f v fs).length<=fs.length+1
  |[]=>by simp[putF]
  | (k,x) :: r=>by
    have b:=length_putF f v r;rw[show putF f v ((k,x) :: r)=(if k=f then (k,v) :: r else (k,x) :: putF f v r) from rfl]
    by_cases a:k=f
    . rw[if_pos a,aQ,aQ];omega
    . rw[if_neg a,aQ,aQ];omega
theorem RelO.some_of{v:V}{o:Ot vL}(r:RelO (some v) o):∃ u,o=some u/\RelV v u:=by
  cases o with
  |none=>exact(show False from r).elim
  |some u=>exact⟨u,rfl,r⟩
theorem RelO.none_of{o:Ot vL}(r:RelO none o):o=none:=by
  cases o with
  |none=>rfl
  |some u=>exact(show False from r).elim
theorem handed_of{v:V}{u:vL}(r:RelV v u):W.handedIn u=true:=by
  cases v with
  |non=>cases (show u=Value.none from r);rfl
  |bl b=>cases (show u=Value.bool b from r);rfl
  |int i=>obtain⟨t,e⟩:=(show ∃ t,u=Value.int i t from r);cases e;rfl
  |str x=>obtain⟨t,e⟩:=(show ∃ t,u=Value.str x t from r);cases e;rfl
  |byt b=>obtain⟨t,e⟩:=(show ∃ t,u=Value.bytes b t from r);cases e;rfl
  |flt b=>obtain⟨t,e⟩:=(show ∃ t,u=Value.float b t from r);cases e;rfl
  |ref a=>cases (show u=Value.ref a from r);rfl
  |ty n=>cases (show u=Value.type n from r);rfl
variable{fs:Li (Str×V)}
section
variable{fs':Li (Str×V)}
theorem ins_get(hok:HOk P w H h)(e:H a=some (.ins C dx fs)):∃ mA,ObjM h a dx C mA/\(∀ f,RelO (fs.lookup f) (mA f))/\PySem.Within mA (fs.map (·.1))/\fs.length<=1000/\H dx=some (.own a):=by
  obtain⟨d,z,c,b,mA,n,r,q⟩:=(show ObjOk P w H h a (.ins C dx fs) from hok a _ e);exact⟨mA,⟨b,n,c⟩,r,q,z,d⟩
end
structure Cls(K:fG7)(C:Addr):Prop where
  pg:W.plainGet K C Str.empty=true
  hd:W.hasDictIn K C=true
  po:W.plainOver K C=true
  sa:W.findIn K (.ref C) "__setattr__"=some (some (.builtin "object.__setattr__"))
theorem Cls.get{C:Ad}(c:Cls K C)(f:Str):W.plainGet K C f=true:=c.pg
def NoAttr(K:fG7)(C:Ad)(f:Str):Prop:=W.findIn K (.ref C) f=some none
theorem NoAttr.taker{C:Ad}{f:Str}(n:NoAttr K C f):W.takerIn K C f=some none:=by
  unfold W.takerIn;rw[show W.findIn K (.ref C) f=some none from n];rfl
structure Con(K:fG7)(C:Addr)(f:Str)(v:V)(u:Value):Prop where
  at_:W.findIn K (.ref C) f=some (some u)
  rel:RelV v u
  get:W.specialIn K u "__get__"=some none
  cp:W.copiedNames.contains f=false
structure Meth(K:fG7)(C:Addr)(m:Str)(f:Addr):Prop where
  at_:W.findIn K (.ref C) m=some (some (.ref f))
  fn:W.isFn K (.ref f)=true
  kp:W.keepIn K (.ref f)=true
section
variable{f:Str}{v:V}
theorem getattr_ok{b:Bool}(I:Inv X pQ O H s)(e:H a=some (.ins C dx fs))(c:Cls X.K C)(n:NoAttr X.K C f)(l:fs.lookup f=some v)(h:∀ u s',Inv X pQ O H s'->RelV v u->Q u s'):wpAny (model X.prog X.w) A (getAttr (.ref a) f b) Q E s:=by
  obtain⟨mA,i,r,_,_,_⟩:=ins_get I.hok e;obtain⟨u,g,d⟩:=RelO.some_of (v:=v) (o:=mA f) (by rw[<-l];exact r f)
  exact get_map I.kIn i (c.get f) c.hd n g (handed_of d) (h u _ (I.tok _) d)
theorem getmeth_ok{m:Str}{g:Ad}{Q:vL×Li vL->sH7->Prop}(I:Inv X pQ O H s)(e:H a=some (.ins C dx fs))(c:Cls X.K C)(k:Meth X.K C m g)(l:fs.lookup m=none)(h:Q (.ref g,[.ref a]) s):wpAny (model X.prog X.w) A (getMethod (.ref a) m pl) Q E s:=by
  obtain⟨mA,d,r,_,_,_⟩:=ins_get I.hok e;have b:mA m=none:=RelO.none_of (by rw[<-l];exact r m)
  exact get_meth I.kIn d (c.get m) k.at_ k.fn b h
theorem setattr_ok{u:vL}{Q:Unit->sH7->Prop}(I:Inv X pQ O H s)(e:H a=some (.ins C dx fs))(c:Cls X.K C)(n:NoAttr X.K C f)(F:fs.length < 1000)(m:RelV y u)(h:∀ s',Inv X pQ O (upd H a (.ins C dx (putF f y fs))) s'->Q () s'):wpAny (model X.prog X.w) A (setAttr (.ref a) f u) Q E s:=by
  obtain⟨mA,i,r,j,_,k⟩:=ins_get I.hok e;have p:(fs.map (·.1)).length<=sizeLine:=by rw[aE,sizeLine_eq];omega
  refine set_map I.kIn i c.sa c.po n.taker c.hd j p λD d l=>h _ ?_
  have v:∃ o,D.get? dx=some o:=let ⟨o,_,_,e',_⟩:=d.ns;⟨o,e'⟩
  refine I.write (x:=a) (e:=dx) (by rw[e];exact True.intro) (.inr k) (λb q B z=>(l.2 b B).trans z) v ?_
  refine⟨by rw[upd_ne i.ne];exact k,?_,i.ne,d.obj,_,d.ns,λg=>?_,λg t=>?_⟩
  . have:=length_putF f y fs;omega
  . show RelO ((putF f y fs).lookup g) (if g=f then some u else mA g)
    rw[lookup_putF];by_cases q:g=f
    . rw[if_pos q,if_pos q];exact m
    . rw[if_neg q,if_neg q];exact r g
  . by_cases q:g=f
    . rw[q];exact(keys_putF f y fs).1
    . refine(keys_putF f y fs).2 g (j g λz=>t ?_)
      show(if g=f then some u else mA g)=none
      rw[if_neg q];exact z
theorem Inv.made(I:Inv X pQ O H s):Inv X pQ O (upd (upd H s.heap.objs.size (.own (s.heap.objs.size+1))) (s.heap.objs.size+1) (.ins C s.heap.objs.size []))
    { s with heap:=(s.heap.push W.emptyDict).push (W.instObj C s.heap.objs.size) }:=by
  have d:(s.heap.push W.emptyDict).get? s.heap.objs.size=some W.emptyDict:=aY s.heap rfl;have i:((s.heap.push W.emptyDict).push (W.instObj C s.heap.objs.size)).get? (s.heap.objs.size+1)=some (W.instObj C s.heap.objs.size):=by
    have:=aY (s.heap.push W.emptyDict) (o:=W.instObj C s.heap.objs.size) rfl
    rwa [Heap.size_push]at this
  have h:(s.heap.push W.emptyDict).Ns s.heap.objs.size (λ_=>none):=⟨W.emptyDict,#[],_,d,rfl,(λe g=>absurd g (by simp)),λ_=>rfl⟩
  have j:=I.laid (a:=s.heap.objs.size) (o:=.own (s.heap.objs.size+1)) (h':=s.heap.push W.emptyDict) (t':=s.toks) (λb u q=>aO _ q) (aD _) ⟨_,d⟩
  refine j.laid (a:=s.heap.objs.size+1) (o:=.ins C s.heap.objs.size []) (t':=s.toks) (λb u q=>aO _ q) (cN (Heap.size_push _ _)) ?_
  have c:s.heap.objs.size≠s.heap.objs.size+1:=aW (bS _);refine⟨by rw[upd_ne c,upd_same],aV _,c,i,λ_=>none,(Heap.Ns1.of_empty h).at λo q=>aO _ q,λ_=>True.intro,λy f=>absurd rfl f⟩
theorem attr_of{prog:Program}{env:Env}{e:Expr}{f:Str}{pos:Pos}(b:attributeBase e f env (eval e env)=eval e env)(h:wpAny (model prog w) A (eval e env) (λo a=>wpAny (model prog w) A (getAttr o f true) Q E a) E s):wpAny (model prog w) A (eval (.Attribute e f pos) env) Q E s:=
  Attribute_any_ h (by rw[arm_eval_Attribute,b])
end
def tFld(K:fG7)(c:TE)(f:Str):TE:=λO H Q=>c O H λx b=>∃ a C d fs v,x=.ref a/\b a=some (.ins C d fs)/\Cls K C/\NoAttr K C f/\fs.lookup f=some v/\Q v b
def sFld(K:fG7)(e d:TE)(f:Str):TS:=λD O H=>d O H λy g=>e O g λx c=>∃ a C b fs,x=.ref a/\c a=some (.ins C b fs)/\Cls K C/\NoAttr K C f/\fs.length < 1000 /\
  D.nx O (upd c a (.ins C b (putF f y fs)))
variable{o:Expr}
section
variable{value:Expr}{f:Str}{pos' tpos:Pos}{tv:TE}
theorem pe_fld(g:PE X e ta)(i:attributeBase e f X.env (eval e X.env)=eval e X.env):PE X (.Attribute e f pos) (tFld X.K ta f):=by
  intro pQ s O H Q I h;refine attr_of i (thn (g pQ s O H _ I h) λu t ⟨x,o,m,b,a,C,w,fs,v,ex,j,c,n,l,q⟩=>?_)
  subst ex;obtain rfl:u=Value.ref a:=b;exact getattr_ok m j c n l λp r k d=>⟨v,o,k,d,q⟩
theorem ps_fld(m:PE X o ta)(j:PE X value tv)(k:swapsWith value (some (.Attribute o f pos')) pos.line X.env=pure false):PS X (.Assign [.Attribute o f pos'] value pos) (sFld X.K ta tv f):=by
  intro pQ s O H D I h;refine plainObj_wpAny_Assign_Attribute (thn (j pQ s O H _ I h) λu b ⟨y,w,v,d,q⟩=>thn (m pQ b O w _ v q) λi A ⟨x,E,t,e,a,C,B,fs,ex,p,c,n,l,g⟩=>?_) k
  subst ex;obtain rfl:i=Value.ref a:=e;exact setattr_ok t p c n l d λz r=>⟨O,_,r,g⟩
end
variable{Q:vL->sH7->Prop}
section
variable{c:vL}{b:Bool}
inductive TyOf(K:fG7)(H:Hp):V->Value->Prop where
  |non:TyOf K H .non (.type "NoneType")
  |bl (x:Bool):TyOf K H (.bl x) (.type "bool")
  |int (i:Int):TyOf K H (.int i) (.type "int")
  |str (x:Str):TyOf K H (.str x) (.type "str")
  |flt (x:UInt64):TyOf K H (.flt x) (.type "float")
  |lst {a:Addr}{xs:List V} (e:H a=some (.lst xs)):TyOf K H (.ref a) (.type "list")
  |frz {a:Addr}{o:Obj}{xs:List V} (e:H a=some (.frz o (.lst xs))):TyOf K H (.ref a) (.type "list")
  |tup {a:Addr}{xs:List V} (e:H a=some (.tup xs)):TyOf K H (.ref a) (.type "tuple")
  |dK {a:Addr}{kvs:List (Key×V)} (e:H a=some (.dK kvs)):TyOf K H (.ref a) (.type "dict")
  |dT {a:Addr}{kvs:List (List Key×V)} (e:H a=some (.dT kvs)):TyOf K H (.ref a) (.type "dict")
  |ins {a C dx:Addr}{fs:List (Str×V)} (e:H a=some (.ins C dx fs)) (cl:Cls K C) (ha:W.findIn K (.ref C) "__class__"=some (some (.builtin "object.__class__")))
      (hn:W.specialIn K (.builtin "object.__class__") "__get__"=some (some (.builtin "getset_descriptor.__get__"))) (htk:W.takesIn K (.builtin "object.__class__")=some true)
      (hm:W.mroIn K C (.type "object")=some true):TyOf K H (.ref a) (.ref C)
theorem isinst_ok{x:V}{u t:vL}(I:Inv X pQ O H s)(d:RelV x u)(ty:TyOf X.K H x t)(e:W.kitOne X.K t c=some b)(h:∀ r,Q (.bool b) { s with toks:=r }) :
    wpAny (model X.prog X.w) A (call (.builtin "isinstance") [u,c]) Q E s:=by
  cases ty with
  |non=>cases (show u=Value.none from d);exact W.kia_one W.kitx_none I.kIn True.intro e (λz=>nomatch z) h
  |bl y=>cases (show u=Value.bool y from d);exact W.kia_one W.kitx_bool I.kIn True.intro e (λz=>nomatch z) h
  |int i=>obtain⟨t,q⟩:=(show ∃ t,u=Value.int i t from d);cases q;exact W.kia_one W.kitx_int I.kIn True.intro e (λz=>nomatch z) h
  |str y=>obtain⟨t,q⟩:=(show ∃ t,u=Value.str y t from d);cases q;exact W.kia_one W.kitx_str I.kIn True.intro e (λz=>nomatch z) h
  |flt y=>obtain⟨t,q⟩:=(show ∃ t,u=Value.float y t from d);cases q;exact W.kia_one W.kitx_float I.kIn True.intro e (λz=>nomatch z) h
  |@lst a xs f=>
    cases (show u=Value.ref a from d)
    obtain⟨_,_,n,_,g⟩:=(show ObjOk X.prog X.w H s.heap a (.lst xs) from I.hok a _ f);exact W.kia_one W.kitx_list I.kIn ⟨_,g,rfl⟩ e (λz=>nomatch z) h
  |@frz a v xs f=>
    cases (show u=Value.ref a from d)
    obtain⟨_,_,_,n,_,g⟩:=(show ObjOk X.prog X.w H s.heap a (.frz v (.lst xs)) from I.hok a _ f);exact W.kia_one W.kitx_list I.kIn ⟨_,g,rfl⟩ e (λz=>nomatch z) h
  |@tup a xs f=>
    cases (show u=Value.ref a from d)
    obtain⟨_,_,_,p⟩:=(show ObjOk X.prog X.w H s.heap a (.tup xs) from I.hok a _ f);obtain⟨o,g,k,_⟩:=p;exact W.kia_one W.kitx_tuple I.kIn ⟨o,g,k⟩ e (λz=>nomatch z) h
  |@dK a j f=>
    cases (show u=Value.ref a from d)
    obtain⟨_,_,M,_,p⟩:=(show ObjOk X.prog X.w H s.heap a (.dK j) from I.hok a _ f);obtain⟨o,es,G,g,k,_⟩:=p;exact W.kia_one W.kitx_dict I.kIn ⟨o,g,k.1⟩ e (λz=>nomatch z) h
  |@dT a j f=>
    cases (show u=Value.ref a from d)
    obtain⟨_,_,xs,_,o,es,G,g,k,_⟩:=(show ObjOk X.prog X.w H s.heap a (.dT j) from I.hok a _ f);exact W.kia_one W.kitx_dict I.kIn ⟨o,g,k.1⟩ e (λz=>nomatch z) h
  |@ins a C P fs f m F B l D=>
    cases (show u=Value.ref a from d)
    obtain⟨mA,L,_⟩:=ins_get I.hok f;obtain⟨N,J,_⟩:=L.look;exact W.kia_one (W.kitx_own (m.get _) m.hd F B l D) I.kIn J e (λz=>nomatch z) h
end
structure Room(k:Nat)(A:Around):Prop where
  hd:A.handled=none
  dp:A.depth+3 * k+5 < recursionLimit
  un:A.units+16 * k+200 < cLine
variable{k:Nat}
theorem Room.mono{j:Nat}(r:Room k A)(h:j<=k):Room j A:=⟨r.hd,by have:=r.dp;omega,by have:=r.un;omega⟩
theorem Room.deeper(r:Room (k+1) A)(env:Env):Room k (A.deeper env):=
  ⟨r.hd,by have:=r.dp;show A.depth+1+3 * k+5 < _;omega,by have:=r.un;show A.units+3+16 * k+200 < _;omega⟩
theorem make_depth{C:Ad}:(A.under (.builtin "type.__call__" ⟨.ref C :: us,kw⟩)).depth=A.depth+1:=by
  first|rfl|simp[Around.under,Code.weight,Code.isCreation,Code.isGuard,Code.isCaller,Code.frames,Code.isFrame,guardIds]
theorem make_units{C:Ad}:(A.under (.builtin "type.__call__" ⟨.ref C :: us,kw⟩)).units=A.units+1:=by
  first|rfl|simp[Around.under,Code.cUnits,Code.frames,Code.isFrame]
theorem Room.make(r:Room (k+1) A)(C:Ad)(us:Li vL)(kw:Li (Str×vL)):Room k (A.under (.builtin "type.__call__" ⟨.ref C :: us,kw⟩)):=
  ⟨r.hd,by have:=r.dp;rw[make_depth];omega,by have:=r.un;rw[make_units];omega⟩
theorem Room.depth(r:Room k A):A.depth < recursionLimit:=by have:=r.dp;omega
theorem Room.units(r:Room k A):A.units+64 < cLine:=by have:=r.un;omega
def tNil:TA:=λ_ H Q=>Q [] H
def tCons(b:TE)(a:TA):TA:=λO H Q=>b O H λx d=>a O d λxs c=>Q (x :: xs) c
variable{es:Li Expr}{t:TA}
theorem pa_nil:PA X [] tNil:=λ_ _ _ _ H Q I h=>Calls.spliced_nil ⟨[],H,I,.nil,h⟩
theorem pa_cons(j:PE X e te)(i:PA X es t)(g:starEach (e :: es) X.env=(false,eval e X.env) :: starEach es X.env:=by rfl):PA X (e :: es) (tCons te t):=by
  intro pos pQ s O H Q I h;rw[g];show wpAny _ _ (spliced ((false,eval e X.env) :: backTo pos (starEach es X.env))) _ _ s;refine Calls.spliced_cons (thn (j pQ s O H _ I h) λu a ⟨x,n,l,c,f⟩=>?_)
  exact thn (i pos pQ a O n _ l f) λus o ⟨xs,m,k,b,d⟩=>⟨x :: xs,m,k,.cons c b,d⟩
def tTup(t:TA):TE:=λO H Q=>t O H λxs a=>xs.length<=sizeLine/\∀ p,a p=none->Q (.ref p) (upd a p (.tup xs))
def tLst(t:TA):TE:=λO H Q=>t O H λxs a=>xs.length<=sizeLine/\∀ p,a p=none->Q (.ref p) (upd a p (.lst xs))
theorem pe_tup{x1}(h:PA X es t):PE X (.Tuple es x1 pos) (tTup t):=by
  intro pQ s O H Q I f;refine wpAny_Tuple_spliced (thn (h pos pQ s O H _ I f) λus a ⟨xs,d,c,r,z,q⟩=>⟨by rw[<-r.length];exact z,?_⟩)
  have g:d a.heap.objs.size=none:=c.hok.fresh (aD _);refine⟨.ref a.heap.objs.size,upd d a.heap.objs.size (.tup xs),c.laid (t':=a.toks) (λb u e=>aO _ e) (aD _) ?_,rfl,q _ g⟩
  exact⟨z,us,r,⟨_,aY _ rfl,rfl,_,rfl⟩⟩
theorem pe_lst(h:PA X es t):PE X (.List es pos) (tLst t):=by
  intro pQ s O H Q I f;refine wpAny_List_spliced (thn (h pos pQ s O H _ I f) λus a ⟨xs,d,c,r,z,q⟩=>⟨by rw[<-r.length];exact z,?_⟩)
  have g:d a.heap.objs.size=none:=c.hok.fresh (aD _);refine⟨.ref a.heap.objs.size,upd d a.heap.objs.size (.lst xs),c.laid (t':=a.toks) (λb u e=>aO _ e) (aD _) ?_,rfl,q _ g⟩
  exact⟨z,us,0,r,aY _ rfl⟩
abbrev Sp:=Li V->Hp->VK->XK->Prop
abbrev CXT:=Li Env->Hp->sH7->XK->vL->sH7->Prop
structure Env0(P:Program)(w:World)(K:fG7)(mg:Str->Option Value)(base:Heap)(A:Around)(outer:List Env)(s:Shared)(H:Hp):Prop where
  frames:A.frames=some outer
  mod:Mod K mg base
  bs:∀ b o,base.get? b=some o->s.heap.get? b=some o/\H b=none
  bsz:base.objs.size<=s.heap.objs.size
  funs:s.heap.FunFrames base outer
  frf:∀ b∈frs outer,H b=none
  hok:HOk P w H s.heap
  bare:AllBare s.gens
def CE(outer:Li Env)(P:Program)(w:World)(H:Hp)(s:sH7)(Q:VK)(u:vL)(s':sH7):Prop:=
  ∃ v a,s'.os=s.os/\AllBare s'.gens/\Un (frs outer) [] H a s.heap s'.heap/\HOk P w a s'.heap/\RelV v u/\Q v a
def CR(a:CXT)(outer:Li Env)(P:Program)(w:World)(H:Hp)(s:sH7)(Q:VK)(E:XK)(r:Result)(s':sH7):Prop:=
  match r with
  |.ok (.ret u)=>CE outer P w H s Q u s'
  |.ok _=>False
  |.error e=>a outer H s E e s'
structure FnOk(P:Program)(w:World)(K:fG7)(mg:Str->Option Value)(base:Heap)(CX:CXT)(k:Nat)(f:Addr)(fd:FuncData)(ps:List Str)(sp:Sp):Prop where
  len:∀ vs H Q E,sp vs H Q E->vs.length=ps.length
  run:∀ (A:Around) (outer:List Env) (s:Shared) (H:Hp) (args:Args) (us:List Value) (vs:List V) (Q:VK) (E:XK),Room k A->Env0 P w K mg base A outer s H->BindsTo s fd args (ps.zip us)->Vals vs us->sp vs H Q E->
    codeAny (model P w) A (.call (.ref f) args) (CR CX outer P w H s Q E) s
variable{mg:Str->Ot vL}{base:Heap}{outer:Li Env}
theorem Env0.make{P:Program}(e:Env0 P w K mg base A outer s H)(C:Ad)(us:Li vL)(kw:Li (Str×vL)) :
    Env0 P w K mg base (A.under (.builtin "type.__call__" ⟨.ref C :: us,kw⟩)) outer s H:=⟨by first|exact e.frames | (simpa[Around.under,Code.envs,Code.isFrame,pushEnvs] using e.frames),e.mod,e.bs,e.bsz,e.funs,e.frf,e.hok,e.bare⟩
variable{s':sH7}
theorem Inv.env0(I:Inv X pQ O H s):Env0 X.prog X.w X.K X.mg X.base X.A X.stack s H:=
  ⟨I.ok.frames,I.ok.mod,I.bs,aP I.ok.bsz I.sz,I.stack,I.stkFree,I.hok,I.bare⟩
theorem Inv.after{Q:VK}{u:vL}(I:Inv X pQ O H s)(h:CE X.stack X.prog X.w H s Q u s'):EP X pQ O Q u s':=by
  obtain⟨v,j,f,a,un,e,r,q⟩:=h;obtain⟨i,g,d,t,c⟩:=s';obtain rfl:c=s.os:=f;exact⟨v,j,I.call (h':=i) (g':=g) (d':=d) (t':=t) (ch:=[]) un e a (λb z=>absurd z (by simp)),r,q⟩
def tCall(c:Sp)(a:Li V)(E:XK)(t:TA):TE:=λO H Q=>t O H λb d=>c (b++a) d Q E
def Binds(K:fG7)(fd:FuncData)(a:Li Str)(b:Li vL):Prop:=
  ∀ (s:sH7) (us:Li vL),K.In s.heap->(us++b).length=a.length->BindsTo s fd ⟨us,[]⟩ (a.zip (us++b))
variable{ps:Li Str}
theorem Binds.all{fd:FuncData}(h:∀ us:Li vL,us.length=ps.length->bindArgs fd ⟨us,[]⟩=pure (ps.zip us)):Binds K fd ps []:=λs us _ a=>by
  rw[bC]at a ⊢;exact .of_eq (h us a)
def Passes(a:CXT)(X:Cx)(E:XK):Prop:=∀ (pQ:Li (Ad×Obj)) (O:St) (H:Hp) (s:sH7) (e:vL) (s':sH7),Inv X pQ O H s->a X.stack H s E e s'->X.xe e s'
variable{vs:Li V}
variable{CX:CXT}{k:Nat}{fd:FuncData}{ps:Li Str}{sp:Sp}{m:Str}{p apos:Pos}
section
variable{dvs:Li V}{ds:Li vL}{E:XK}{x:Str}
theorem run_fn{O:St}{Q:VK}(F:FnOk X.prog X.w X.K X.mg X.base CX k f fd ps sp)(d:Room k X.A)(i:Binds X.K fd ps ds)(hd:Vals dvs ds)(c:Passes CX X E)(I:Inv X pQ O H s)(r:Vals vs us)(h:sp (vs++dvs) H Q E):wpAny (model X.prog X.w) X.A (call (.ref f) us) (EP X pQ O Q) X.xe s:=by
  have b:Vals (vs++dvs) (us++ds):=r.append hd;have g:(us++ds).length=ps.length:=by rw[<-b.length];exact F.len _ _ _ _ h
  refine wpAny_call (codeAny_mono (F.run X.A X.stack s H ⟨us,[]⟩ (us++ds) (vs++dvs) Q E d I.env0 (i s us I.kIn g) b h) λr s' a=>?_)
  cases r with
  |error e=>exact c pQ O H s e s' I a
  |ok fl=>
    cases fl with
    |ret u=>exact I.after a
    |next=>exact False.elim a
    |brk=>exact False.elim a
    |cont=>exact False.elim a
theorem pe_call(F:FnOk X.prog X.w X.K X.mg X.base CX k f fd ps sp)(g:Room k X.A)(l:Gl X x)(i:X.mg x=some (.ref f))(j:W.keepIn X.K (.ref f)=true)(n:Binds X.K fd ps ds)(hd:Vals dvs ds)(d:Passes CX X E)(o:PA X (e :: es) t)(b:(x==("__debug__":Str))=false:=by decide)(m:starEach (e :: es) X.env=(false,eval e X.env) :: starEach es X.env:=by rfl)(a:(backTo pos (starEach es X.env)).any (·.1)=false:=by rfl) :
    PE X (.Call (.Name x p) (e :: es) [] pos) (tCall sp dvs E t):=by
  intro pQ s O H Q I h;refine wpAny_Call_Name_kw (ld_glob I l i ?_ b);refine W.callWith_K (h₀:=X.base) I.ok.mod.kin j (thn (o pos pQ s O H _ I h) λus u ⟨vs,v,c,r,q⟩=>⟨c.kIn,?_⟩) m a
  exact run_fn F g n hd d c r q
theorem pe_call0(F:FnOk X.prog X.w X.K X.mg X.base CX k f fd ps sp)(c:Room k X.A)(g:Gl X x)(d:X.mg x=some (.ref f))(e:W.keepIn X.K (.ref f)=true)(i:Binds X.K fd ps ds)(hd:Vals dvs ds)(b:Passes CX X E)(a:(x==("__debug__":Str))=false:=by decide):PE X (.Call (.Name x p) [] [] pos) (tCall sp dvs E tNil):=by
  intro pQ s O H Q I h;refine wpAny_Call_Name_kw (ld_glob I g d ?_ a);exact W.callWith_K0 I.kIn e (run_fn (us:=[]) F c i hd b I .nil h)
structure Mk(K:fG7)(C f:Addr):Prop where
  makes:W.makesIn K C=true
  init:W.findIn K (.ref C) "__init__"=some (some (.ref f))
  fn:W.isFn K (.ref f)=true
  kp:W.keepIn K (.ref C)=true
theorem run_make{O:St}{Q:VK}(M:Mk X.K C f)(F:FnOk X.prog X.w X.K X.mg X.base CX k f fd ps sp)(m:Room (k+1) X.A)(p:Binds X.K fd ps ds)(hd:Vals dvs ds)(l:Passes CX X E)(I:Inv X pQ O H s)(r:Vals vs us)(h:∀ x b,H x=none->H b=none->b≠x->(∀ o,X.K.lookup x≠some o)->sp (.ref x :: (vs++dvs)) (upd (upd H b (.own x)) x (.ins C b [])) (λv t=>v=.non/\Q (.ref x) t) E) :
    wpAny (model X.prog X.w) X.A (call (.ref C) us) (EP X pQ O Q) X.xe s:=by
  have g:=h (s.heap.objs.size+1) s.heap.objs.size (I.hok.fresh (bV _)) (I.hok.fresh (aD _)) (aW (bS _)) (λo z=>absurd (aI (I.kIn _ o z)) (cY.mpr (bV _)))
  have c:=Inv.made (C:=C) I;have d:Vals (V.ref (s.heap.objs.size+1) :: (vs++dvs)) (Value.ref (s.heap.objs.size+1) :: (us++ds)):=.cons rfl (r.append hd);have n:(Value.ref (s.heap.objs.size+1) :: us++ds).length=ps.length:=by
    have e:=d.length;rw[F.len _ _ _ _ g]at e;exact e.symm
  refine wpAny_call (make_map (f:=f) I.kIn M.makes M.init (beq_iff_eq.mp M.fn) (codeAny_mono (F.run _ X.stack _ _ ⟨Value.ref (s.heap.objs.size+1) :: us,[]⟩ (Value.ref (s.heap.objs.size+1) :: (us++ds)) _ _ E (m.make C us [])
    (c.env0.make C us []) (p _ (Value.ref (s.heap.objs.size+1) :: us) c.kIn n) d g) λr s' a=>?_))
  cases r with
  |error e=>exact l pQ O _ _ e s' c a
  |ok fl=>
    cases fl with
    |ret u=>
      obtain⟨v,y,q,i,ev,j⟩:=c.after a;subst ev;exact⟨i,⟨V.ref (s.heap.objs.size+1),y,q,rfl,j⟩⟩
    |next=>exact False.elim a
    |brk=>exact False.elim a
    |cont=>exact False.elim a
end
section
variable{ks:Li Str}{E:XK}{x:Str}{kpos:Pos}{kws:Li Keyword}{tk:TA}{nm:Ot Str}
structure KBinds(K:fG7)(fd:FuncData)(ps ks:List Str)(g:List Value->List Value->List Value)(gV:List V->List V->List V):Prop where
  to:∀ (s:Shared) (us ws:List Value),K.In s.heap->(g us ws).length=ps.length->BindsTo s fd ⟨us,ks.zip ws⟩ (ps.zip (g us ws))
  rel:∀ {vs:List V}{us:List Value}{zs:List V}{ws:List Value},Vals vs us->Vals zs ws->Vals (gV vs zs) (g us ws)
variable{g:Li vL->Li vL->Li vL}{gV:Li V->Li V->Li V}
end
structure FnScope(N P:List Str)(sc:Scope):Prop where
  kind:sc.kind=.function
  co:sc.isCoroutine=false
  gen:sc.isGenerator=false
  nd:N.Nodup
  pre:N.take P.length=P
  par:∀ x∈P,sc.names.lookup x=some .local\/sc.names.lookup x=some .cell
  nofree:∀ y∈sc.names,y.2≠.free
theorem bindL_out{a:Str->Ot NameKind}{x:Str}:∀ {binds:Li (Str×vL)}{m:Str->Ot vL},(∀ v,(x,v)∉binds)->bindL a binds m x=m x
  |[],_,_=>rfl
  | (n,v) :: r,m,h=>by
    unfold bindL;rw[bindL_out λw b=>h w (lM7 _ b)]
    split
    . have:x≠n:=by rintro rfl;exact h v lQ7
      simp[this]
    . rfl
theorem bindC_out{a:Str->Ot NameKind}{x:Str}:∀ {binds:Li (Str×vL)}{m:Str->Ot vL},(∀ v,(x,v)∉binds)->bindC a binds m x=m x
  |[],_,_=>rfl
  | (n,v) :: r,m,h=>by
    unfold bindC;rw[bindC_out λw b=>h w (lM7 _ b)]
    split
    . rfl
    . have:x≠n:=by rintro rfl;exact h v lQ7
      simp[this]
theorem bindL_get{a:Str->Ot NameKind}{x:Str}{v:vL}:∀ {P:Li Str}{vs:Li vL}{i:Nat}{m:Str->Ot vL},P.Nodup->P[i]?=some x->vs[i]?=some v->a x=some .local->
    bindL a (P.zip vs) m x=some v
  |[],_,_,_,_,h,_,_=>by simp at h
  |_ :: _,[],_,_,_,_,h,_=>by simp at h
  |p :: P,w :: vs,0,m,d,c,b,e=>by
    simp at c b;subst c;subst b;show bindL a ((p,w) :: P.zip vs) m p=_;unfold bindL;rw[bindL_out λv f=>(bM.mp d).1 (List.of_mem_zip f).1,if_pos e]
    simp
  |p :: P,w :: vs,i+1,m,d,c,b,e=>by
    show bindL a ((p,w) :: P.zip vs) m x=_;unfold bindL;exact bindL_get (i:=i) (bM.mp d).2 (by simpa using c) (by simpa using b) e
theorem bindC_get{a:Str->Ot NameKind}{x:Str}{v:vL}:∀ {P:Li Str}{vs:Li vL}{i:Nat}{m:Str->Ot vL},P.Nodup->P[i]?=some x->vs[i]?=some v->a x≠some .local->
    bindC a (P.zip vs) m x=some v
  |[],_,_,_,_,h,_,_=>by simp at h
  |_ :: _,[],_,_,_,_,h,_=>by simp at h
  |p :: P,w :: vs,0,m,d,c,b,e=>by
    simp at c b;subst c;subst b;show bindC a ((p,w) :: P.zip vs) m p=_;unfold bindC;rw[bindC_out λv f=>(bM.mp d).1 (List.of_mem_zip f).1,if_neg e]
    simp
  |p :: P,w :: vs,i+1,m,d,c,b,e=>by
    show bindC a ((p,w) :: P.zip vs) m x=_;unfold bindC;exact bindC_get (i:=i) (bM.mp d).2 (by simpa using c) (by simpa using b) e
noncomputable def start(N:Li Str)(vs:Li V):St:=vs.map some++List.replicate (N.length - vs.length) none
noncomputable def cxOf(d:CXT)(P:Program)(w:World)(K:fG7)(mg:Str->Ot vL)(base:Heap)(N:Li Str)(a:Str)(scope:Scope)(f:Ad)(c:vL)(A:Around)(outer:Li Env)(s:sH7)(H:Hp)(E:XK):Cx where
  prog:=P
  w:=w
  K:=K
  mg:=mg
  base:=base
  A:=A.deeper (envOfC a scope s.heap.objs.size f c)
  N:=N
  s₀:=s
  H₀:=H
  env:=envOfC a scope s.heap.objs.size f c
  outer:=outer
  stack:=envOfC a scope s.heap.objs.size f c :: outer
  ex:=[]
  calm:=true
  fn:=λ_=>true
  pn:=[]
  xe:=λe s'=>wpAny (model P w) (A.deeper (envOfC a scope s.heap.objs.size f c)) (leaving (envOfC a scope s.heap.objs.size f c) e) (λ_ b=>d outer H s E e b) (λg b=>d outer H s E g b) s'
theorem cell_has{sc:Scope}{x:Str}(h:sc.names.lookup x=some .cell):∃ c,(cellsFrom n sc.names []).lookup x=some c:=by
  have q:=W.cellsFrom_some sc.names n [] (.inl h);exact Option.isSome_iff_exists.mp q
variable{CX:CXT}
theorem inv_start{P:Program}{d:Str}{scope:Scope}{f:Ad}{C:vL}{D:sH7}{E:XK}(S:FnScope N ps scope)(hd:A.handled=none)(j:Env0 P w K mg base A outer s H)(O:vs.length=ps.length)(r:Vals vs us)(x:InCallC s s.heap.objs.size (bindL (envOfC d scope s.heap.objs.size f C).kindOf (ps.zip us) λ_=>none) (cellsFrom (s.heap.objs.size+1) scope.names []) (bindC (envOfC d scope s.heap.objs.size f C).kindOf (ps.zip us) λ_=>none) D) :
    Inv (cxOf CX P w K mg base N d scope f C A outer s H E) [] (start N vs) H D:=by
  have J:ps.length<=N.length:=by have:=congrArg List.length S.pre;rw[bT]at this;omega
  obtain⟨B,M,rfl,G⟩:=x.done;have l:∀ b:Ad,b∉(cxOf CX P w K mg base N d scope f C A outer s H E).ex:=λb z=>absurd (show b∈([]:Li Ad) from z) (by simp)
  refine⟨⟨j.mod,S.kind,rfl,rfl,aD _,λy z c B g=>?_,λy hy=>?_,λy c _ h=>?_,λ_=>hd,Around.frames_deeper j.frames,.inr ⟨rfl,rfl⟩,λb z=>absurd z (l b),j.bs,j.bsz,λb _ _=>l b,λb z=>absurd z (l b),j.funs,j.frf⟩,
    rfl,j.bare,Un.kept G,⟨_,x.toInCall.ns,λi y v B g Q=>?_⟩,λy c h=>⟨_,x.cell y c h⟩,j.hok.fresh (aD _),λy c h=>?_,λp o=>absurd (show p∈([]:Li (Ad×Obj)) from o) (by simp),j.hok.kept G,?_⟩
  . exact name_of_addr x.apart (PySem.mem_of_lookup B) (PySem.mem_of_lookup g)
  . have hy:scope.names.lookup y=some .cell\/scope.names.lookup y=some .free:=hy
    rcases hy with hy|hy
    . exact cell_has hy
    . exact absurd rfl (S.nofree _ (PySem.mem_of_lookup hy))
  . exact dI (x.above y c (PySem.mem_of_lookup h))
  . have t:i < vs.length:=by
      unfold start at g;by_cases t:i < vs.length
      . exact t
      . rw[bX (by simpa using t)]at g
        rw[dX]at g;split at g<;>cases g
    have L:vs[i]?=some v:=by
      unfold start at g;rw[bU (by simpa using t),aT]at g
      cases e:vs[i]? with
      |none=>rw[e]at g;cases g
      |some a=>rw[e]at g;cases g;rfl
    obtain⟨u,F,I⟩:=r.get L;have o:ps[i]?=some y:=by
      rw[<-S.pre,List.getElem?_take_of_lt (by omega)];exact B
    have m:ps.Nodup:=by rw[<-S.pre];exact S.nd.sublist (List.take_sublist _ _)
    refine⟨u,I,?_⟩;rcases S.par y (aZ o) with k|k
    . exact .inl ⟨k,bindL_get m o F k⟩
    . obtain⟨c,e⟩:=cell_has (n:=s.heap.objs.size+1) k
      refine .inr ⟨.inl k,c,e,?_⟩;have q:=x.cell y c e;rw[bindC_get m o F (by show scope.names.lookup y≠_;rw[k];decide)]at q
      exact q
  . exact j.hok.fresh (dI (x.above y c (PySem.mem_of_lookup h)))
  . unfold start
    show _=N.length;rw[aK,aE,cJ];omega
theorem fn_of{P:Program}{f:Ad}{g a:Str}{d:Arguments}{body:Li Stmt}{scope:Scope}{U kV B T c ct oc:vL}{Y od:Ot Ad}{G:Array (Ot vL)}{D:Sp}(lk:K.lookup f=some ⟨oc,od,.func (W.fnOf g a d body scope U kV B T Y c ct),G⟩)(O:W.codeIn K c a=true)(S:FnScope N ps scope)(len:∀ vs H Q E,D vs H Q E->vs.length=ps.length)(j:∀ (A:Around) (outer:Li Env) (s:sH7) (H:Hp) (vs:Li V) (Q:VK) (E:XK),Room k (A.deeper (envOfC a scope s.heap.objs.size f c))->D vs H Q E->
      ∃ t,PSs (cxOf CX P w K mg base N a scope f c A outer s H E) body t/\t { nx:=λ_ h=>Q .non h,rt:=Q } (start N vs) H) :
    FnOk P w K mg base CX (k+1) f (W.fnOf g a d body scope U kV B T Y c ct) ps D:=by
  refine⟨len,λA outer s H X us vs Q E M z hb r m=>?_⟩
  have hl:=len _ _ _ _ m;have Z:K.In s.heap:=z.mod.kin.keeps λb o e=>(z.bs b o e).1
  have L:s.heap.NoLimit:=z.mod.nolimit.keeps λb o e=>(z.bs b o e).1
  have i:∀ y∈ps.zip us,scope.names.lookup y.1=some .local\/(scope.names.lookup y.1=some .cell/\((cellsFrom (s.heap.objs.size+1) scope.names []).lookup y.1).isSome=true):=λ⟨n,v⟩ hy=>by
    rcases S.par n (List.of_mem_zip hy).1 with q|q
    . exact .inl q
    . exact .inr ⟨q,W.cellsFrom_some _ _ _ (.inl q)⟩
  refine codeAny_call_function M.depth (Z _ _ lk) rfl S.co S.gen rfl (W.codeRec_of Z O) (hb _ _ _ _ ?_);refine wpAny_newFunctionEnv_cells S.kind i λenv he R x=>?_
  subst he;refine⟨L.keeps x.toInCall.keep,codeAny_func ?_⟩;obtain⟨t,ht,hq⟩:=j A outer s H vs Q E (M.deeper _) m;have I:Inv (cxOf CX P w K mg base N a scope f c A outer s H E) [] (start N vs) H R:=inv_start S M.hd z hl r x;refine aX (ht [] R (start N vs) H _ I hq) (λfl s' l=>?_) λe s' l=>l
  have p:∀ {C:St}{h:Hp}{v:V}{u:vL},Inv (cxOf CX P w K mg base N a scope f c A outer s H E) [] C h s'->RelV v u->Q v h->CE outer P w H s Q u s':=
    λ{C h v u} J F q=>⟨v,h,J.os,J.bare,J.base,J.hok,F,q⟩
  cases fl with
  |ret u=>
    obtain⟨v,C,h,J,F,q⟩:=l;exact p J F q
  |next=>
    obtain⟨C,h,J,q⟩:=l;exact p (v:=V.non) (u:=Value.none) J rfl q
  |brk=>
    obtain⟨_,_,_,q⟩:=l;exact False.elim q
  |cont=>
    obtain⟨_,_,_,q⟩:=l;exact False.elim q
section
variable{x:Str}{id T:String}{r:Li V->Hp->VK->Prop}
def tCB(r:Li V->Hp->VK->Prop)(t:TA):TE:=λO H Q=>t O H λvs a=>r vs a Q
theorem pe_callB(m:CallR X (.builtin id) r)(k:Gl X x)(j:X.mg x=none)(g:bootBuiltins x=some (.builtin id))(n:PA X (e :: es) t)(i:x ≠ "__name__":=by decide)(b:(x==("__debug__":Str))=false:=by decide)(l:starEach (e :: es) X.env=(false,eval e X.env) :: starEach es X.env:=by rfl)(a:(backTo pos (starEach es X.env)).any (·.1)=false:=by rfl):PE X (.Call (.Name x p) (e :: es) [] pos) (tCB r t):=by
  intro pQ s O H Q I h;refine wpAny_Call_Name_kw (ld_blt I k j g ?_ i b);exact PyProof.Rows.callWith_builtin1 (thn (n pos pQ s O H _ I h) λus c ⟨vs,q,o,d,f⟩=>m pQ c O q vs us Q o d f) l a
theorem pe_callTy(m:CallR X (.type T) r)(k:Gl X x)(j:X.mg x=none)(g:bootBuiltins x=some (.type T))(n:PA X (e :: es) t)(i:x ≠ "__name__":=by decide)(b:(x==("__debug__":Str))=false:=by decide)(l:starEach (e :: es) X.env=(false,eval e X.env) :: starEach es X.env:=by rfl)(a:(backTo pos (starEach es X.env)).any (·.1)=false:=by rfl):PE X (.Call (.Name x p) (e :: es) [] pos) (tCB r t):=by
  intro pQ s O H Q I h;refine wpAny_Call_Name_kw (ld_blt I k j g ?_ i b);exact PyProof.Rows.callWith_type1 (thn (n pos pQ s O H _ I h) λus c ⟨vs,q,o,d,f⟩=>m pQ c O q vs us Q o d f) l a
end
end L2
namespace HT
open PySem PyProof.Rows
section
open PySem.SeqAt
open PySem.AutoSeq1 (wpAny_loadPart')
open PySem.MeetsSeq PySem.MeetsSeq2 PySem.MeetsSeq3
end
variable{Q:vL->sH7->Prop}{lo hi:Ot Int}
section
variable{prog:Program}{w:World}{A:Around}{E:vL->sH7->Prop}{s:sH7}
theorem cat_tup{t b:Ad}{d a:Li vL}(x:IsTup s.heap t d.toArray)(y:IsTup s.heap b a.toArray)(p:d≠[])(B:a=[]->Q (.ref t) s)(z:a≠[]->Q (.ref s.heap.objs.size) { s with heap:=s.heap.push { cls:=.type "tuple",data:=.seq (d++a).toArray } })(l:d.length+a.length<=sizeLine):wpAny (model prog w) A (binaryOp .Add (.ref t) (.ref b)) Q E s:=by
  obtain⟨⟨cls,u,data,sl⟩,k,r,n,q⟩:=id x;obtain⟨⟨v,i,m,f⟩,c,h,o,g⟩:=id y;simp only at r q h g;subst r q h g;have e:d.toArray++a.toArray=(d++a).toArray:=by simp
  by_cases j:a=[]
  . exact concat_meets ⟨_,k,rfl⟩ ⟨_,c,rfl⟩ noFill_tuple_add seq_tuple_add PySem.F.slot_tuple_add PySem.F.entry_tuple_add (PySem.F.args_tuple_add_2 _ _)
      (tuple_addW1 t b d.toArray a.toArray n o u i sl f (by simpa using p) (by simp[j])) ⟨k,c,B j⟩
  . refine concat_meets ⟨_,k,rfl⟩ ⟨_,c,rfl⟩ noFill_tuple_add seq_tuple_add PySem.F.slot_tuple_add PySem.F.entry_tuple_add (PySem.F.args_tuple_add_2 _ _)
      (tuple_addW2 t b d.toArray a.toArray n o u i sl f (by simpa using p) (by simpa using j) (by rw[aL,aL];exact l)) ⟨k,c,?_⟩
    rw[e];exact z j
noncomputable def sIx(n d:Nat):Ot Int->Nat
  |none=>d
  |some v=>if v < 0 then (v+(n:Int)).toNat else min v.toNat n
theorem sIx_le(n d:Nat)(hd:d<=n)(o:Ot Int):sIx n d o<=n:=by
  cases o with
  |none=>exact hd
  |some v=>
    show(if v < 0 then (v+(n:Int)).toNat else min v.toNat n)<=n
    by_cases a:v < 0
    . rw[if_pos a];omega
    . rw[if_neg a];exact Nat.min_le_right _ _
theorem clip_eq(v:Int)(n d:Nat):(if v < 0 then max (v+(n:Int)) 0 else min v (n:Int))=((sIx n d (some v):Nat):Int):=by
  show(if v < 0 then max (v+(n:Int)) 0 else min v (n:Int))=(((if v < 0 then (v+(n:Int)).toNat else min v.toNat n):Nat):Int)
  by_cases a:v < 0
  . simp only[if_pos a];omega
  . simp only[if_neg a];omega
theorem adjust_gen(lo hi:Ot Int)(n:Nat):Builtin.Slice.sliceAdjust lo hi 1 (n:Int)=(((sIx n 0 lo:Nat):Int),((sIx n n hi:Nat):Int)):=by
  have a:¬((1:Int) < 0):=by omega
  unfold Builtin.Slice.sliceAdjust;simp only[a,if_false];refine Prod.ext ?_ ?_
  . cases lo with
    |none=>rfl
    |some v=>exact clip_eq v n 0
  . cases hi with
    |none=>rfl
    |some v=>exact clip_eq v n n
theorem places_gen(i j:Nat):Builtin.Slice.slicePlaces (i:Int) (j:Int) 1=j - i:=by
  unfold Builtin.Slice.slicePlaces;have a:(1:Int) > 0:=by omega
  simp only[a,if_true,Int.ediv_one];split<;>omega
theorem slicePart_{v:vL}{o:Ot Int}{Q:Ot Int->sH7->Prop}(p:IsPart v o)(h:Q o s):wpAny (model prog w) A (Builtin.Slice.slicePartIndex v) Q E s:=by
  cases p with
  |none=>exact slicePart_none h
  |int i t=>exact slicePart_int h
theorem sliceApplied_gen{sl:Ad}{d c:vL}{n:Nat}{Q:Int×Int×Nat->sH7->Prop}(g:s.heap.IsSliceOf sl d c .none)(f:IsPart d lo)(e:IsPart c hi)(h:Q (((sIx n 0 lo:Nat):Int),1,sIx n n hi - sIx n 0 lo) s):wpAny (model prog w) A (Builtin.Slice.sliceApplied (.ref sl) (pure (n:Int))) Q E s:=by
  obtain⟨j,a,i,b⟩:=id g;unfold Builtin.Slice.sliceApplied Builtin.Slice.sliceFields;refine aA (aA (wpAny_field a b (x:=d) rfl (aA (wpAny_field a b (x:=c) rfl (aA (wpAny_field a b (x:=.none) rfl (aB ?_)))))));refine aA (slicePart_none ?_);show wpAny _ _ (if ((1:Int)==0)=true then _ else _) _ _ s
  rw[if_neg (by decide)]
  refine aA (slicePart_ f (aA (slicePart_ e (aA (aB ?_)))));show wpAny _ _ (match Builtin.Slice.sliceAdjust lo hi 1 (n:Int) with | (lo,hi)=>pure (lo,(1:Int),Builtin.Slice.slicePlaces lo hi 1)) _ _ s
  rw[adjust_gen lo hi n];show wpAny _ _ (pure (((sIx n 0 lo:Nat):Int),(1:Int),Builtin.Slice.slicePlaces ((sIx n 0 lo:Nat):Int) ((sIx n n hi:Nat):Int) 1)) _ _ s;rw[places_gen];exact aB h
theorem pick_gen(a:Array vL)(i k:Nat):((List.range k).filterMap λ(m:Nat)=>a[((i:Int)+(m:Int) * 1).toNat]?).toArray=((a.toList.drop i).take k).toArray:=by
  have e:(λ(m:Nat)=>a[((i:Int)+(m:Int) * 1).toNat]?)=λm=>a[i+m]?:=by
    funext m
    have:((i:Int)+(m:Int) * 1).toNat=i+m:=by omega
    rw[this]
  rw[e];have:=pick_run a i k;rw[List.filterMap_map]at this;have b:((λx=>a[x]?) ∘ λx=>i+x)=λm=>a[i+m]?:=rfl
  rw[b]at this;rw[this]
theorem getItem_tuple_cut{t sl:Ad}{a:Array vL}{j i:vL}(c:IsTup s.heap t a)(k:s.heap.IsSliceOf sl j i .none)(n:IsPart j lo)(l:IsPart i hi)(p:¬(sIx a.size 0 lo=0/\sIx a.size a.size hi=a.size))(h:Q (.ref s.heap.objs.size) { s with heap:=s.heap.push { cls:=.type "tuple",data:=.seq ((a.toList.drop (sIx a.size 0 lo)).take (sIx a.size a.size hi - sIx a.size 0 lo)).toArray } })(r:a.size<=sizeLine):wpAny (model prog w) A (getItem (.ref t) (.ref sl)) Q E s:=by
  have b:sizeOk (.seq ((a.toList.drop (sIx a.size 0 lo)).take (sIx a.size a.size hi - sIx a.size 0 lo)).toArray):=by
    show((a.toList.drop (sIx a.size 0 lo)).take (sIx a.size a.size hi - sIx a.size 0 lo)).toArray.size<=sizeLine;rw[aL,bT,dJ,cX];omega
  have y:sIx a.size a.size hi<=a.size:=sIx_le _ _ (aD _) hi;obtain⟨o,d,f,u⟩:=id k;have g:s.TypeIs (.ref sl) "slice":=⟨o,d,f⟩;unfold getItem
  try with_reducible refine wpAny_holding ?_
  first|refine aA (aB ?_)|skip
  refine aA (wpAny_sequenceKey c.typeIs (by decide) ?_)
  refine aA (wpAny_callSpecial?_slot (name:=Str.ofString "__getitem__") c.typeIs PyProof.Rows.slot_tuple_getitem
    (wpAny_call_entry PyProof.Rows.slot_tuple_getitem c.typeIs entry_tuple_getitem ?_ (args_tuple_getitem _ _)))
  show wpAny _ _ (Builtin.Tuple.tupleItemsOf (.ref t) >>= _) _ _ s;refine aA (tupleItemsOf_ c ?_);refine aA (wpAny_typeOf g ?_);rw[if_pos (by decide)]
  refine aA (sliceApplied_gen k n l ?_);have e:¬((((sIx a.size 0 lo:Nat):Int)==0&&(1:Int)==1&&(sIx a.size a.size hi - sIx a.size 0 lo)==a.size)=true):=by
    intro q;rw[bA7,bA7]at q;have x:((sIx a.size 0 lo:Nat):Int)=0:=eq_of_beq q.1.1;have v:sIx a.size a.size hi - sIx a.size 0 lo=a.size:=eq_of_beq q.2;exact p ⟨by omega,by omega⟩
  show wpAny _ _ (if (((sIx a.size 0 lo:Nat):Int)==0&&(1:Int)==1&&(sIx a.size a.size hi - sIx a.size 0 lo)==a.size)=true then _ else _) _ _ s
  rw[if_neg e,pick_gen]
  first
    |exact aA (m:=Builtin.Tuple.tupleExact _) (wpAny_newObj_type (aB ⟨_,rfl,aB h⟩) b)
    |exact aA (m:=Builtin.Tuple.tupleExact _) (wpAny_newObj_type (aA (aB (aB ⟨_,rfl,aB h⟩))) b)
    |exact aA (aA (m:=Builtin.Tuple.tupleExact _) (wpAny_newObj_type (aB (aB ⟨_,rfl,aB h⟩)) b))
    |exact aA (aA (m:=Builtin.Tuple.tupleExact _) (wpAny_newObj_type (aB ⟨_,rfl,aB h⟩) b))
end
end HT
namespace L2
open PySem PySem.Spec PyProof.Rows
abbrev TO:=St->Hp->(Ot Int->Hp->Prop)->Prop
def PO(X:Cx)(e:Ot Expr)(t:TO):Prop:=
  ∀ (pQ:Li (Ad×Obj)) (s:sH7) (O:St) (H:Hp) (Q:Ot Int->Hp->Prop),Inv X pQ O H s->t O H Q->
    wpAny (model X.prog X.w) X.A (evalPart e X.env) (λu b=>∃ o a,Inv X pQ O a b/\IsPart u o/\Q o a) X.xe s
def tNoPart:TO:=λ_ H Q=>Q none H
def tPart(t:TE):TO:=λO H Q=>t O H λx a=>∃ i,x=.int i/\Q (some i) a
variable{xs:Li V}{us:Li vL}
variable{X:Cx}{e:Expr}{pos:Pos}
section
variable{te:TE}{lo hi:Ot Expr}{tl th:TO}{p2:Pos}
theorem po_none:PO X none tNoPart:=by
  intro a s O H Q I h;rw[evalPart_none];exact aB ⟨none,H,I,.none,h⟩
theorem po_some(h:PE X e te):PO X (some e) (tPart te):=by
  intro c s O H Q I d;rw[evalPart_some];refine thn (h c s O H _ I d) λu j ⟨x,g,f,a,b⟩=>?_
  obtain⟨i,rfl,q⟩:=b;obtain⟨t,rfl⟩:=a;exact⟨some i,g,f,.int i t,q⟩
def SlR(X:Cx)(r:V->Ot Int->Ot Int->Hp->VK->Prop):Prop:=
  ∀ (pQ:Li (Ad×Obj)) (s:sH7) (O:St) (H:Hp) (x:V) (v vl vu:vL) (lo hi:Ot Int) (sl:Ad) (Q:VK),Inv X pQ O H s->RelV x v->s.heap.IsSliceOf sl vl vu .none->IsPart vl lo->IsPart vu hi->r x lo hi H Q->
    ∃ T id,typeLookup (.type T) "__getitem__"=pure (some (.builtin id))/\s.TypeIs v T/\wpAny (model X.prog X.w) X.A (getItem v (.ref sl)) (EP X pQ O Q) X.xe s
def tSl(r:V->Ot Int->Ot Int->Hp->VK->Prop)(te:TE)(tl th:TO):TE:=λO H Q=>te O H λx c=>tl O c λl b=>th O b λu a=>r x l u a Q
theorem pe_slice{r:V->Ot Int->Ot Int->Hp->VK->Prop}(z:SlR X r)(D:PE X e te)(B:PO X lo tl)(hu:PO X hi th):PE X (.Subscript e (.Slice lo hi none p2) pos) (tSl r te tl th):=by
  intro c s O H Q I h;refine Subscript_ (thn (D c s O H _ I h) λv j ⟨x,M,K,k,o⟩=>?_)
  refine wpAny_Slice (thn (B c j O M _ K o) λf i ⟨l,L,J,t,n⟩=>thn (hu c i O L _ J n) λd a ⟨u,g,G,p,m⟩=>?_)
  rw[evalPart_none];refine aB ?_;have F:Inv X c O g { a with heap:=a.heap.push { cls:=.type "slice",data:=.fields #[f,d,.none] } }:=G.kept (t':=a.toks) λb N q=>aO _ q
  obtain⟨T,id,E,y,C⟩:=z c { a with heap:=a.heap.push { cls:=.type "slice",data:=.fields #[f,d,.none] } } O g x v f d l u a.heap.objs.size Q F k (Heap.IsSliceOf.new ..) t p m
  show wpAny (model X.prog X.w) X.A (subscriptTail e (.Slice lo hi none p2) v (.ref a.heap.objs.size)) (EP X c O Q) X.xe { a with heap:=a.heap.push { cls:=.type "slice",data:=.fields #[f,d,.none] } }
  exact tail_any (ops:=[.ref a.heap.objs.size,v]) y E C (by with_unfolding_all rfl)
noncomputable def cutV(xs:Li V)(lo hi:Ot Int):Li V:=(xs.drop (HT.sIx xs.length 0 lo)).take (HT.sIx xs.length xs.length hi - HT.sIx xs.length 0 lo)
theorem cutV_length(xs:Li V)(lo hi:Ot Int):(cutV xs lo hi).length<=xs.length:=by
  unfold cutV;rw[bT,dJ];omega
def rSlT(K:fG7):V->Ot Int->Ot Int->Hp->VK->Prop:=λx lo hi H Q=>∃ a xs,x=.ref a/\SqT K H a xs /\
  ¬(HT.sIx xs.length 0 lo=0/\HT.sIx xs.length xs.length hi=xs.length)/\∀ p,H p=none->Q (.ref p) (upd H p (.tup (cutV xs lo hi)))
theorem sl_tup:SlR X (rSlT X.K):=by
  intro p s O H x v n m lo hi sl Q I f l i g h;obtain⟨a,xs,rfl,j,k,q⟩:=h;cases f;obtain⟨its,r,e,d⟩:=I.tuple j;have c:its.toArray.size=xs.length:=by rw[aL];exact r.length.symm
  refine⟨"tuple",_,PyProof.Rows.slot_tuple_getitem.lookup,e.typeIs,?_⟩;refine HT.getItem_tuple_cut e l i g (by rw[c];exact k) ?_ (by rw[c];exact d)
  rw[c];refine⟨.ref s.heap.objs.size,_,I.laid (t':=s.toks) (o:=.tup (cutV xs lo hi)) (λb t q=>aO _ q) (aD _) ?_,rfl,q _ (I.hok.fresh (aD _))⟩
  exact⟨aP (cutV_length xs lo hi) d,_,(r.drop (HT.sIx xs.length 0 lo)).take (HT.sIx xs.length xs.length hi - HT.sIx xs.length 0 lo),IsTup.new _ _⟩
def rCatT(K:fG7):R2:=λx y H Q=>∃ a b xs c,x=.ref a/\y=.ref b/\SqT K H a xs/\SqT K H b c/\xs≠[]/\xs.length+c.length<=sizeLine /\
  (c=[]->Q (.ref a) H)/\(c≠[]->∀ p,H p=none->Q (.ref p) (upd H p (.tup (xs++c))))
theorem Vals.nil_iff(r:Vals xs us):us=[]↔xs=[]:=by
  cases r with
  |nil=>simp
  |cons _ _=>simp
theorem op_catT:OpR X (binaryOp .Add) (rCatT X.K):=by
  intro t s O H x y v u Q I j i h;obtain⟨a,b,xs,g,rfl,rfl,r,p,n,f,l,k⟩:=h;cases j;cases i;obtain⟨its,d,m,_⟩:=I.tuple r;obtain⟨e,c,p2,_⟩:=I.tuple p;refine HT.cat_tup m p2 (λz=>n (d.nil_iff.mp z)) (λz=>⟨.ref a,H,I,rfl,l (c.nil_iff.mp z)⟩) (λz=>?_) (by rw[<-d.length,<-c.length];exact f)
  refine⟨.ref s.heap.objs.size,_,I.laid (t':=s.toks) (o:=.tup (xs++g)) (λb A q=>aO _ q) (aD _) ?_,rfl,k (λw=>z (c.nil_iff.mpr w)) _ (I.hok.fresh (aD _))⟩
  exact⟨by rw[aK];exact f,_,d.append c,IsTup.new _ _⟩
end
noncomputable def ixN(n:Nat)(i:Int):Ot Nat:=if 0<=i then (if i < n then some i.toNat else none) else if -(n:Int)<=i then some (i+n).toNat else none
noncomputable def atI{a:Type}(xs:Li a)(i:Int):Ot a:=(ixN xs.length i).bind λj=>xs[j]?
variable{n:Nat}
theorem ixN_seq{i:Int}{j:Nat}(h:ixN n i=some j):seqIndex? i n=some j/\j < n/\-(n:Int)<=i/\i < n:=by
  unfold ixN at h;by_cases b:0<=i
  . rw[if_pos b]at h
    by_cases a:i < n
    . rw[if_pos a]at h
      have e:i.toNat=j:=Option.some.inj h;exact⟨by rw[seqIndex_of b a,e],by omega,by omega,a⟩
    . rw[if_neg a]at h;cases h
  . rw[if_neg b]at h
    by_cases a:-(n:Int)<=i
    . rw[if_pos a]at h
      have e:(i+n).toNat=j:=Option.some.inj h;exact⟨by rw[seqIndex_neg (by omega) a,e],by omega,a,by omega⟩
    . rw[if_neg a]at h;cases h
variable{α:Type}
theorem atI_get{xs:Li α}{i:Int}{v:α}(h:atI xs i=some v):∃ j,seqIndex? i xs.length=some j/\xs[j]?=some v/\j < xs.length/\-(xs.length:Int)<=i/\i < xs.length:=by
  unfold atI at h;cases e:ixN xs.length i with
  |none=>rw[e]at h;cases h
  |some j=>
    rw[e]at h;obtain⟨d,c,b,a⟩:=ixN_seq e;exact⟨j,d,h,c,b,a⟩
def PlainIx(b:Expr):Prop:=∀ o i,subscripted b false o i=operate [o,i] (getItem o i)
def IxR(X:Cx)(r:R2):Prop:=
  ∀ (value slice:Expr) (pQ:Li (Ad×Obj)) (s:sH7) (O:St) (H:Hp) (x y:V) (v u:vL) (Q:VK),Inv X pQ O H s->RelV x v->RelV y u->r x y H Q->
    subscripted slice false v u=operate [v,u] (getItem v u)->wpAny (model X.prog X.w) X.A (subscriptTail value slice v u) (EP X pQ O Q) X.xe s
def MtR(X:Cx)(id:String)(r:V->Li V->Hp->VK->Prop):Prop:=
  ∀ (pQ:Li (Ad×Obj)) (s:sH7) (O:St) (H:Hp) (x:V) (xs:Li V) (v:vL) (us:Li vL) (Q:VK),Inv X pQ O H s->RelV x v->Vals xs us->r x xs H Q->
    wpAny (model X.prog X.w) X.A (call (.builtin id) (v :: us)) (EP X pQ O Q) X.xe s
variable{pQ:Li (Ad×Obj)}{s:sH7}{its':Li vL}{y x:V}
section
variable{a b:Expr}{ta tb:TE}
theorem pe_ix{r:R2}(g:IxR X r)(j:PE X a ta)(i:PE X b tb)(f:PlainIx b):PE X (.Subscript a b pos) (tOp r ta tb):=by
  intro pQ s O H Q I h;exact Subscript_ (binT j i I h λv u c x y l k e d q=>g a b pQ c O l x y v u Q k e d q (f _ _))
def rIxL(K:fG7):R2:=λx y H Q=>∃ p xs i v,x=.ref p/\y=.int i/\SqL K H p xs/\atI xs i=some v/\Q v H
def rIxT(K:fG7):R2:=λx y H Q=>∃ p xs i v,x=.ref p/\y=.int i/\SqT K H p xs/\atI xs i=some v/\Q v H
def rIxS:R2:=λx y H Q=>∃ z i c,x=.str z/\y=.int i/\z.length<=sizeLine/\atI z.cps.toList i=some c/\Q (.str ⟨#[c]⟩) H
theorem ix_list:IxR X (rIxL X.K):=by
  intro c slice pQ s O H x y v u Q I o n h g;obtain⟨p,xs,i,z,rfl,rfl,A,C,q⟩:=h;cases o;obtain⟨t,rfl⟩:=n;obtain⟨its,r,e,G⟩:=I.list A;obtain⟨j,b,F,L,E,D⟩:=atI_get C;obtain⟨w,l,d⟩:=r.get F;have B:=r.length;have J:=line63;have a:EP X pQ O Q w s:=⟨z,H,I,d,q⟩;by_cases k:0<=i
  . have f:i.toNat=j:=by
      rw[seqIndex_of k D]at b;exact Option.some.inj b
    exact item_listR e.isList k (by omega) (by rw[f];simpa using l) a g
  . have f:(i+(its.toArray.size:Int)).toNat=j:=by
      rw[seqIndex_neg (by omega) E]at b
      rw[aL,<-B];exact Option.some.inj b
    exact subscriptTail_builtinR (x:=w) e.isList.typeIs slot_list_getitem.lookup
      (wpAny_getItem_list_neg (Q:=λr m=>r=w/\EP X pQ O Q r m) e.isList (by omega) (by rw[aL]<;>omega) (by omega) (by rw[f];simpa using l) ⟨rfl,a⟩) g
theorem ix_tup:IxR X (rIxT X.K):=by
  intro a slice pQ s O H x y v u Q I g f h k;obtain⟨p,xs,i,z,rfl,rfl,l,n,q⟩:=h;cases g;obtain⟨t,rfl⟩:=f;obtain⟨its,r,d,C⟩:=I.tuple l;obtain⟨j,A,o,G,F,E⟩:=atI_get n;obtain⟨w,B,b⟩:=r.get o;have m:=r.length;have D:=line63;have c:EP X pQ O Q w s:=⟨z,H,I,b,q⟩;exact subscriptTail_builtinR (x:=w) d.typeIs slot_tuple_getitem.lookup
    (getItem_tuple (j:=j) (Q:=λr e=>r=w/\EP X pQ O Q r e) d (by omega) (by omega) (by rw[aL,<-m];exact A) (by simpa using B) ⟨rfl,c⟩) k
theorem ix_str:IxR X rIxS:=by
  intro a slice pQ s O H x y v u Q I e d h f;obtain⟨z,i,c,rfl,rfl,w,k,q⟩:=h;obtain⟨t,rfl⟩:=e;obtain⟨r,rfl⟩:=d;obtain⟨j,b,n,B,m,l⟩:=atI_get k;have g:z.cps.toList.length=z.length:=by simp[Str.length]
  rw[g]at b m l;have A:=line63;exact tail_any (typeIs_str s z t) slot_str_getitem.lookup (getItem_str (c:=c) (by
    have p:decide (i < -(2 ^ 63:Int))=false:=aF (by omega)
    have o:decide (i>=2 ^ 63)=false:=aF (by omega)
    rw[p,o,Bool.or_false]) (by rw[b];simpa using n) ⟨.str ⟨#[c]⟩,H,I.tok _,⟨_,rfl⟩,q⟩) f
theorem mapSeq_set(its:Li vL)(n j:Nat)(u:vL):Obj.mapSeq (·.setIfInBounds j u) { cls:=.type "list",data:=.seq its.toArray n }={ cls:=.type "list",data:=.seq (its.set j u).toArray n }:=by
  simp[Obj.mapSeq]
theorem Inv.lst{pQ:Li (Ad×Obj)}{O:St}{H:Hp}{s:sH7}{p:Ad}{xs:Li V}(I:Inv X pQ O H s)(h:H p=some (.lst xs)) :
    ∃ (its:Li vL) (n:Nat),Vals xs its/\s.heap.get? p=some { cls:=.type "list",data:=.seq its.toArray n }/\xs.length<=sizeLine:=by
  obtain⟨z,its,n,r,e⟩:=I.hok p _ h;exact⟨its,n,r,e,z⟩
theorem Inv.lstUpd{O:St}{H:Hp}{p:Ad}{a:Li V}{its:Li vL}{c:Nat}{f:Obj->Obj}(I:Inv X pQ O H s)(h:H p=some (.lst xs))(i:s.heap.get? p=some { cls:=.type "list",data:=.seq its.toArray n })(d:f { cls:=.type "list",data:=.seq its.toArray n }={ cls:=.type "list",data:=.seq its'.toArray c })(r:Vals a its')(g:a.length<=sizeLine)(t:Nat) :
    Inv X pQ O (upd H p (.lst a)) { s with heap:=s.heap.update p f,toks:=t }:=by
  have e:(s.heap.update p f).get? p=some { cls:=.type "list",data:=.seq its'.toArray c }:=by
    rw[Heap.get?_update_self f i (by rw[d]<;>rfl),d]
  refine I.write (x:=p) (e:=p) (by rw[h];trivial) (.inl rfl) (λb u j q=>(Heap.get?_update_other _ _ (Ne.symm j)).trans q) ⟨_,e⟩ ?_
  exact⟨g,its',c,r,e⟩
def rSetL:V->V->V->Hp->(Hp->Prop)->Prop:=λo i v H Q=>∃ p xs k j,o=.ref p/\i=.int k/\H p=some (.lst xs)/\ixN xs.length k=some j/\Q (upd H p (.lst (xs.set j v)))
theorem set_list:PSet X rSetL:=by
  intro pQ s O H o i v B C u Q I x y w h;obtain⟨p,xs,k,j,rfl,rfl,e,A,q⟩:=h;cases x;obtain⟨t,rfl⟩:=y;obtain⟨its,n,r,b,z⟩:=I.lst e;obtain⟨a,E,g,f⟩:=ixN_seq A;have c:=r.length;have D:=line63;have m:Inv X pQ O (upd H p (.lst (xs.set j v))) { s with heap:=s.heap.update p (Obj.mapSeq (·.setIfInBounds j u)) }:=
    I.lstUpd e b (mapSeq_set its n j u) (r.set w j) (by rw[bF];exact z) s.toks
  by_cases l:0<=k
  . have d:k.toNat=j:=by
      rw[seqIndex_of l f]at a;exact Option.some.inj a
    exact W.ki_setAt b l (by omega) (by rw[aL,<-c];exact f) (by rw[d];exact⟨_,m,q⟩)
  . have d:(k+(its.toArray.size:Int)).toNat=j:=by
      rw[seqIndex_neg (by omega) g]at a
      rw[aL,<-c];exact Option.some.inj a
    exact W.ki_setBack b (by omega) (by rw[aL,<-c];exact g) (by omega) (by rw[d];exact⟨_,m,q⟩)
theorem slice_bounds(a b:Ot Int)(n:Nat):(sliceBounds a b none n).1=((HT.sIx n 0 a:Nat):Int)/\(sliceBounds a b none n).2.1=((HT.sIx n n b:Nat):Int)/\(sliceBounds a b none n).2.2=1:=by
  refine⟨?_,?_,rfl⟩
  . cases a with
    |none=>simp[sliceBounds,HT.sIx]
    |some i=>
      simp only[sliceBounds,HT.sIx,Option.getD_none,show(1:Int) > 0 by decide,if_true]
      by_cases h:i < 0
      . simp only[h,if_true]<;>omega
      . simp only[h,if_false]<;>omega
  . cases b with
    |none=>simp[sliceBounds,HT.sIx]
    |some i=>
      simp only[sliceBounds,HT.sIx,Option.getD_none,show(1:Int) > 0 by decide,if_true]
      by_cases h:i < 0
      . simp only[h,if_true]<;>omega
      . simp only[h,if_false]<;>omega
theorem slicePick_cut(its:Li vL)(a b:Ot Int):slicePick its.toArray a b none=((its.drop (HT.sIx its.length 0 a)).take (HT.sIx its.length its.length b - HT.sIx its.length 0 a)).toArray:=by
  obtain⟨e,d,c⟩:=slice_bounds a b its.toArray.size;unfold slicePick;rw[e,d,c];simp only[sliceRange_one,pick_run,aL]<;>rfl
def rSlL(K:fG7):V->Ot Int->Ot Int->Hp->VK->Prop:=λx b c H Q=>∃ a xs,x=.ref a/\SqL K H a xs/\∀ p,H p=none->Q (.ref p) (upd H p (.lst (cutV xs b c)))
theorem sl_list:SlR X (rSlL X.K):=by
  intro pQ s O H x v p n d e sl Q I g m j i h;obtain⟨a,xs,rfl,l,q⟩:=h;cases g;obtain⟨its,r,f,k⟩:=I.list l;have c:=r.length;refine⟨"list",_,slot_list_getitem.lookup,f.isList.typeIs,?_⟩;refine wpAny_getItem_list_slice f.isList m j i .none (by simp) ?_ (by rw[aL]<;>omega)
  rw[slicePick_cut,<-c];refine⟨.ref s.heap.objs.size,_,I.laid (t':=s.toks) (o:=.lst (cutV xs d e)) (λb t q=>aO _ q) (aD _) ?_,rfl,q _ (I.hok.fresh (aD _))⟩
  exact⟨aP (cutV_length xs d e) k,_,0,(r.drop (HT.sIx xs.length 0 d)).take (HT.sIx xs.length xs.length e - HT.sIx xs.length 0 d),aY _ rfl⟩
noncomputable def flatV:V->Bool
  |.non=>true
  |.bl _=>true
  |.int _=>true
  |.str _=>true
  |_=>false
noncomputable def eqV:V->V->Bool
  |.non,.non=>true
  |.bl a,.bl b=>a==b
  |.bl a,.int b=>(if a then 1 else 0)==b
  |.int a,.bl b=>a==(if b then 1 else 0)
  |.int a,.int b=>a==b
  |.str a,.str b=>a==b
  |_,_=>false
theorem eqAt_V{A:Around}{u v:vL}(e:RelV y u)(c:RelV x v)(g:flatV y=true)(f:flatV x=true):SeqAt.EqAt A s u v (eqV y x):=by
  cases y with
  |non=>
    cases e;cases x with
    |non=>cases c;exact SeqAt.EqAt.same _
    |bl b=>cases c;exact SeqAt.EqAt.none_bool b
    |int b=>obtain⟨t,rfl⟩:=c;exact SeqAt.EqAt.none_int b t
    |str b=>obtain⟨t,rfl⟩:=c;exact SeqAt.EqAt.none_str b t
    |_=>exact absurd (show false=true from f) bF7
  |bl a=>
    cases e;cases x with
    |non=>cases c;exact SeqAt.EqAt.bool_none a
    |bl b=>cases c;exact SeqAt.EqAt.bool_bool a b
    |int b=>obtain⟨t,rfl⟩:=c;exact SeqAt.EqAt.bool_int a b t
    |str b=>obtain⟨t,rfl⟩:=c;exact SeqAt.EqAt.bool_str a b t
    |_=>exact absurd (show false=true from f) bF7
  |int a=>
    obtain⟨d,rfl⟩:=e;cases x with
    |non=>cases c;exact SeqAt.EqAt.int_none a d
    |bl b=>cases c;exact SeqAt.EqAt.int_bool a d b
    |int b=>obtain⟨t,rfl⟩:=c;exact SeqAt.EqAt.int_int a d b t
    |str b=>obtain⟨t,rfl⟩:=c;exact SeqAt.EqAt.int_str a d b t
    |_=>exact absurd (show false=true from f) bF7
  |str a=>
    obtain⟨d,rfl⟩:=e;cases x with
    |non=>cases c;exact SeqAt.EqAt.str_none a d
    |bl b=>cases c;exact SeqAt.EqAt.str_bool a d b
    |int b=>obtain⟨t,rfl⟩:=c;exact SeqAt.EqAt.str_int a d b t
    |str b=>obtain⟨t,rfl⟩:=c;exact SeqAt.EqAt.str_str a d b t
    |_=>exact absurd (show false=true from f) bF7
  |_=>exact absurd (show false=true from g) bF7
noncomputable def eqU(x:V)(u:vL):Bool:=match u with
  |.none=>eqV .non x
  |.bool b=>eqV (.bl b) x
  |.int i _=>eqV (.int i) x
  |.str z _=>eqV (.str z) x
  |_=>false
theorem eqU_of{u:vL}(r:RelV y u)(f:flatV y=true):eqU x u=eqV y x:=by
  cases y with
  |non=>cases r;rfl
  |bl b=>cases r;rfl
  |int i=>obtain⟨t,rfl⟩:=r;rfl
  |str z=>obtain⟨t,rfl⟩:=r;rfl
  |_=>exact absurd (show false=true from f) bF7
theorem any_eqU{x:V}:∀ {xs:Li V}{us:Li vL},Vals xs us->xs.all flatV=true->us.any (eqU x)=xs.any λy=>eqV y x
  |_,_,.nil,_=>rfl
  |y :: xs,u :: us,.cons r t,f=>by
    rw[bA,bA7]at f;rw[cP,cP,eqU_of r f.1,any_eqU t f.2]
theorem mem_eqAt{A:Around}{s:sH7}{x:V}{v:vL}(a:RelV x v)(b:flatV x=true):∀ {xs:Li V}{us:Li vL},Vals xs us->xs.all flatV=true->∀ u∈us,SeqAt.EqAt A s u v (eqU x u)
  |_,_,.nil,_=>λu hu=>by cases hu
  |y :: xs,u :: us,.cons r t,f=>λc hu=>by
    rw[bA,bA7]at f;rcases aH.mp hu with rfl|hu
    . rw[eqU_of r f.1];exact eqAt_V r a f.1 b
    . exact mem_eqAt a b t f.2 c hu
noncomputable def inV(x:V)(xs:Li V):Bool:=xs.any λy=>eqV y x
def rIn(K:fG7)(neg:Bool):R2:=λx y H Q=>∃ p xs,y=.ref p/\(SqL K H p xs\/SqT K H p xs)/\flatV x=true/\xs.all flatV=true/\Q (.bl (if neg then !inV x xs else inV x xs)) H
theorem op_in_seq:OpR X (compareOp .In) (rIn X.K false):=by
  intro pQ s O H x y v u Q I c e h;obtain⟨p,xs,rfl,hq,d,fs,q⟩:=h;cases e;rcases hq with hq|hq
  . obtain⟨its,r,a,f⟩:=I.list hq
    refine SeqAt.in_listAt (eqU x) a.isList (λw b=>mem_eqAt c d r fs w (by simpa using b)) ⟨.bl _,H,I,rfl,?_⟩
    rw[show its.toArray.any (eqU x)=its.any (eqU x) by simp,any_eqU r fs]
    exact q
  . obtain⟨its,r,a,f⟩:=I.tuple hq
    refine SeqAt.in_tupleAt (eqU x) a (λw b=>mem_eqAt c d r fs w (by simpa using b)) ⟨.bl _,H,I,rfl,?_⟩
    rw[show its.toArray.any (eqU x)=its.any (eqU x) by simp,any_eqU r fs]
    exact q
theorem op_notIn_seq:OpR X (compareOp .NotIn) (rIn X.K true):=by
  intro pQ s O H x y v u Q I c e h;obtain⟨p,xs,rfl,hq,d,fs,q⟩:=h;cases e;rcases hq with hq|hq
  . obtain⟨its,r,a,f⟩:=I.list hq
    refine SeqAt.notIn_listAt (eqU x) a.isList (λw b=>mem_eqAt c d r fs w (by simpa using b)) ⟨.bl _,H,I,rfl,?_⟩
    rw[show its.toArray.any (eqU x)=its.any (eqU x) by simp,any_eqU r fs]
    exact q
  . obtain⟨its,r,a,f⟩:=I.tuple hq
    refine SeqAt.notIn_tupleAt (eqU x) a (λw b=>mem_eqAt c d r fs w (by simpa using b)) ⟨.bl _,H,I,rfl,?_⟩
    rw[show its.toArray.any (eqU x)=its.any (eqU x) by simp,any_eqU r fs]
    exact q
theorem op_notIn_str:OpR X (compareOp .NotIn) (λx y H Q=>∃ i j,x=.str i/\y=.str j/\Q (.bl (!(!(Builtin.Str.occurrences j i 0 j.length 1).isEmpty))) H):=by
  intro pQ s O H x y v u Q I b a h;obtain⟨i,j,rfl,rfl,q⟩:=h;obtain⟨t,rfl⟩:=b;obtain⟨c,rfl⟩:=a;exact notIn_str ⟨.bl _,H,I,rfl,q⟩
theorem call_len_seq:CallR X (.builtin "len") (λxs H Q=>∃ p b,xs=[.ref p]/\(SqL X.K H p b\/SqT X.K H p b)/\Q (.int b.length) H):=by
  intro pQ s O H xs us Q I r h;obtain⟨p,b,rfl,hq,q⟩:=h;obtain⟨u,rfl,e⟩:=vals1 r;cases e;have g:=line63;rcases hq with hq|hq
  . obtain⟨its,c,d,f⟩:=I.list hq
    have a:=c.length;exact Calls.call_len_list d.isList (by simp only[aL]<;>omega) ⟨.int b.length,H,I.tok _,⟨s.toks+1,by rw[aL,a]⟩,q⟩
  . obtain⟨its,c,d,f⟩:=I.tuple hq
    have a:=c.length;exact len_tuple d (by simp only[aL]<;>omega) ⟨.int b.length,H,I.tok _,⟨s.toks+1,by rw[aL,a]⟩,q⟩
theorem call_list_of:CallR X (.type "list") (λxs H Q=>∃ p c,xs=[.ref p]/\(SqL X.K H p c\/SqT X.K H p c)/\∀ l,H l=none->Q (.ref l) (upd H l (.lst c))):=by
  intro pQ s O H xs us Q I r h;obtain⟨p,c,rfl,hq,q⟩:=h;obtain⟨u,rfl,z⟩:=vals1 r;cases z;have k:∀ (its:Li vL),Vals c its->c.length<=sizeLine->∀ (a:Heap) (f:Nat),(∀ b y,s.heap.get? b=some y->a.get? b=some y)->
      a.get? s.heap.objs.size=some { cls:=.type "list",dict:=none,data:=.seq its.toArray f,slots:=#[] }->EP X pQ O Q (.ref s.heap.objs.size) { s with heap:=a }:=λits d i a f g e=>
    ⟨.ref s.heap.objs.size,_,I.laid (t':=s.toks) g (aD _) (show ObjOk X.prog X.w _ a _ (.lst c) from⟨i,its,f,d,e⟩),rfl,q _ (I.hok.fresh (aD _))⟩
  rcases hq with hq|hq
  . obtain⟨its,d,m,i⟩:=I.list hq
    have j:=d.length;obtain⟨o,t,x,n,v⟩:=m.isList;exact call_list_seq p (.inl rfl) t x v (λa f g e=>k its d i a f g e) (by simp only[aL]<;>omega)
  . obtain⟨its,d,m,i⟩:=I.tuple hq
    have j:=d.length;obtain⟨o,t,x,n,v⟩:=m;exact call_list_seq p (.inr rfl) t x v (λa f g e=>k its d i a f g e) (by simp only[aL]<;>omega)
theorem call_tuple_of:CallR X (.type "tuple") (λxs H Q=>∃ p a,xs=[.ref p]/\((SqL X.K H p a/\∀ l,H l=none->Q (.ref l) (upd H l (.tup a)))\/(SqT X.K H p a/\Q (.ref p) H))):=by
  intro pQ s O H xs us Q I r h;obtain⟨p,a,rfl,h⟩:=h;obtain⟨u,rfl,m⟩:=vals1 r;cases m;rcases h with⟨g,q⟩|⟨g,q⟩
  . obtain⟨its,d,f,i⟩:=I.list g
    have j:=d.length;refine call_tuple_list f.isList (λc n=>?_) (by simp only[aL]<;>omega)
    have k:Inv X pQ O H { s with heap:=c }:=I.kept (t':=s.toks) n
    have t:Inv X pQ O (upd H c.objs.size (.tup a)) { s with heap:=c.push { cls:=.type "tuple",data:=.seq its.toArray } }:=
      k.laid (t':=s.toks) (λb o e=>aO _ e) (aD _) (show ObjOk X.prog X.w _ _ _ (.tup a) from⟨i,its,d,IsTup.new _ _⟩)
    exact⟨.ref c.objs.size,_,t,rfl,q _ (k.hok.fresh (aD _))⟩
  . obtain⟨its,d,f,i⟩:=I.tuple g
    exact call_tuple_same f ⟨.ref p,H,I,rfl,q⟩
def tyV(K:fG7)(T:String)(x:V)(H:Hp):Prop:=match x with
  |.str _=>T = "str"
  |.int _=>T = "int"
  |.ref p=>(T = "list"/\∃ xs,SqL K H p xs)\/(T = "tuple"/\∃ o,K.lookup p=some o/\o.cls=.type "tuple"/\o.dict=none) \/
      (T = "dict"/\((∃ a,H p=some (.dK a))\/∃ a,H p=some (.dN a)))\/(T = "set"/\∃ S n,H p=some (.set S n))
  |_=>False
theorem tyV_is{O:St}{H:Hp}{T:String}{v:vL}(I:Inv X pQ O H s)(r:RelV x v)(ty:tyV X.K T x H) :
    s.TypeIs v T/\∀ a,v=.ref a->∃ j,s.heap.get? a=some j/\j.dict=none:=by
  cases x with
  |str z=>
    obtain⟨t,rfl⟩:=r;cases (show T = "str" from ty)
    exact⟨typeIs_str s z t,λ_ e=>nomatch e⟩
  |int i=>
    obtain⟨t,rfl⟩:=r;cases (show T = "int" from ty)
    exact⟨typeIs_int s i t,λ_ e=>nomatch e⟩
  |ref p=>
    cases r;rcases ty with⟨rfl,xs,k⟩|⟨rfl,o,b,l,f⟩|⟨rfl,b⟩|⟨rfl,S,n,b⟩
    . obtain⟨its,_,h,_⟩:=I.list k
      refine⟨h.isList.typeIs,λa e=>?_⟩
      cases e;obtain⟨o,n,e,c,f,_⟩:=h;exact⟨o,e,f⟩
    . refine⟨⟨o,I.kIn p o b,l⟩,λa e=>?_⟩
      cases e;exact⟨o,I.kIn _ o b,f⟩
    . have z:∃ o,s.heap.get? p=some o/\o.ExactDict:=by
        rcases b with⟨d,b⟩|⟨d,b⟩
        . obtain⟨_,_,_,_,o,_,_,e,ex,_⟩:=I.hok p _ b
          exact⟨o,e,ex⟩
        . obtain⟨_,o,_,e,ex,_⟩:=I.hok p _ b
          exact⟨o,e,ex⟩
      obtain⟨o,e,ex⟩:=z;refine⟨⟨o,e,ex.1⟩,λa g=>?_⟩
      cases g;exact⟨o,e,ex.2.1⟩
    . obtain⟨o,_,_,_,e,ex,_⟩:=I.hok p _ b
      refine⟨⟨o,e,ex.1⟩,λa g=>?_⟩
      cases g;exact⟨o,e,ex.2.1⟩
  |_=>exact False.elim ty
def tBM(K:fG7)(T:String)(r:V->Li V->Hp->VK->Prop)(b:TE)(t:TA):TE:=λO H Q=>b O H λx a=>tyV K T x a/\t O a λxs c=>r x xs c Q
variable{o:Expr}{es:Li Expr}{to:TE}{t:TA}{name:Str}{apos cpos:Pos}{T id:String}{r:V->Li V->Hp->VK->Prop}
theorem pe_bm(u:PlainAttrs T)(slot:Slot T name id)(f:typeOf (.builtin id)=pure (.type "method_descriptor"))(z:MtR X id r)(y:PE X o to)(A:PA X (e :: es) t)(c:attributeBase o name X.env (eval o X.env)=eval o X.env:=by rfl)(d:((backTo cpos (starEach (e :: es) X.env)).all (λx=>!x.1)&&(backToKw cpos (keywordEach [] X.env)).all (λx=>x.1.isSome)
     &&decide ((e :: es).length+([]:Li Keyword).length+(if ([]:Li Keyword).isEmpty then 0 else 1) < 30))=true:=by rfl)(b:(apos.endLine==cpos.line)=true:=by rfl)(w:starEach (e :: es) X.env=(false,eval e X.env) :: starEach es X.env:=by rfl)(a:(backTo cpos (starEach es X.env)).any (·.1)=false:=by rfl) :
    PE X (.Call (.Attribute o name apos) (e :: es) [] cpos) (tBM X.K T r to t):=by
  intro pQ s O H Q I h;refine wpAny_Call_method_late c d b rfl (thn (y pQ s O H _ I h) λv m ⟨x,F,j,g,ty,q⟩=>?_)
  obtain⟨C,B⟩:=tyV_is j g ty;refine⟨T,id,u,slot,f,C,B,?_⟩;have i:=A cpos pQ m O F _ j q;rw[w]at i ⊢;refine Calls.callWith_builtin (by show(false||(backTo cpos (starEach es X.env)).any (·.1))=false;rw[a]<;>rfl) (Calls.evalArgs_plain ?_)
  exact thn i λus l ⟨k,E,D,n,p⟩=>z pQ l O E x k v us Q D g n p
end
def MtM(X:Cx)(id:String)(r:V->Li V->Hp->VK->Prop):Prop:=
  ∀ (pQ:Li (Ad×Obj)) (s:sH7) (O:St) (H:Hp) (x:V) (xs:Li V) (v:vL) (us:Li vL) (Q:VK),Inv X pQ O H s->RelV x v->Vals xs us->r x xs H Q->
    wpAny (model X.prog X.w) X.A (call (.builtin id) (v :: us)) (EP X pQ O Q) X.xe s
theorem Vals.one(h:Vals [x] us):∃ u,us=[u]/\RelV x u:=by
  cases h with
  |cons r h=>cases h;exact⟨_,rfl,r⟩
theorem Vals.two(h:Vals [x,y] us):∃ u v,us=[u,v]/\RelV x u/\RelV y v:=by
  cases h with
  |cons r h=>cases h with
    |cons q h=>cases h;exact⟨_,_,rfl,r,q⟩
theorem Vals.rep(h:Vals xs us):∀ k:Nat,Vals (List.replicate k xs).flatten (List.replicate k us).flatten
  |0=>.nil
  |k+1=>by
    rw[bY,bY,cZ,cZ];exact Vals.append h (Vals.rep h k)
theorem foldl_rep(its:Li vL):∀ (k:Nat) (a:Li vL),
    List.foldl (λc b=>c++b) a.toArray (List.replicate k its.toArray)=(a++(List.replicate k its).flatten).toArray
  |0,a=>by simp
  |k+1,a=>by
    have e:a.toArray++its.toArray=(a++its).toArray:=by simp
    have d:(a++its)++(List.replicate k its).flatten=a++(List.replicate (k+1) its).flatten:=by
      rw[bY,cZ,bP]
    rw[<-d,<-foldl_rep its k (a++its),<-e,bY,dY]
variable{pQ:Li (Ad×Obj)}{s:sH7}{xs:Li V}
section
variable{O:St}{H:Hp}{l b:Ad}{ys zs:Li V}
theorem Inv.lset{its:Li vL}{f:Array vL->Array vL}{a:Nat}(I:Inv X pQ O H s)(i:H l=some (.lst xs))(e:s.heap.get? l=some { cls:=.type "list",data:=.seq its.toArray n })(g:f its.toArray=its'.toArray)(c:Vals ys its')(b:ys.length<=sizeLine) :
    Inv X pQ O (upd H l (.lst ys)) { s with heap:=s.heap.update l (Obj.mapSeq f),toks:=a }:=by
  have q:=PySem.IsL.update e f;rw[g]at q;refine I.write (x:=l) (e:=l) (by rw[i];exact trivial) (.inl rfl) (λj u h d=>(Heap.get?_update_other s.heap (Obj.mapSeq f) (Ne.symm h)).trans d) ⟨_,q⟩ ?_
  exact⟨b,its',_,c,q⟩
theorem Inv.lnew{its:Li vL}{t':Nat}(I:Inv X pQ O H s)(b:Vals ys its)(a:ys.length<=sizeLine) :
    Inv X pQ O (upd H s.heap.objs.size (.lst ys)) { s with heap:=s.heap.push { cls:=.type "list",data:=.seq its.toArray },toks:=t' }:=
  I.laid (λ_ _ q=>aO _ q) (aD _) ⟨a,its,0,b,aY _ rfl⟩
theorem Inv.fresh(I:Inv X pQ O H s):H s.heap.objs.size=none:=I.hok.fresh (aD _)
theorem Inv.lstM(I:Inv X pQ O H s)(a:H l=some (.lst xs)):xs.length<=sizeLine/\∃ (its:Li vL) (n:Nat),Vals xs its/\xs.length=its.length/\s.heap.get? l=some { cls:=.type "list",data:=.seq its.toArray n }:=by
  obtain⟨z,its,n,r,e⟩:=I.hok l _ a;exact⟨z,its,n,r,r.length,e⟩
theorem notLongL(h:n<=sizeLine):Builtin.List.listTooLong n=false:=by
  unfold Builtin.List.listTooLong;exact aF (by omega)
end
def rAppend:V->Li V->Hp->VK->Prop:=λx a H Q=>∃ l xs y,x=.ref l/\a=[y]/\H l=some (.lst xs)/\xs.length < sizeLine/\Q .non (upd H l (.lst (xs++[y])))
theorem mt_append:MtM X "list.append" rAppend:=by
  intro pQ s O H x f v us Q I b c h;obtain⟨l,xs,y,rfl,rfl,a,g,q⟩:=h;cases b;obtain⟨u,rfl,d⟩:=c.one;obtain⟨z,its,n,r,i,e⟩:=I.lstM a;refine call_meets F.slot_list_append ⟨_,e,rfl⟩ F.entry_list_append (F.args_list_append_2 _ _) (PySem.list_append l its.toArray n u (by rw[aL];omega)) ⟨e,?_⟩
  refine⟨.non,_,I.lset (its':=its++[u]) a e (by simp) (r.append (.cons d .nil)) ?_,rfl,q⟩
  rw[aK,eL];omega
def rExtend:V->Li V->Hp->VK->Prop:=λx c H Q=>∃ l b xs a,x=.ref l/\c=[.ref b]/\H l=some (.lst xs)/\H b=some (.lst a)/\xs.length+a.length<=sizeLine/\Q .non (upd H l (.lst (xs++a)))
theorem mt_extend:MtM X "list.extend" rExtend:=by
  intro pQ s O H x A v us Q I g i h;obtain⟨l,b,xs,w,rfl,rfl,f,p,B,q⟩:=h;cases g;obtain⟨u,rfl,j⟩:=i.one;cases j;obtain⟨z,its,n,r,C,e⟩:=I.lstM f;obtain⟨y,a,m,k,o,t⟩:=I.lstM p;have d:its.toArray.size+a.toArray.size<=sizeLine:=by rw[aL,aL];omega
  have c:¬(!its.toArray.isEmpty&&Builtin.List.listTooLong (its.toArray.size+a.toArray.size))=true:=by
    rw[notLongL d,dA];exact bF7
  refine call_meets F.slot_list_extend ⟨_,e,rfl⟩ F.entry_list_extend (F.args_list_extend_2 _ _)
    (AutoSeq1.list_extend_list_list_0 l its.toArray n b a.toArray m c (by rw[aL];omega) (by omega)) ⟨e,t,?_⟩
  refine⟨.non,_,I.lset (its':=its++a) f e (by simp) (r.append k) ?_,rfl,q⟩
  rw[aK];omega
def rRep:R2:=λx y H Q=>∃ l k xs,x=.ref l/\y=.int k/\H l=some (.lst xs)/\-(2 ^ 63)<=k/\k < 2 ^ 63/\xs.length * k.toNat<=sizeLine /\
  ∀ p,H p=none->Q (.ref p) (upd H p (.lst (List.replicate k.toNat xs).flatten))
theorem len_rep(xs:Li α)(k:Nat):(List.replicate k xs).flatten.length=k * xs.length:=by
  induction k with
  |zero=>simp
  |succ k a=>rw[bY,cZ,aK,a,Nat.succ_mul,Nat.add_comm]
theorem op_rep:OpR X (binaryOp .Mult) rRep:=by
  intro pQ s O H x y v u Q I A w h;obtain⟨l,k,xs,rfl,rfl,C,E,D,o,q⟩:=h;cases A;obtain⟨t,rfl⟩:=w;obtain⟨z,its,n,r,B,e⟩:=I.lstM C;have d:its.toArray.size * k.toNat<=sizeLine:=by rw[aL,<-B];exact o
  have g:¬its.toArray.size * k.toNat > (2 ^ 63 - 1) / 8:=by
    have:(sizeLine:Nat)<=(2 ^ 63 - 1) / 8:=by decide
    omega
  have f:¬(!Builtin.List.listFitsIndex k)=true:=by
    rw[fitsIndex_both E D];exact bF7
  have b:¬Builtin.List.listTooLong (its.toArray.size * k.toNat)=true:=by
    rw[notLongL d];exact bF7
  have c:List.foldl (λj i=>j++i) #[] (List.replicate (if its.toArray.isEmpty=true then 0 else k.toNat) its.toArray)=(List.replicate k.toNat its).flatten.toArray:=by
    have f0:∀ m:Nat,List.foldl (λj i=>j++i) #[] (List.replicate m its.toArray)=(List.replicate m its).flatten.toArray:=λm=>by
      have:=foldl_rep its m [];rw[dL]at this;exact this
    rw[f0];cases its with
    |nil=>simp
    |cons a G=>rw[if_neg (by simp)]
  refine wpAny_binaryOp_repeat_ref (T := "list") (U := "int") (by decide) ⟨_,e,rfl⟩ (λp=>typeIs_int p k t) noFill_list_mul F.fills_int_mul F.slot_int_rmul repeat_list F.slot_int_index.lookup
    (call_meets F.slot_int_rmul (typeIs_int s k t) F.entry_int_rmul (F.args_int_rmul_2 _ _) (int___rmul___int_list k t l its.toArray n)
      ⟨e,rfl,⟨_,e,rfl⟩,call_meets F.slot_list_mul ⟨_,e,rfl⟩ F.entry_list_mul (F.args_list_mul_2 _ _) (AutoListH.list___mul___list_int_3 l its.toArray n k t f g b) ⟨e,?_⟩⟩)
  rw[c];exact⟨.ref _,_,I.lnew (t':=s.toks) (r.rep k.toNat) (by rw[len_rep,Nat.mul_comm];exact o),rfl,q _ I.fresh⟩
section
variable{prog:Program}{w:World}{A:Around}{E:vL->sH7->Prop}
end
end L2
namespace Att
open PySem PySem.W PySem.Calls PyProof.Rows
variable{h:Heap}
theorem ints_of_wellAll{P:Params}:∀ (c:Li Int) (d:Li vL),WellAll P h d (c.map WData.int)->IntsAre d c:=by
  intro c
  induction c with
  |nil=>
    intro d w;rw[List.map_nil]at w;cases w;exact .nil
  |cons n c e=>
    intro d w;rw[aM]at w;cases w with
    |cons a b=>
      cases a;exact .cons _ _ (e _ b)
variable{l:OpenLaw}
theorem script_of{n:Nat}(w:l.most=some n){P:Params}{args:Li WData}{c:Li vL}(e:l.row.toRowW.claim.pre args=true)(k:WellAll P h c args) :
    ∃ a o b,c=[Value.ref a]/\args=[WData.list (b.map WData.int)]/\h.get? a=some { cls:=.type "list",data:=.seq o.toArray }/\IntsAre o b/\b.length<=n:=by
  have m:WShape.hasAll [] args [.list .int]=true:=(pre_splitW e).1;have p:l.pre.holds [] { args:=args }=true:=(pre_splitW e).2;obtain⟨d,r,rfl,z,y⟩:=hasAllW_cons m;obtain rfl:=hasAllW_nil y;obtain⟨A,rfl,x⟩:=hasW_list z;obtain⟨b,rfl⟩:=items_int x;have f:b.length<=n:=by
    unfold OpenLaw.pre at p;have j:(WTm.not (.lt (.lit (.int (n:Int))) (.len (.arg 0)))).holds [] { args:=[.list (b.map .int)] }=true:=by
      have j:=(holds_andW p).1;rw[w]at j;exact j
    have i:=condW_of j (w_not (w_lt w_lit (w_len_list (w_arg rfl))));rw[aE]at i;refine dZ λq=>?_
    have u:(n:Int) < ((b.length:Nat):Int):=by omega
    first
      | (rw[aG u]at i;exact absurd i (by decide))
      | (simp at i;omega)
  cases k with
  |cons t s=>
    cases s;cases t with
    |list v g=>exact⟨_,_,b,rfl,rfl,v,ints_of_wellAll b _ g,f⟩
theorem post_true(l:OpenLaw)(args:Li WData):l.row.toRowW.claim.post args (.bool true) args=true:=
  postW_of (r:=l.row.toRowW) (X:=(true==true))
    (show WShape.has [] (.bool true) .bool=true by first|rfl|decide|simp[WShape.has,WShape.arms,WShape.armsAll])
    (show(WTm.eq .res (.lit (.bool true))).value [] { args:=args,res:=some (.bool true),after:=args }=some (.bool (true==true)) from w_eq_bool (w_res rfl) w_lit) rfl
theorem attach_call{n:Nat}{q:Program}{c:Li Str}{H:(Str->Ot vL)->Heap->Prop}{F:World->Heap->Prop}{d:DefRec}(L:l.most=some n)(z:d.params.defaults=[])(call:∀ (w:World) (s₀ b:sH7) (mg v:Str->Ot vL) (m:Ad) (o:Obj) (u t g:vL) (a:Ad) (h:Li vL) (s:Li Int),
      Ground q c [] H w s₀ mg v b.heap->F w b.heap->
      b.heap.get? m=some o->o.data=.func (docDef d.name d.params d.body d.scope u t g)->b.heap.CodeRec t d.name->mg d.name=some (.ref m)->
      b.heap.get? a=some { cls:=.type "list",data:=.seq h.toArray }->IntsAre h s->s.length<=n->b.gens=#[]->
      codeAny (model l.prog w) callerA (.call (.ref m) ⟨[.ref a],[]⟩) (λr p=>r=.ok (.ret (.bool true))/\OldK b.heap p.heap/\p.os=b.os/\AllBare p.gens) b) :
    WalkO q c H F l.row.toRowW d [] (λf h=>PySem.call f h):=by
  intro w s₀ b mg v G Y m o u t g T kV K P A D y O E B U i C I x N;obtain rfl:T=.none:=Dflts.none D z;obtain rfl:kV=.none:=Dflts.noKw D;obtain⟨a,h,s,rfl,rfl,j,e,k⟩:=script_of L i x;refine enter_call (codeAny_mono (call w s₀ b mg v m o u t g a h s G Y K (fd_plain P) A y j e k O) λr p J=>?_)
  obtain⟨rfl,S,R,Q⟩:=J;exact⟨.inl ⟨.bool true,.bool true,[],rfl,λ_=>rfl,.bool true,post_true l _,λ_=>⟨List.Pairwise.nil,λ_ M=>(nomatch M)⟩⟩,S,R,Q⟩
section
variable{prog:Program}{w:World}{A:Around}{E:vL->sH7->Prop}{s:sH7}{K:Frag}
end
end Att
namespace L2
open PySem PySem.Spec PyProof.Rows
theorem vals_ints:∀ {vs:Li vL}{ns:Li Int},IntsAre vs ns->Vals (ns.map V.int) vs
  |_,_,.nil=>.nil
  |_,_,.cons n t h=>.cons ⟨t,rfl⟩ (vals_ints h)
def Only(H:Hp):Prop:=∀ b,H b=none\/∃ o a,H b=some (.frz o (.lst a))
variable{w:World}
theorem law_call{P:Program}{K:fG7}{mg Q:Str->Ot vL}{CX:CXT}{k:Nat}{W a:Ad}{fd:FuncData}{x:Str}{Y:Sp}{c:sH7}{p:Li vL}{A:Li Int}(KX:K.In c.heap)(E:c.heap.Ns mainGlobals mg)(g:c.heap.Ns builtinsNs Q)(T:∀ x:Str,x ≠ "__name__"->Q x=bootBuiltins x)(G:c.heap.NoLimit)(hg:c.gens=#[])(N:c.heap.get? a=some { cls:=.type "list",data:=.seq p.toArray })(hi:IntsAre p A)(hl:A.length<=sizeLine)(hr:Room k callerA)(F:∀ base:Heap,K.In base->base.Ns mainGlobals mg->FnOk P w K mg base CX k W fd [x] Y)(t:∀ (s:sH7) (u:vL),BindsTo s fd ⟨[u],[]⟩ [(x,u)])(R:∀ H:Hp,Only H->SqL K H a (A.map V.int)->Y [.ref a] H (λv _=>v=.bl true) λ_ _ _=>False)(U:∀ H e i,CX [] H c (λ_ _ _=>False) e i->False) :
    codeAny (model P w) callerA (.call (.ref W) ⟨[.ref a],[]⟩) (λr i=>r=.ok (.ret (.bool true))/\OldK c.heap i.heap/\i.os=c.os/\AllBare i.gens) c:=by
  have Z:=vals_ints hi;have B:=hi.length
  -- from an abstract heap in which nothing but the script may be tracked
  have l:∀ H:Hp,Only H->SqL K H a (A.map V.int)->HOk P w H c.heap->(∀ b,H b≠none->b=a)->(H a≠none->K.lookup a=none)->
      codeAny (model P w) callerA (.call (.ref W) ⟨[.ref a],[]⟩) (λr i=>r=.ok (.ret (.bool true))/\OldK c.heap i.heap/\i.os=c.os/\AllBare i.gens) c:=by
    intro H hO hS D hA hK;have f:∀ {b:Ad}{o:Obj},c.heap.get? b=some o->H b=none->(hidT c.heap H).get? b=some o:=λe n=>hidT_get e n
    have O:∀ {b:Ad}{o:Obj}{J:Array DictEntry}{L:Nat},c.heap.get? b=some o->o.data=.dict J L->H b=none:=λ{b o J L} e d=>by
      cases q:H b with
      |none=>rfl
      |some u=>
        have X:b=a:=hA b (by rw[q];simp)
        subst X;rw[N]at e;cases e
        have d':Data.seq p.toArray _=Data.dict J L:=d;cases d'
    have j:∀ {b:Ad}{m:Str->Ot vL},c.heap.Ns b m->(hidT c.heap H).Ns b m:=λ{b m} ⟨o,J,L,e,d,r⟩=>⟨o,J,L,f e (O e d),d,r⟩
    have I:K.In (hidT c.heap H):=λb o e=>f (KX b o e) (by
      cases q:H b with
      |none=>rfl
      |some u=>
        have X:b=a:=hA b (by rw[q];simp)
        subst X;rw[hK (by rw[q];simp)]at e;cases e)
    have hM:Mod K mg (hidT c.heap H):=⟨I,j E,⟨Q,j g,T⟩,let ⟨mc,h1,h2⟩:=G;⟨mc,j h1,h2⟩⟩
    have e0:Env0 P w K mg (hidT c.heap H) callerA [] c H:=⟨rfl,hM,λb o e=>of_hidT e,cN (hidT_size _ _),trivial,λb g=>absurd (show b∈([]:Li Ad) from g) (by simp),D,.of_eq hg⟩
    refine codeAny_mono ((F _ I (j E)).run callerA [] c H ⟨[.ref a],[]⟩ [.ref a] [.ref a] _ _ hr e0 (t c (.ref a)) (.cons rfl .nil) (R H hO hS)) λr i h=>?_
    cases r with
    |error e=>exact(U H e i h).elim
    |ok fl=>
      cases fl with
      |next=>exact False.elim h
      |brk=>exact False.elim h
      |cont=>exact False.elim h
      |ret u=>
        obtain⟨v,H',os,M,un,C,r',q⟩:=h;have q':v=.bl true:=q;subst q';obtain rfl:u=Value.bool true:=r';refine⟨rfl,OldK.of_keep λb o e=>?_,os,M⟩
        cases q:H b with
        |none=>exact un.keep b o e q (by intro z;exact absurd (show b∈([]:Li Ad) from z) (by simp)) (by simp)
        |some u=>
          rcases hO b with z|⟨ob,xs,z⟩
          . rw[q]at z;cases z
          . have z2:=un.frzs b ob _ z
            obtain⟨e1,_⟩:=D b _ z;obtain⟨e2,_⟩:=C b _ z2;rw[e]at e1;cases e1
            exact e2
  cases S:K.lookup a with
  |some o=>
    -- the script is one of the module's own objects
    have e:=KX a o S;rw[N]at e;cases e;refine l (λ_=>none) (λ_=>.inl rfl) (.inr ⟨_,p.toArray,_,S,rfl,rfl,rfl,by rw[aL,B];exact hl,by simpa using Z⟩) (λb u z=>by have y:(none:Ot HO)=some u:=z;cases y) (λb z=>absurd rfl z) λz=>absurd rfl z
  |none=>
    refine l (λb=>if b=a then some (.frz { cls:=.type "list",data:=.seq p.toArray } (.lst (A.map V.int))) else none) (λb=>?_) (.inl (.inr ⟨{ cls:=.type "list",data:=.seq p.toArray },if_pos rfl⟩)) (λb u z=>?_) (λb z=>?_) λ_=>S
    . by_cases g:b=a
      . exact .inr ⟨_,_,if_pos g⟩
      . exact .inl (if_neg g)
    . by_cases g:b=a
      . have y:=(if_pos g).symm.trans z
        cases y;subst g;exact⟨N,by rw[aE];exact hl,p,_,Z,N⟩
      . have y:=(if_neg g).symm.trans z
        cases y
    . by_cases g:b=a
      . exact g
      . exact absurd (if_neg g) z
theorem walk_of{l:W.OpenLaw}{n k:Nat}{q:Program}{i:Li Str}{XP:(Str->Ot vL)->Heap->Prop}{J:World->Heap->Prop}{d:DefRec}{K:Params->fG7}{CX:World->CXT}{sp:World->Sp}{x:Str}(N:l.most=some n)(A:n<=sizeLine)(C:d.params.defaults=[])(M:Room k callerA)(R:∀ (w:World) (h:Heap),J w h->(K w.params).In h)(F:∀ (w:World) (mg:Str->Ot vL) (t:Ad) (h:Heap),(K w.params).In h->h.Ns mainGlobals mg->mg d.name=some (.ref t)->
      ∃ fd:FuncData,(∀ (s:sH7) (u:vL),BindsTo s fd ⟨[u],[]⟩ [(x,u)]) /\
        ∀ base:Heap,(K w.params).In base->base.Ns mainGlobals mg->FnOk l.prog w (K w.params) mg base (CX w) k t fd [x] (sp w))(z:∀ (w:World) (H:Hp) (a:Ad) (r:Li Int),r.length<=n->Only H->SqL (K w.params) H a (r.map V.int)->sp w [.ref a] H (λv _=>v=.bl true) λ_ _ _=>False)(D:∀ (w:World) (H:Hp) (s:sH7) (e:vL) (y:sH7),CX w [] H s (λ_ _ _=>False) e y->False) :
    W.WalkO q i XP J l.row.toRowW d [] (λf E=>PySem.call f E):=by
  refine Att.attach_call N C λw I m mg mb t o pm cd Z a E r G Y ho hd P B p j c O=>?_
  have L:=R w _ Y;obtain⟨fd,Q,X⟩:=F w mg t _ L G.T.g B;exact law_call L G.T.g G.T.b G.T.builtins G.T.nolimit O p j (aP c A) M X Q (λH U S=>z w H a r c U S) λH e y=>D w H m e y
noncomputable def defArgs(s:Stmt):Arguments:=match s with
  |.FunctionDef _ a _ _ _ _ _ _ _ _=>a
  |_=>{ posonlyargs:=[],args:=[],vararg:=none,kwonlyargs:=[],kw_defaults:=[],kwarg:=none,defaults:=[] }
noncomputable def defBody(s:Stmt):Li Stmt:=match s with
  |.FunctionDef _ _ b _ _ _ _ _ _ _=>b
  |_=>[]
noncomputable def defScope(s:Stmt):Scope:=match s with
  |.FunctionDef _ _ _ _ _ _ sc _ _ _=>sc
  |_=>{ kind:=.function,names:=[],isGenerator:=false,isCoroutine:=false }
noncomputable abbrev CX0:CXT:=λ_ _ _ _ _ _=>False
abbrev E0:XK:=λ_ _ _=>False
theorem pass0{X:Cx}:Passes CX0 X E0:=λ_ _ _ _ _ _ _ h=>h.elim
structure Fun(K:fG7)(x qual:Str)(st:Stmt)(f:Addr)(fd:FuncData):Prop where
  ex:∃ (oc:Value) (od:Option Addr) (kV doc pm:Value) (an:Option Addr) (cdv ct:Value) (osl:Array (Option Value)),
    fd=W.fnOf x qual (defArgs st) (defBody st) (defScope st) .none kV doc pm an cdv ct/\K.lookup f=some ⟨oc,od,.func fd,osl⟩/\W.codeIn K cdv qual=true
  kp:W.keepIn K (.ref f)=true
variable{P:Program}{w:World}
section
variable{K:fG7}{mg:Str->Ot vL}{base:Heap}
end
variable{X:Cx}
section
variable {κ:Type} [DecidableEq κ]
noncomputable def valV(a:Li (κ×V))(k:κ):Ot V:=(a.find? λkv=>decide (kv.1=k)).map (·.2)
noncomputable def putK(a:Li (κ×V))(k:κ)(v:V):Li (κ×V):=
 if (a.any λkv=>decide (kv.1=k))=true then a.map (λkv=>if kv.1=k then (kv.1,v) else kv) else a++[(k,v)]
theorem valV_pos{p:κ×V}{r:Li (κ×V)}{k:κ}(e:p.1=k):valV (p :: r) k=some p.2:=by simp[valV,cK,e]
theorem valV_neg{p:κ×V}{r:Li (κ×V)}{k:κ}(e:¬p.1=k):valV (p :: r) k=valV r k:=by simp[valV,cK,e]
theorem RelO.isSome_eq{o:Ot V}{u:Ot vL}(r:RelO o u):o.isSome=u.isSome:=by
 cases o with
 |none=>cases u with
  |none=>rfl
  |some _=>exact(show False from r).elim
 |some _=>cases u with
  |none=>exact(show False from r).elim
  |some _=>rfl
theorem KV.val{a:Li (κ×V)}{f:Li (κ×vL)}(r:KV a f)(k:κ):RelO (valV a k) (valueAt f k):=by
 unfold KV at r
 induction r with
 |nil=>exact True.intro
 |@cons p q l c h t i=>
  obtain⟨g,j⟩:=h;by_cases e:p.1=k
  .have d:q.1=k:=g.symm.trans e
   have b:valueAt (q :: c) k=some q.2:=by simp[valueAt,cK,d]
   rw[valV_pos e,b];exact j
  .have d:¬q.1=k:=λz=>e (g.trans z)
   have b:valueAt (q :: c) k=valueAt c k:=by simp[valueAt,cK,d]
   rw[valV_neg e,b];exact i
end
theorem kV_is{P:Program}{k:Key}{u:vL}(r:RelV (kV k) u):(mixKind P w).is k u=true:=by
 cases k with
 |inl i=>obtain⟨t,e⟩:=(show ∃ t,u=Value.int i t from r);subst e;exact mixKind_int P w i t
 |inr x=>obtain⟨t,e⟩:=(show ∃ t,u=Value.str x t from r);subst e;exact mixKind_str P w x t
variable{kvs:Li (Key×V)}
variable{H:Hp}{h:Heap}{a:Ad}
theorem rd_of{u:HO}(ok:HOk P w H h)(e:Rd H a u):ObjOk P w H h a u:=e.ok ok
theorem dk_rd(ok:HOk P w H h)(e:Rd H a (.dK kvs)):kvs.length<=sizeLine/\(a==sysModules)=false/\∃ b,KV kvs b/\h.DictOf (mixKind P w) a b:=
 show ObjOk P w H h a (.dK kvs) from rd_of ok e
theorem dk_of(ok:HOk P w H h)(e:H a=some (.dK kvs)):kvs.length<=sizeLine/\(a==sysModules)=false/\∃ b,KV kvs b/\h.DictOf (mixKind P w) a b:=dk_rd ok (.inl e)
section
variable{pQ:Li (Ad×Obj)}{O:St}{s:sH7}{y v:V}{u r:vL}{o:Ot V}{A:Around}{E:vL->sH7->Prop}
theorem Inv.big(I:Inv X pQ O H s):sysModules < s.heap.objs.size:=by
 have h:mainGlobals < s.heap.objs.size:=(I.mod.glob.keeps I.bk).lt;exact Nat.lt_trans (by decide) h
theorem d_write{c:Heap}{f:Nat}{d:HO}(I:Inv X pQ O H s)(g:Mut (H a))(h:Heap.SameBut a s.heap c)(i:∃ q,c.get? a=some q)(new:ObjOk X.prog X.w (upd H a d) c a d) :
  Inv X pQ O (upd H a d) { s with heap:=c,toks:=f }:=
 I.write (x:=a) (e:=a) g (.inl rfl) (λb q j z=>(h.2 b j).trans z) i new
end
def rIxD:R2:=λx y H Q=>∃ p kvs k v,x=.ref p/\y=kV k/\H p=some (.dK kvs)/\valV kvs k=some v/\Q v H
theorem ix_dct:IxR X rIxD:=by
 intro a slice t s O H x y v u Q I g f h j;obtain⟨p,kvs,k,z,rfl,rfl,l,m,q⟩:=h;cases g;obtain⟨n,w,e,c,d⟩:=dk_of I.hok l;obtain⟨r,i,b⟩:=RelO.some_of (v:=z) (o:=valueAt e k) (by rw[<-m];exact c.val k)
 exact tail_any d.typeIs PySem.F.slot_dict_getitem.lookup (wpAny_getItem_of (kV_is f) d.mapOf i ⟨z,H,I.tok _,b,q⟩) j
def rInD:R2:=λx y H Q=>∃ p kvs k,y=.ref p/\x=kV k/\H p=some (.dK kvs)/\Q (.bl (valV kvs k).isSome) H
theorem op_in_dct:OpR X (compareOp .In) rInD:=by
 intro j s O H x y v u Q I c b h;obtain⟨p,kvs,k,rfl,rfl,d,q⟩:=h;cases b;obtain⟨g,e,i,a,f⟩:=dk_of I.hok d;refine wpAny_in_of (kV_is c) e f.mapOf ?_;rw[<-(a.val k).isSome_eq];exact⟨.bl (valV kvs k).isSome,H,I.tok _,rfl,q⟩
section
variable {κ:Type} [DecidableEq κ]
end
abbrev KTp(H:Hp):Li (Li Key×V)->Li (Li Key×Ad×vL)->Prop:=Paired λp q=>p.1=q.1/\H q.2.1=some (.tup (p.1.map kV))/\RelV p.2 q.2.2
end L2
namespace Dp
open PySem
variable{α:Type}
theorem Zb{x:α}{C:Prop}(h:(none:Ot α)=some x):C:=nomatch h
noncomputable abbrev S(x:String):Str:=Str.ofString x
inductive D where
 |non|bl (b:Bool)|int (i:Int)|str (x:Str)|tup (xs:List D)|lst (id:Nat)|dct (ks:List Str) (vs:List D)|obj (i:Nat)|kt (ks:List Str)|dic (id:Nat)
abbrev Env:=Li (Ot D)
abbrev Z8:=Bool×Li D
abbrev Za:=Li Z8
abbrev Res:=Ot (D×Za)
abbrev Fn:=Li D->Za->Res
noncomputable def o2{α b a:Type}(f:α->b->a):Ot α->Ot b->Ot a
 |some x,some y=>some (f x y)
 |_,_=>none
noncomputable def og{α:Type}(p:Prop)[Decidable p](o:Ot α):Ot α:=if p then o else none
mutual
noncomputable def Zr:D->D->Bool
 |.non,.non=>true
 |.bl a,.bl b=>a==b
 |.int a,.int b=>decide (a=b)
 |.str a,.str b=>decide (a=b)
 |.tup a,.tup b=>Zx a b
 |_,_=>false
noncomputable def Zx:Li D->Li D->Bool
 |[],[]=>true
 |x :: b,y :: a=>Zr x y&&Zx b a
 |_,_=>false
end
mutual
noncomputable def okD:Nat->D->Bool
 |_,.non=>true
 |_,.int _=>true
 |_,.str _=>true
 |n+1,.tup a=>ZT n a
 |_,_=>false
noncomputable def ZT:Nat->Li D->Bool
 |_,[]=>true
 |n,x :: a=>okD n x&&ZT n a
end
inductive Sc where
 |non|bl (b:Bool)|int (i:Int)|str (x:Str)
noncomputable def scD:D->Ot Sc
 |.non=>some .non
 |.bl b=>some (.bl b)
 |.int i=>some (.int i)
 |.str x=>some (.str x)
 |_=>none
noncomputable def Zgc:Sc->Sc->Ot Bool
 |.non,.non=>some true
 |.non,.bl _=>some false
 |.non,.int _=>some false
 |.non,.str _=>some false
 |.bl _,.non=>some false
 |.bl a,.bl b=>some (a==b)
 |.bl _,.int _=>none
 |.bl _,.str _=>some false
 |.int _,.non=>some false
 |.int _,.bl _=>none
 |.int a,.int b=>some (decide (a=b))
 |.int _,.str _=>some false
 |.str _,.non=>some false
 |.str _,.bl _=>some false
 |.str _,.int _=>some false
 |.str a,.str b=>some (decide (a=b))
noncomputable def eqT(b:Li D):D->Ot Bool
 |.tup a=>if okD 8 (.tup b)&&okD 8 (.tup a) then some (Zx b a) else none
 |_=>none
noncomputable def eqD(x y:D):Ot Bool:=match x with
 |.tup a=>eqT a y
 |x=>(o2 Zgc (scD x) (scD y)).join
inductive Ty where
 |int|bool|str|tuple
 deriving DecidableEq
set_option genInjectivity false in
inductive CE where
 |v (i:Nat)|c (d:D)
 |bin (op:Operator) (a b:CE)|neg (a:CE)
 |cmp (op:CmpOp) (a b:CE)
 |not (a:CE)|and (a b:CE)|or (a b:CE)|ife (c a b:CE)
 |tupE (a:CE)|lstE (a:CE)|aN|aC (a r:CE)
 |ix (a b:CE)|slice (a lo hi:CE)|nop|part (a:CE)
 |call (f:Nat) (args:CE) (ds:List D)
 |len (a:CE)|tOf (a:CE)|listOf (a:CE)|intOf (a:CE)|min (a b:CE)|max (a b:CE)|isi (T:Ty) (a:CE)
 |comp (rng:Bool) (fr:List Nat) (it elt Z0:CE)|comp2 (fr:List Nat) (it elt Z0:CE)|compT (fr:List Nat) (it elt Z0:CE)|lstR (a b:CE)|new (i:Nat)|meth (tab:List (Nat×Nat)) (o a:CE)|isc (l:List Nat) (a:CE)|tix (o a:CE)
 |rs (k:Bool) (a:CE)
 |inv (a:CE)|tupR (a:CE)|look (ks:List Str) (ds:List D) (a:CE)|dget (a k d:CE)|all (a:CE)|any (a:CE)|inR (ng:Bool) (a b:CE)
 |dict (ks:List Str) (a:CE)|dnew|strOf (a:CE)|joinE (a b:CE)|starts (a b:CE)|rng2 (a b:CE)|srt (a:CE)
 |comp3 (fr:List Nat) (it elt Z0:CE)|mk (i j:Nat) (args:CE) (ds:List D)|fld (f:Str) (a:CE)
set_option genInjectivity false in
inductive CS where
 |skip|seq (a b:CS)|ret (e:CE)|set (i:Nat) (e:CE)|app (i:Nat) (e:CE)|ext (i:Nat) (e:CE)|put (i:Nat) (k e:CE)
 |ite (c:CE) (a b:CS)|for1 (i:Nat) (rng:Bool) (it:CE) (b:CS)|for3 (i:Nat) (it:CE) (b:CS)|forP (i j:Nat) (it:CE) (b:CS)|forE (i j:Nat) (it:CE) (b:CS)|set2 (i j:Nat) (e:CE)|for4 (i j l:Nat) (it:CE) (b:CS)|for2 (i j:Nat) (it:CE) (b:CS)|whl (c:CE) (b:CS)|brk|cont|stop|set3 (i j l:Nat) (e:CE)|act (e:CE)|dput (i:Nat) (a b e:CE)|app2 (o e:CE)|fset (i:Nat) (f:Str) (e:CE)|forI (i j:Nat) (o:CE) (b:CS)
noncomputable def ZU(i:Int):Bool:=decide (-(2 ^ 64) < i)&&decide (i < 2 ^ 64)
noncomputable def Zm:Nat:=1000000
noncomputable def ZbC(a:Operator)(i j:Int):Ot Int:=
 match a with
 |.Add=>some (i+j)
 |.Sub=>some (i - j)
 |.Mult=>if ZU i||ZU j then some (i * j) else none
 |.FloorDiv=>if 0 < j/\j < 1073741824 then some (i / j) else if j < 0/\-1073741824 < j then some (i.fdiv j) else none
 |.Mod=>if 0 < j then some (i % j) else if j < 0 then some (i.fmod j) else none
 |.LShift=>if 0<=j/\j<=1000/\ZU i=true then some (i * 2 ^ j.toNat) else none
 |.BitOr=>if 0<=i/\0<=j then some ((i.toNat ||| j.toNat:Nat):Int) else none
 |_=>none
noncomputable def Wu:Operator->Bool
 |.Add=>true
 |_=>false
noncomputable def Zar:Operator->Bool
 |.Mult=>true
 |_=>false
noncomputable def QS(a b:Nat)(c:Za):Res:=match c[a]?,c[b]? with
 |some (_,e),some (_,d)=>if e.length+d.length<=Zm then some (.lst c.length,c++[(true,e++d)]) else none
 |_,_=>none
noncomputable def ZcC(a:Nat)(j:Int)(b:Za):Res:=match b[a]? with
 |some (true,[x])=>if j<=1000/\-1000<=j then some (.lst b.length,b++[(true,List.replicate j.toNat x)]) else none
 |_=>none
noncomputable def Zh0(a:Li D)(j:Int)(b:Za):Res:=match a with
 |[x]=>if j<=1000/\-1000<=j then some (.tup (List.replicate j.toNat x),b) else none
 |_=>none
noncomputable def WI(d:Operator)(x y:D)(c:Za):Res:=
 match x,y with
 |.int i,.int j=>match ZbC d i j with
  |some k=>some (.int k,c)
  |none=>none
 |.tup e,.tup f=>if Wu d=true/\e.length+f.length<=Zm then some (.tup (e++f),c) else none
 |.tup e,.int j=>if Zar d=true then Zh0 e j c else none
 |.lst a,.lst b=>if Wu d=true then QS a b c else none
 |.lst a,.int j=>if Zar d=true then ZcC a j c else none
 |.str x,.str y=>if Wu d=true/\x.length+y.length<=Zm then some (.str (x++y),c) else none
 |_,_=>none
noncomputable def Zhp(x k:Str):Bool:=!(PySem.Builtin.Str.occurrences x k 0 x.length 1).isEmpty
noncomputable def chS(x:Str):Li Str:=x.cps.toList.map λc=>⟨#[c]⟩
noncomputable def ZaT(_:Za)(_ _:Li D):Ot Bool:=none
noncomputable def W8(a ys:Li D):Ot Bool:=if (a.isEmpty||ys.isEmpty)=true then some (a.isEmpty&&ys.isEmpty) else if ZT 7 a&&ZT 7 ys then some (Zx a ys) else none
noncomputable def Zgd(c:Za)(b:Li D):D->Ot Bool
 |.tup a=>(match eqT b (.tup a) with
  |some k=>some k
  |none=>ZaT c b a)
 |_=>none
noncomputable def Zgb(e:Za)(a:Nat):D->Ot Bool
 |.lst b=>(o2 (λ(c d:Z8)=>W8 c.2 d.2) e[a]? e[b]?).join
 |_=>none
noncomputable def eqS(b:Za)(x y:D):Ot Bool:=match x with
 |.lst a=>Zgb b a y
 |.tup c=>Zgd b c y
 |x=>eqD x y
noncomputable def Xi:Int->Li D->Ot Bool
 |_,[]=>some false
 |k,.int i :: r=>(Xi k r).map λb=>decide (i=k)||b
 |_,_=>none
noncomputable def Yy:Str->Li D->Ot Bool
 |_,[]=>some false
 |k,.str i :: r=>(Yy k r).map λb=>decide (i=k)||b
 |_,_=>none
noncomputable def Zgr:D->Ot Int
 |.int i=>some i
 |_=>none
noncomputable def isK(k:Str):D->Bool
 |.tup [.str x,_]=>decide (x=k)
 |_=>false
noncomputable def ZgX:D->Ot D
 |.tup [_,v]=>some v
 |_=>none
noncomputable def Yl(a:Li D)(k:Str):Ot D:=(a.find? (isK k)).bind ZgX
noncomputable def Ym(k:Str)(v:D):Li D->Li D
 |[]=>[.tup [.str k,v]]
 |e :: r=>if isK k e=true then .tup [.str k,v] :: r else e :: Ym k v r
noncomputable def Xj:Li D->Bool
 |.int _ :: _=>true
 |_=>false
noncomputable def Ww:D->Bool
 |.tup _=>true
 |.bl b=>b
 |_=>false
noncomputable def okN:Nat->D->Bool
 |_,.int _=>true
 |_,.str _=>true
 |n+1,.tup a=>a.all (okN n)
 |_,_=>false
noncomputable def XT(k:D):D->Bool
 |.tup [x,_]=>Zr x k
 |_=>false
noncomputable def UO:Ot D->Bool
 |some (.bl b)=>b
 |_=>false
noncomputable def ZY(a:Li D)(k:D):Ot D:=(a.find? (XT k)).bind ZgX
noncomputable def dAt(c:Li D)(a:Nat)(d:Za):Ot (Ot D):=match d[a]? with
 |some (_,b)=>if Xj b=false/\okN 8 (.tup c)=true then some (ZY b (.tup c)) else none
 |none=>none
noncomputable def Z2:Li Str->Li D->Str->Ot D
 |k :: b,v :: a,x=>if k=x then some v else Z2 b a x
 |_,_,_=>none
noncomputable def Jc(f:Int->Int->Bool):D->D->Ot Bool
 |.int i,.int j=>some (f i j)
 |_,_=>none
noncomputable def ltD(x y:D):Ot Bool:=Jc (λi j=>decide (i < j)) x y
noncomputable def ltS(_:Za)(x y:D):Ot Bool:=ltD x y
noncomputable def inS(e:Za)(x y:D):Ot Bool:=match x,y with
 |.int k,.lst a=>match e[a]? with
  |some (_,b)=>Xi k b
  |none=>none
 |.str k,.lst a=>match e[a]? with
  |some (_,b)=>Yy k b
  |none=>none
 |.tup c,.lst a=>match e[a]? with
  |some (_,b)=>if okD 8 (.tup c)&&ZT 8 b then some (b.any λd=>Zr d (.tup c)) else none
  |none=>none
 |.int k,.tup b=>Xi k b
 |.str k,.tup b=>Yy k b
 |.str k,.dct c f=>some (Z2 c f k).isSome
 |.tup c,.dic a=>(dAt c a e).map Option.isSome
 |.str k,.str x=>some (Zhp x k)
 |_,_=>none
noncomputable def niS(a:Za)(x y:D):Ot Bool:=match y with
 |.dct _ _=>none
 |y=>(inS a x y).map not
noncomputable def isN:D->Ot Bool
 |.non=>some true
 |.int _=>some false
 |.str _=>some false
 |.bl _=>some false
 |.tup _=>some false
 |.lst _=>some false
 |.dct _ _=>none
 |.obj _=>none
 |.kt _=>none
 |.dic _=>none
noncomputable def isB(b:Bool):D->Ot Bool
 |.bl a=>some (a==b)
 |_=>none
noncomputable def isD(x:D):D->Ot Bool
 |.non=>isN x
 |.bl b=>isB b x
 |_=>none
noncomputable def VJ(b:CmpOp)(x y:D)(a:Za):Ot Bool:=
 match b with
 |.Lt=>ltS a x y
 |.LtE=>Jc (λi j=>decide (i<=j)) x y
 |.Gt=>Jc (λi j=>decide (j < i)) x y
 |.GtE=>Jc (λi j=>decide (j<=i)) x y
 |.Eq=>eqS a x y
 |.NotEq=>(eqS a x y).map not
 |.In=>inS a x y
 |.NotIn=>niS a x y
 |.Is=>isD x y
 |.IsNot=>(isD x y).map not
noncomputable def ixN(n:Nat)(i:Int):Ot Nat:=if 0<=i then (if i < n then some i.toNat else none) else if -(n:Int)<=i then some (i+n).toNat else none
noncomputable def atD(a:Li D)(i:Int):Ot D:=(ixN a.length i).bind λj=>a[j]?
noncomputable def ixD(x y:D)(d:Za):Ot D:=
 match x,y with
 |.tup c,.int i=>atD c i
 |.lst a,.int i=>match d[a]? with
  |some (_,c)=>atD c i
  |none=>none
 |.dct b e,.str k=>Z2 b e k
 |.kt b,.int i=>atD (b.map .str) i
 |.dic a,.tup b=>(dAt b a d).join
 |.str x,.int i=>if x.length<=Zm then atD ((chS x).map .str) i else none
 |_,_=>none
noncomputable def sIx(n d:Nat):Ot Int->Nat
 |none=>d
 |some i=>if i < 0 then (i+n).toNat else Nat.min i.toNat n
noncomputable def Xw(a:Li D)(b c:Ot Int):Li D:=(a.drop (sIx a.length 0 b)).take (sIx a.length a.length c - sIx a.length 0 b)
noncomputable def Z7(x:D)(d e:Ot Int)(c:Za):Res:=
 match x with
 |.tup b=>if sIx b.length 0 d=0/\sIx b.length b.length e=b.length then some (.tup b,c) else some (.tup (Xw b d e),c)
 |.lst a=>match c[a]? with
  |some (_,b)=>some (.lst c.length,c++[(true,Xw b d e)])
  |none=>none
 |_=>none
noncomputable def Vh(x:D)(c:Za):Ot Int:=
 match x with
 |.tup b=>some b.length
 |.lst a=>match c[a]? with
  |some (_,b)=>some b.length
  |none=>none
 |.kt d=>some d.length
 |.str x=>if x.length<=Zm then some x.length else none
 |.dic a=>match c[a]? with
  |some (_,b)=>if Xj b=false/\b.length<=Zm then some b.length else none
  |none=>none
 |_=>none
noncomputable def Zey(T:Ty):D->Ot Bool
 |.int _=>some (decide (T=.int))
 |.bl _=>some (decide (T=.int)||decide (T=.bool))
 |.str _=>some (decide (T=.str))
 |.tup _=>some (decide (T=.tuple))
 |.non=>some false
 |_=>none
noncomputable def Wx(rng:Bool)(x:D):Ot (Li D):=
 match rng,x with
 |true,.int n=>if n < 2 ^ 62/\-(2 ^ 62)<=n then some ((List.range n.toNat).map λ(k:Nat)=>D.int (k:Int)) else none
 |false,.tup a=>some a
 |_,_=>none
noncomputable def Z5(a b c:Int):Nat:=if 0 < c then (if a < b then ((b - a - 1) / c+1).toNat else 0) else (if b < a then ((a - b - 1) / (-c)+1).toNat else 0)
noncomputable def YM(a b c:Int):Bool:=decide ((-(2 ^ 30) < a/\a < 2 ^ 30)/\(-(2 ^ 30) < b/\b < 2 ^ 30)/\(c=1\/c=-1\/c=2\/c=3\/c=4))
noncomputable def YB(a b c:Int):Li Int:=(List.range (Z5 a b c)).map λ(k:Nat)=>a+k * c
noncomputable def Zao:Li D->Ot (Li Int)
 |[]=>some []
 |x :: r=>o2 List.cons (Zgr x) (Zao r)
noncomputable def Zfj:Li Int->Ot (Li Int)
 |[a,b]=>og (YM a b 1=true) (some (YB a b 1))
 |[a,b,c]=>og (YM a b c=true) (some (YB a b c))
 |_=>none
noncomputable def Vf:D->Ot (Li Int)
 |.tup a=>(Zao a).bind Zfj
 |_=>none
noncomputable def ZI(ok:Za->Prop)(f:D->Za->Res)(c:D->Za->Res):Li D->Za->Ot (Li D×Za)
 |[],b=>open Classical in if ok b then some ([],b) else none
 |x :: g,b=>open Classical in if ok b then (match c x b with
  |some (.bl true,a)=>match f x a with
   |some (y,e)=>match ZI ok f c g e with
    |some (h,d)=>some (y :: h,d)
    |none=>none
   |none=>none
  |some (.bl false,a)=>ZI ok f c g a
  |_=>none) else none
noncomputable def Yt(rng:Bool)(x:D)(e:Za):Ot (Li D×(Za->Prop)):=match Wx rng x with
 |some d=>some (d,λ_=>True)
 |none=>match rng,x with
  |false,.lst a=>match e[a]? with
   |some c=>some (c.2,λs=>s[a]?=some c)
   |none=>none
  |false,.dct [] [.int a,.int b]=>some ((YB a b 1).map .int,λ_=>True)
  |_,_=>none
abbrev Ev:=Env->Za->Res
noncomputable def Zn(c:Ev)(g:D->Za->Res):Ev:=λU b=>match c U b with
 |some (x,a)=>g x a
 |none=>none
noncomputable def Zz(e d:Ev)(g:D->D->Za->Res):Ev:=λU c=>match e U c with
 |some (x,b)=>match d U b with
  |some (y,a)=>g x y a
  |none=>none
 |none=>none
noncomputable def XF(h f e:Ev)(g:D->D->D->Za->Res):Ev:=λU d=>match h U d with
 |some (x,c)=>match f U c with
  |some (y,b)=>match e U b with
   |some (z,a)=>g x y z a
   |none=>none
  |none=>none
 |none=>none
noncomputable def Z0(e c d:Ev):Ev:=λU b=>match e U b with
 |some (.bl true,a)=>c U a
 |some (.bl false,a)=>d U a
 |_=>none
noncomputable def YE(i:Nat):Ev:=λU a=>match U[i]? with
 |some (some d)=>some (d,a)
 |_=>none
noncomputable def evC(d:D):Ev:=λ_ a=>some (d,a)
noncomputable def ZeJ:D->Za->Res
 |.int i,a=>some (.int (-i),a)
 |_,_=>none
noncomputable def Jb:D->Za->Res
 |.bl k,a=>some (.bl (!k),a)
 |_,_=>none
noncomputable def Yx(b:CmpOp)(x y:D)(a:Za):Res:=match VJ b x y a with
 |some k=>some (.bl k,a)
 |none=>none
noncomputable def ZaD:D->Za->Res
 |.tup b,a=>some (.lst a.length,a++[(true,b)])
 |_,_=>none
noncomputable def Xv:D->D->Za->Res
 |x,.tup a,b=>if a.length < 1000 then some (.tup (x :: a),b) else none
 |_,_,_=>none
noncomputable def ixR(x y:D)(a:Za):Res:=match ixD x y a with
 |some d=>some (d,a)
 |none=>none
noncomputable def YO:D->D->D->Za->Res
 |x,.non,.non,a=>Z7 x none none a
 |x,.int i,.non,a=>Z7 x (some i) none a
 |x,.non,.int j,a=>Z7 x none (some j) a
 |x,.int i,.int j,a=>Z7 x (some i) (some j) a
 |_,_,_,_=>none
noncomputable def Uf:D->Za->Res
 |.int i,a=>some (.int i,a)
 |_,_=>none
noncomputable def WS(g:Fn)(c:Li D):D->Za->Res
 |.tup a,b=>g (a++c) b
 |_,_=>none
noncomputable def UH(b:Za):D->Ot Nat
 |.obj i=>some i
 |.dic a=>(match b[a]? with
  |some (_,.int c :: _)=>some c.toNat
  |_=>none)
 |_=>none
noncomputable def X2(F:Nat->Fn)(tab:Li (Nat×Nat))(f g:Ev):Ev:=λU e=>match f U e with
 |some (o,a)=>(match (UH a o).bind λc=>tab.lookup c with
  |some j=>(match g U a with
   |some (.tup d,b)=>F j (o :: d) b
   |_=>none)
  |none=>none)
 |none=>none
noncomputable def mkR(F:Nat->Fn)(i j:Nat)(d:Li D):D->Za->Res
 |.tup c,b=>(match F j (.dic b.length :: (c++d)) (b++[(true,[.int i])]) with
  |some (.non,a)=>some (.dic b.length,a)
  |_=>none)
 |_,_=>none
noncomputable def Xb(f:Str)(d:D)(b:Za):Res:=match d with
 |.dic a=>(match b[a]? with
  |some (_,.int _ :: c)=>(match Yl c f with
   |some v=>some (v,b)
   |none=>none)
  |_=>none)
 |_=>none
noncomputable def JZ(k:Str):Li Str->Ot Nat
 |[]=>none
 |a :: r=>if a=k then some 0 else (JZ k r).map (·+1)
noncomputable def ZfH:D->D->Za->Res
 |.kt b,.tup [.str k],a=>match JZ k b with
  |some i=>some (.int (i:Int),a)
  |none=>none
 |_,_,_=>none
noncomputable def Vi(x:D)(a:Za):Res:=match Vh x a with
 |some n=>some (.int n,a)
 |none=>none
noncomputable def Vy:D->Za->Res
 |.tup b,a=>some (.tup b,a)
 |.lst l,a=>match a[l]? with
  |some (_,b)=>some (.tup b,a)
  |none=>none
 |_,_=>none
noncomputable def V7:D->Za->Res
 |.tup b,a=>some (.lst a.length,a++[(true,b)])
 |.lst l,a=>match a[l]? with
  |some (_,b)=>some (.lst a.length,a++[(true,b)])
  |none=>none
 |_,_=>none
noncomputable def ZeG:D->D->Za->Res
 |.int i,.int j,a=>some (.int (if j < i then j else i),a)
 |_,_,_=>none
noncomputable def ZeF:D->D->Za->Res
 |.int i,.int j,a=>some (.int (if j > i then j else i),a)
 |_,_,_=>none
noncomputable def Zas(T:Ty)(x:D)(a:Za):Res:=match Zey T x with
 |some k=>some (.bl k,a)
 |none=>none
noncomputable def ZaB(b:Li Str)(c:Li D):D->Za->Res
 |.str k,a=>match Z2 b c k with
  |some d=>some (d,a)
  |none=>none
 |_,_=>none
noncomputable def getD:D->D->D->Za->Res
 |.dct c a,.str k,d,b=>some ((Z2 c a k).getD d,b)
 |_,_,_,_=>none
noncomputable def Zhg(b:Bool):D->D->Za->Res
 |.int x,.int n,a=>if -(2 ^ 62)<=n/\n < 2 ^ 62 then some (.bl (b != decide (0<=x/\x < n)),a) else none
 |_,_,_=>none
noncomputable def Zf8(a:Li Str):D->Za->Res
 |.tup b,c=>if a.length=b.length/\(a.Nodup/\a≠[])/\a.length<=15 then some (.dct a b,c) else none
 |_,_=>none
noncomputable def one(d:D):Li (Ot D):=[some d]
noncomputable def two:D->Li (Ot D)
 |.tup [a,b]=>[some a,some b]
 |_=>[]
noncomputable def QE:D->Li (Ot D)
 |.tup [a,b,c]=>[some a,some b,some c]
 |_=>[]
noncomputable def Zcc:D->Bool
 |.tup [_,_,_]=>true
 |_=>false
noncomputable def Zbp(x:D)(_:Za):Ot (Li D×(Za->Prop)):=match x with
 |.tup a=>if a.all Zcc=true then some (a,λ_=>True) else none
 |_=>none
noncomputable def ZQ(b:D->Li (Ot D))(U:Env)(a:Li Nat)(d:D):Env:=b d++a.map λi=>(U[i]?).join
noncomputable def Ye(b:D->Li (Ot D))(w:D->Za->Ot (Li D×(Za->Prop)))(f:Li Nat)(i j k:Ev):Ev:=λU h=>match i U h with
 |some (x,c)=>match w x c with
  |some (e,ok)=>if e.length<=1000 then
    match ZI ok (λd s=>j (ZQ b U f d) s) (λd s=>k (ZQ b U f d) s) e c with
    |some (g,a)=>some (.lst a.length,a++[(true,g)])
    |none=>none
   else none
  |none=>none
 |none=>none
noncomputable def Zdr:Ev:=λ_ a=>some (.dic a.length,a++[(true,[])])
noncomputable def ev(F:Nat->Fn):CE->Ev
 |.v i=>YE i
 |.c d=>evC d
 |.bin l a b=>Zz (ev F a) (ev F b) (WI l)
 |.neg a=>Zn (ev F a) ZeJ
 |.cmp l a b=>Zz (ev F a) (ev F b) (Yx l)
 |.not a=>Zn (ev F a) Jb
 |.and a b=>Z0 (ev F a) (ev F b) (evC (.bl false))
 |.or a b=>Z0 (ev F a) (evC (.bl true)) (ev F b)
 |.ife c a b=>Z0 (ev F c) (ev F a) (ev F b)
 |.tupE a=>ev F a
 |.lstE a=>Zn (ev F a) ZaD
 |.aN=>evC (.tup [])
 |.aC a r=>Zz (ev F a) (ev F r) Xv
 |.ix a b=>Zz (ev F a) (ev F b) ixR
 |.slice a s t=>XF (ev F a) (ev F s) (ev F t) YO
 |.nop=>evC .non
 |.part a=>Zn (ev F a) Uf
 |.call f a h=>Zn (ev F a) (WS (F f) h)
 |.len a=>Zn (ev F a) Vi
 |.tOf a=>Zn (ev F a) Vy
 |.listOf a=>Zn (ev F a) V7
 |.intOf _=>λ_ _=>none
 |.min a b=>Zz (ev F a) (ev F b) ZeG
 |.max a b=>Zz (ev F a) (ev F b) ZeF
 |.isi T a=>Zn (ev F a) (Zas T)
 |.rs _ _=>λ_ _=>none
 |.inv _=>λ_ _=>none
 |.tupR _=>λ_ _=>none
 |.look m h a=>Zn (ev F a) (ZaB m h)
 |.dget a k d=>XF (ev F a) (ev F k) (ev F d) getD
 |.inR q a b=>Zz (ev F a) (ev F b) (Zhg q)
 |.all _=>λ_ _=>none
 |.any _=>λ_ _=>none
 |.comp rng p n e g=>Ye one (Yt rng) p (ev F n) (ev F e) (ev F g)
 |.comp2 _ _ _ _=>λ_ _=>none
 |.compT _ _ _ _=>λ_ _=>none
 |.lstR _ _=>λ_ _=>none
 |.new i=>evC (.obj i)
 |.meth tab o a=>X2 F tab (ev F o) (ev F a)
 |.isc _ _=>λ_ _=>none
 |.tix o a=>Zz (ev F o) (ev F a) ZfH
 |.dict m a=>Zn (ev F a) (Zf8 m)
 |.dnew=>Zdr
 |.strOf _=>λ_ _=>none
 |.joinE _ _=>λ_ _=>none
 |.starts _ _=>λ_ _=>none
 |.rng2 _ _=>λ_ _=>none
 |.srt _=>λ_ _=>none
 |.comp3 p n e g=>Ye QE Zbp p (ev F n) (ev F e) (ev F g)
 |.mk i j a h=>Zn (ev F a) (mkR F i j h)
 |.fld f a=>Zn (ev F a) (Xb f)
inductive Fl where
 |nx (U:Env)|rt (d:D)|bk (U:Env)|ct (U:Env)
noncomputable def Zg(U:Env)(i:Nat)(d:D):Env:=U.set i (some d)
noncomputable def Zl(b:D->Env->Za->Ot (Fl×Za)):Li D->Env->Za->Ot (Fl×Za)
 |[],U,c=>some (.nx U,c)
 |d :: e,U,c=>match b d U c with
  |some (.nx U',a)=>Zl b e U' a
  |some (.ct U',a)=>Zl b e U' a
  |some (.bk U',a)=>some (.nx U',a)
  |some (.rt v,a)=>some (.rt v,a)
  |none=>none
noncomputable def ZM(c:D->Env->Za->Ot (Fl×Za))(a:Nat):Nat->Nat->Env->Za->Ot (Fl×Za)
 |0,i,U,e=>match e[a]? with
  |some (_,f)=>if f.length<=i then some (.nx U,e) else none
  |none=>none
 |n+1,i,U,e=>match e[a]? with
  |some (_,f)=>match f[i]? with
   |none=>some (.nx U,e)
   |some d=>match c d U e with
    |some (.nx U',b)=>ZM c a n (i+1) U' b
    |some (.ct U',b)=>ZM c a n (i+1) U' b
    |some (.bk U',b)=>some (.nx U',b)
    |some (.rt v,b)=>some (.rt v,b)
    |none=>none
  |none=>none
abbrev Ex:=Env->Za->Ot (Fl×Za)
noncomputable def Yh(f g:Ex):Ex:=λU b=>match f U b with
 |some (.nx U',a)=>g U' a
 |r=>r
noncomputable def WN(f:Ev):Ex:=λU b=>match f U b with
 |some (d,a)=>some (.rt d,a)
 |none=>none
noncomputable def WF(i:Nat)(f:Ev):Ex:=λU b=>match f U b with
 |some (d,a)=>some (.nx (Zg U i d),a)
 |none=>none
noncomputable def Za8(i j:Nat)(f:Ev):Ex:=λU b=>match f U b with
 |some (.tup [x,y],a)=>some (.nx (Zg (Zg U i x) j y),a)
 |_=>none
noncomputable def Za9(i j l:Nat)(f:Ev):Ex:=λU b=>match f U b with
 |some (.tup [x,y,z],a)=>some (.nx (Zg (Zg (Zg U i x) j y) l z),a)
 |_=>none
noncomputable def Ux(f:Ev):Ex:=λU b=>match f U b with
 |some (_,a)=>some (.nx U,a)
 |none=>none
noncomputable def UA(a:Nat)(d:D)(c:Za):Ot Za:=match c[a]? with
 |some (true,b)=>if b.length < Zm then some (c.set a (true,b++[d])) else none
 |_=>none
noncomputable def We(a:Nat)(j:Int)(d:D)(c:Za):Ot Za:=match c[a]? with
 |some (true,b)=>match ixN b.length j with
  |some p=>some (c.set a (true,b.set p d))
  |none=>none
 |_=>none
noncomputable def W6(i:Nat)(f:Ev):Ex:=λU e=>match U[i]? with
 |some (some (.lst a))=>match f U e with
  |some (d,c)=>match UA a d c with
   |some b=>some (.nx U,b)
   |none=>none
  |none=>none
 |_=>none
noncomputable def Jv(o f:Ev):Ex:=λU g=>match o U g with
 |some (.lst a,e)=>match f U e with
  |some (d,c)=>match UA a d c with
   |some b=>some (.nx U,b)
   |none=>none
  |none=>none
 |_=>none
noncomputable def Zen(a b:Nat)(c:Za):Ot Za:=match c[a]?,c[b]? with
 |some (true,e),some (true,d)=>if e.length+d.length<=Zm then some (c.set a (true,e++d)) else none
 |_,_=>none
noncomputable def JR(i:Nat)(f:Ev):Ex:=λU e=>match U[i]? with
 |some (some (.lst a))=>match f U e with
  |some (.lst b,d)=>match Zen a b d with
   |some c=>some (.nx U,c)
   |none=>none
  |_=>none
 |_=>none
noncomputable def dput(a:Nat)(k d:D)(c:Za):Ot Za:=match c[a]? with
 |some (true,b)=>if (Xj b=false/\okN 8 k=true)/\Ww d=true/\b.length < Zm then (if b.any (XT k)=false then some (c.set a (true,b++[.tup [k,d]])) else if UO (ZY b k)=true/\UO (some d)=true then some (c.set a (true,b)) else none) else none
 |_=>none
noncomputable def UX(i:Nat)(k f:Ev):Ex:=λU g=>match f U g with
 |some (d,e)=>match U[i]? with
  |some (some (.lst a))=>match k U e with
   |some (.int j,c)=>match We a j d c with
    |some b=>some (.nx U,b)
    |none=>none
   |_=>none
  |some (some (.dic a))=>match k U e with
   |some (.tup h,c)=>match dput a (.tup h) d c with
    |some b=>some (.nx U,b)
    |none=>none
   |_=>none
  |_=>none
 |none=>none
noncomputable def Wn(o k f:Ev):Ex:=λU h=>match f U h with
 |some (d,g)=>(match o U g with
  |some (.dic a,e)=>(match k U e with
   |some (.tup i,c)=>(match dput a (.tup i) d c with
    |some b=>some (.nx U,b)
    |none=>none)
   |_=>none)
  |_=>none)
 |none=>none
noncomputable def VQ(i:Nat)(x:Str)(f:Ev):Ex:=λU g=>match f U g with
 |some (d,b)=>(match U[i]? with
  |some (some (.dic a))=>(match b[a]? with
   |some (true,.int c :: e)=>if e.length < 900 then some (.nx U,b.set a (true,.int c :: Ym x d e)) else none
   |_=>none)
  |_=>none)
 |none=>none
noncomputable def YI(c:Ev)(f g:Ex):Ex:=λU b=>match c U b with
 |some (.bl true,a)=>f U a
 |some (.bl false,a)=>g U a
 |_=>none
noncomputable def Wq(i:Nat)(rng:Bool)(g:Ev)(b:Ex):Ex:=λU f=>match g U f with
 |some (x,c)=>match Wx rng x with
  |some e=>Zl (λd U s=>b (Zg U i d) s) e U c
  |none=>match rng,x with
   |false,.lst a=>match c[a]? with
    |some (_,e)=>ZM (λd U s=>b (Zg U i d) s) a e.length 0 U c
    |none=>none
   |_,_=>none
 |none=>none
noncomputable def VO(i:Nat)(f:Ev)(b:Ex):Ex:=λU e=>match f U e with
 |some (x,a)=>match Vf x with
  |some c=>Zl (λd U s=>b (Zg U i d) s) (c.map .int) U a
  |none=>none
 |none=>none
noncomputable def ZX(ok:Za->Prop)(b:D->D->Env->Za->Ot (Fl×Za)):Li (D×D)->Env->Za->Ot (Fl×Za)
 |[],U,c=>open Classical in if ok c then some (.nx U,c) else none
 |p :: d,U,c=>open Classical in if ok c then (match b p.1 p.2 U c with
  |some (.nx U',a)=>ZX ok b d U' a
  |some (.ct U',a)=>ZX ok b d U' a
  |some (.bk U',a)=>some (.nx U',a)
  |some (.rt v,a)=>some (.rt v,a)
  |none=>none) else none
noncomputable def JV(i j:Nat)(g:Ev)(b:Ex):Ex:=λU f=>match g U f with
 |some (.tup [.lst la,.lst c],a)=>match a[la]?,a[c]? with
  |some e,some d=>ZX (λs=>s[la]?=some e/\s[c]?=some d) (λx y U s=>b (Zg (Zg U i x) j y) s) (e.2.zip d.2) U a
  |_,_=>none
 |_=>none
noncomputable def Wp:Nat->Li D->Li (D×D)
 |_,[]=>[]
 |k,x :: a=>(.int (k:Int),x) :: Wp (k+1) a
noncomputable def ZgY(x:D)(d:Za):Ot (Li D×(Za->Prop)):=match x with
 |.tup b=>some (b,λ_=>True)
 |.lst a=>match d[a]? with
  |some c=>some (c.2,λs=>s[a]?=some c)
  |none=>none
 |_=>none
noncomputable def JT(i j:Nat)(e:Ev)(b:Ex):Ex:=λU d=>match e U d with
 |some (x,a)=>match ZgY x a with
  |some (c,ok)=>ZX ok (λx y U s=>b (Zg (Zg U i x) j y) s) (Wp 0 c) U a
  |none=>none
 |none=>none
noncomputable def itQ:D->Ot (D×D)
 |.tup [k,v]=>some (k,v)
 |_=>none
noncomputable def JU(i j:Nat)(o:Ev)(b:Ex):Ex:=λU e=>match o U e with
 |some (.dic a,d)=>(match d[a]? with
  |some c=>if Xj c.2=false then ZX (λs=>s[a]?=some c) (λx y U s=>b (Zg (Zg U i x) j y) s) (c.2.filterMap itQ) U d else none
  |none=>none)
 |_=>none
noncomputable def ZfI(i j l:Nat)(b:Ex)(d:D)(U:Env)(s:Za):Ot (Fl×Za):=match d with
 |.tup [x,y,z]=>b (Zg (Zg (Zg U i x) j y) l z) s
 |_=>none
noncomputable def VP(i j l:Nat)(e:Ev)(b:Ex):Ex:=λU d=>match e U d with
 |some (.tup c,a)=>Zl (ZfI i j l b) c U a
 |_=>none
noncomputable def W5(f g:Ex):Ex:=λU b=>match f U b with
 |some (.nx U',a)=>g U' a
 |some (.ct U',a)=>g U' a
 |some (.bk U',a)=>some (.nx U',a)
 |some (.rt v,a)=>some (.rt v,a)
 |none=>none
noncomputable def Xq(c:Ev)(b:Ex):Nat->Ex
 |0=>λ_ _=>none
 |n+1=>YI c (W5 b (Xq c b n)) λU a=>some (.nx U,a)
noncomputable def ex(F:Nat->Fn):CS->Ex
 |.skip=>λU g=>some (.nx U,g)
 |.seq a b=>Yh (ex F a) (ex F b)
 |.ret e=>WN (ev F e)
 |.set i e=>WF i (ev F e)
 |.app i e=>W6 i (ev F e)
 |.ext i e=>JR i (ev F e)
 |.put i k e=>UX i (ev F k) (ev F e)
 |.ite c a b=>YI (ev F c) (ex F a) (ex F b)
 |.for1 i rng d b=>Wq i rng (ev F d) (ex F b)
 |.forP i j d b=>JV i j (ev F d) (ex F b)
 |.forE i j d b=>JT i j (ev F d) (ex F b)
 |.for3 i d b=>VO i (ev F d) (ex F b)
 |.set2 i j e=>Za8 i j (ev F e)
 |.for4 i j l d b=>VP i j l (ev F d) (ex F b)
 |.for2 _ _ _ _=>λ_ _=>none
 |.whl c b=>Xq (ev F c) (ex F b) 1000
 |.brk=>λU g=>some (.bk U,g)
 |.cont=>λU g=>some (.ct U,g)
 |.stop=>λ_ _=>none
 |.set3 i j l e=>Za9 i j l (ev F e)
 |.act e=>Ux (ev F e)
 |.dput _ a b e=>Wn (ev F a) (ev F b) (ev F e)
 |.fset i f e=>VQ i f (ev F e)
 |.forI i j o b=>JU i j (ev F o) (ex F b)
 |.app2 o e=>Jv (ev F o) (ev F e)
structure FD where
 ps:Nat
 ns:Nat
 body:CS
noncomputable def fnD(F:Nat->Fn)(f:FD):Fn:=λb c=>
 if b.length=f.ps then
  match ex F f.body (b.map some++List.replicate (f.ns - b.length) none) c with
  |some (.rt d,a)=>some (d,a)
  |some (.nx _,a)=>some (.non,a)
  |_=>none
 else none
noncomputable def run(T:Nat->Ot FD):Nat->Nat->Fn
 |0,_=>λ_ _=>none
 |n+1,i=>match T i with
  |some f=>fnD (run T n) f
  |none=>λ_ _=>none
inductive GV where
 |fn (i:Nat) (ps:Nat) (ds:List D)|c (d:D)|blt|dct (ks:List Str) (ds:List D)|cls (i:Nat) (ms:List (Str×Nat×Nat)) (subs:List Nat) (ds:List D)
abbrev Gs:=Li (Str×GV)
noncomputable def CE.ofConst:Const->Ot CE
 |.none=>some (.c .non)
 |.bool b=>some (.c (.bl b))
 |.int i=>some (.c (.int i))
 |.str x=>some (.c (.str x))
 |_=>none
noncomputable def Y0(sc:Scope)(x:Str):Bool:=!(x==("__debug__":Str))&&!(x==("__classdict__":Str))&&match sc.names.lookup x with
 |some .local=>true
 |some .cell=>true
 |some .free=>true
 |_=>false
noncomputable def Zy(sc:Scope)(x:Str):Bool:=!(x==("__debug__":Str))&&match sc.names.lookup x with
 |some .globalImplicit=>true
 |_=>false
noncomputable def ZgU(x:Str):Ot Ty:=
 if x = "int" then some .int else if x = "bool" then some .bool else if x = "str" then some .str else if x = "tuple" then some .tuple else none
noncomputable def ZG(sc:Scope):Li Str:=(sc.names.filter λp=>decide (p.2=.free)).map (·.1)
noncomputable def Zd7(f:Str)(x:CE):Ot CE:=
 if f = "len" then some (.len x) else if f = "tuple" then some (.tOf x) else if f = "list" then some (.listOf x) else none
noncomputable def Zd8(f:Str)(x y:CE):Ot CE:=if f = "min" then some (.min x y) else if f = "max" then some (.max x y) else none
noncomputable def Qp(G:Gs)(x:Str):Bool:=match G.lookup x with
 |some .blt=>true
 |_=>false
noncomputable def ZfK(G:Gs)(sc:Scope)(t:Str):Ot Ty:=if Zy sc t&&Qp G t then ZgU t else none
noncomputable def QH(G:Gs)(sc:Scope):Expr->Ot Ty
 |.Name t _=>ZfK G sc t
 |_=>none
noncomputable def UG(_:Gs)(_:Scope)(_:Expr):Ot (Li Nat):=none
noncomputable def ZdB(m:Str)(k:Nat)(G:Gs)(x:Str):Ot (Nat×Nat):=match G.lookup x with
 |some (.cls i b _ _)=>(match b.lookup m with
  |some (j,a)=>if a=k+1 then some (i,j) else none
  |none=>none)
 |_=>none
noncomputable def Y8(m:Str)(k:Nat)(G:Gs):Li (Nat×Nat):=(G.map Prod.fst).filterMap (ZdB m k G)
noncomputable def Zdo:Expr->Ot (Str×Li Expr)
 |.Call (.Name f _) a [] _=>some (f,a)
 |_=>none
noncomputable def fnA(G:Gs)(sc:Scope)(nm:Str)(e:Expr):Ot (Li Expr):=(Zdo e).bind λp=>og (p.1=nm/\Zy sc p.1=true/\Qp G p.1=true) (some p.2)
noncomputable def ZeN:Li Expr->Ot Expr
 |[a]=>some a
 |_=>none
noncomputable def ZN(G:Gs)(sc:Scope)(e:Expr):Ot Expr:=(fnA G sc "range" e).bind ZeN
noncomputable def U5(_:Gs)(_:Scope)(_:Str)(_:Expr):Ot Expr:=none
noncomputable def UT(_:Gs)(_:Scope)(_:Str)(_:Expr):Ot (Expr×Expr):=none
noncomputable def o3{g e d a:Type}(f:g->e->d->a):Ot g->Ot e->Ot d->Ot a
 |some x,b,c=>o2 (f x) b c
 |none,_,_=>none
variable{γ:Type}
theorem WB{P:γ->Prop}{f:α->γ}{a:Ot α}{c:γ}(h:a.map f=some c)(k:∀ x,a=some x->P (f x)):P c:=by
 cases a with
 |none=>exact Zb h
 |some x=>cases h;exact k x rfl
variable{β:Type}
theorem ZS{P:γ->Prop}{f:α->β->γ}{a:Ot α}{b:Ot β}{c:γ}(h:o2 f a b=some c)(k:∀ x y,a=some x->b=some y->P (f x y)):P c:=by
 cases a with
 |none=>exact Zb h
 |some x=>cases b with
  |none=>exact Zb h
  |some y=>cases h;exact k x y rfl rfl
theorem Xl{g:Type}{P:g->Prop}{f:α->β->γ->g}{a:Ot α}{b:Ot β}{d:Ot γ}{c:g}(h:o3 f a b d=some c)(k:∀ x y z,a=some x->b=some y->d=some z->P (f x y z)):P c:=by
 cases a with
 |none=>exact Zb h
 |some x=>exact ZS (P:=P) h λy z e i=>k x y z rfl e i
theorem Yq{P:Prop}{p:Prop}[Decidable p]{o:Ot α}{c:α}(h:og p o=some c)(k:p->o=some c->P):P:=by
 unfold og at h;by_cases a:p
 .rw[if_pos a]at h;exact k a h
 .rw[if_neg a]at h;cases h
theorem j_e{P:Prop}{o:Ot (Ot α)}{c:α}(h:o.join=some c)(k:o=some (some c)->P):P:=by
 cases o with
 |none=>exact Zb h
 |some x=>cases h;exact k rfl
noncomputable def Jz(G:Gs)(sc:Scope)(f:Str)(a:Expr)(r:Expr->Ot CE):Ot CE:=match U5 G sc f a with
 |some e=>(r e).map .tupR
 |none=>match UT G sc f a with
  |some (u,v)=>o2 .lstR (r u) (r v)
  |none=>((r a).map (Zd7 f)).join
noncomputable def JA(G:Gs)(sc:Scope)(f:Str)(a b:Expr)(r:Expr->Ot CE):Ot CE:=if f = "isinstance" then (match UG G sc b with
  |some l=>(r a).map (.isc l)
  |none=>o2 (λx T=>.isi T x) (r a) (QH G sc b)) else (o2 (Zd8 f) (r a) (r b)).join
noncomputable def JB(G:Gs)(sc:Scope)(f:Str)(d:Li Expr)(h:Ot CE)(r:Expr->Ot CE):Ot CE:=
 if Zy sc f then (match G.lookup f with
   |some (.fn i g e)=>og (d.length<=g/\g<=d.length+e.length) (h.map λc=>.call i c (e.drop (d.length+e.length - g)))
   |some .blt=>match d with
    |[a]=>Jz G sc f a r
    |[a,b]=>JA G sc f a b r
    |_=>none
   |some (.cls i j _ e)=>(match j.lookup ("__init__":Str) with
    |some p=>og (d.length+1<=p.2/\p.2<=d.length+1+e.length) (h.map λc=>.mk i p.1 c (e.drop (d.length+1+e.length - p.2)))
    |none=>match d with
     |[]=>some (.new i)
     |_=>none)
   |_=>none) else none
noncomputable def Zdm(G:Gs)(c:Expr)(m:Str)(g:Pos)(d:Li Expr)(f:Pos)(e:Ot CE)(r:Expr->Ot CE):Ot CE:=match c with
 |.Dict _ _ _=>(match d with
  |[a,b]=>og (m = "get"/\(g.endLine==f.line)=true) (o3 .dget (r c) (r a) (r b))
  |_=>none)
 |.Name _ _=>og ((g.endLine==f.line)=true/\d.length < 20) (if m = "index" then og (d.length=1) (o2 .tix (r c) e) else o2 (.meth (Y8 m d.length G)) (r c) e)
 |_=>none
noncomputable def Zf4(G:Gs)(sc:Scope)(f:Expr)(b:Li Expr)(d:Pos)(a:Ot CE)(r:Expr->Ot CE):Ot CE:=match f with
 |.Name f _=>JB G sc f b a r
 |.Attribute c m e=>Zdm G c m e b d a r
 |_=>none
noncomputable def fldNames:Li Str:=["program", "trials", "limit", "kept", "done"]
noncomputable def Zgk(o:Expr)(f:Str)(c:Ot CE):Ot CE:=match o with
 |.Name _ _=>og (fldNames.contains f=true) (c.map (.fld f))
 |_=>none
noncomputable def Zex:Expr->Bool
 |.Slice ..=>true
 |_=>false
noncomputable def Zhb(f:Expr->Ot CE)(keys:Li (Ot Expr))(a:Li Expr):Ot CE:=match keys with
 |[]=>og (a.length=0) (some .dnew)
 |_=>none
noncomputable def Xa(G:Gs)(sc:Scope)(e:Expr):Ot (Li Expr):=(fnA G sc "range" e).bind λa=>og (a.length=2\/a.length=3) (some a)
noncomputable def XG(G:Gs)(sc:Scope)(e:Expr):Ot (Li Expr):=(fnA G sc "zip" e).bind λa=>og (a.length=2) (some a)
noncomputable def Xy(G:Gs)(sc:Scope)(e:Expr):Ot Expr:=(fnA G sc "enumerate" e).bind ZeN
noncomputable def Wa(G:Gs)(sc:Scope)(e:Expr):Ot Expr:=Xy G sc e
noncomputable def nmE:Expr->Ot Str
 |.Name x _=>some x
 |_=>none
noncomputable def nmL:Li Expr->Ot (Li Str)
 |[a,b,c]=>o3 (λx y z=>[x,y,z]) (nmE a) (nmE b) (nmE c)
 |_=>none
noncomputable def tgN:Expr->Ot (Li Str)
 |.Name x _=>some [x]
 |.Tuple a _ _=>nmL a
 |_=>none
noncomputable def mkC(n:Nat)(r:Ot (Ot Bool))(a:Li Nat)(c d e:CE):CE:=if n=3 then .comp3 a c d e else match r with
 |some (some b)=>.comp b a c d e
 |some none=>.comp2 a c d e
 |none=>.compT a c d e
noncomputable def Y2(N:Li Str):Li Str->Ot (Li Nat)
 |[]=>some []
 |x :: r=>match N.idxOf? x,Y2 N r with
  |some i,some a=>some (i :: a)
  |_,_=>none
noncomputable def ZaI(G:Gs)(sc:Scope)(N:Li Str)(x:Str):Ot CE:=
 if Y0 sc x then (N.idxOf? x).map .v else if Zy sc x then (match G.lookup x with
  |some (.c d)=>some (.c d)
  |_=>none) else none
noncomputable def Qs(G:Gs)(sc:Scope):Expr->Ot (Li Str×Li D)
 |.Name x _=>if Zy sc x then (match G.lookup x with
  |some (.dct a b)=>some (a,b)
  |_=>none) else none
 |_=>none
noncomputable def Wd:Expr->Ot (Ot Expr×Ot Expr)
 |.Slice a b none _=>some (a,b)
 |_=>none
noncomputable def ZdK(_:Expr):Ot Expr:=none
noncomputable def Zhh:CE->Bool
 |.neg (.c (.int 1))=>true
 |_=>false
noncomputable def Wv(sc:Scope)(x:Str):Bool:=match sc.names.lookup x with
 |some .cell=>true
 |some .free=>true
 |_=>false
noncomputable def YV(sc a:Scope)(b:Li Str):Bool:=
 decide (a.kind=.function)&&(a.names.all λp=>decide (p.2≠.cell))&&(b.all λx=>decide (a.names.lookup x=some .local))&&(a.names.all λp=>!decide (p.2=.local)||decide (a.names.lookup p.1=some .local)) &&
 decide (b++ZG a).Nodup&&(ZG a).all (λy=>Wv sc y&&decide (a.names.lookup y=some .free))
noncomputable def Zeu(_:CmpOp):Ot Bool:=none
noncomputable def unC(b:UnaryOp)(a:Ot CE):Ot CE:=match b with
 |.Not=>a.map .not
 |.USub=>a.map .neg
 |_=>none
noncomputable def Zf7(G:Gs)(sc:Scope)(f:Expr->Ot CE)(a:Ot CE):Li CmpOp->Li Expr->Ot CE
 |[c],[b]=>(match ZN G sc b with
  |some e=>o3 .inR (Zeu c) a (f e)
  |none=>o2 (.cmp c) a (f b))
 |_,_=>none
noncomputable def Zdn(f:Expr->Ot CE)(c:BoolOp)(pos:Pos):Li Expr->Ot CE
 |[]=>none
 |[a]=>f a
 |a :: b :: r=>match c with
  |.And=>o2 .and (f a) (f (.BoolOp .And (b :: r) pos))
  |.Or=>o2 .or (f a) (f (.BoolOp .Or (b :: r) pos))
noncomputable def ZfD(G:Gs)(sc:Scope)(f:Expr->Ot CE)(c:Ot Expr->Ot CE)(a b:Expr):Ot CE:=match Wd b with
 |some (d,g)=>o3 .slice (f a) (c d) (c g)
 |none=>match ZdK b with
  |some s=>(o2 (λx y=>og (Zhh y=true) (some (.rs false x))) (f a) (f s)).join
  |none=>match Qs G sc a with
   |some (e,h)=>(f b).map (.look e h)
   |none=>o2 .ix (f a) (f b)
noncomputable def itC(G:Gs)(sc:Scope)(b:Expr)(f:Expr->Ot CE):Li Str->Ot (Ot (Ot Bool)×CE)
 |[_]=>(match ZN G sc b with
  |some a=>(f a).map λc=>(some (some true),c)
  |none=>(f b).map λc=>(some (some false),c))
 |[_,_,_]=>(match Xy G sc b with
  |some _=>none
  |none=>(f b).map λc=>(none,c))
 |_=>(match Xy G sc b with
  |some a=>(f a).map λc=>(some none,c)
  |none=>(f b).map λc=>(none,c))
noncomputable def ifC(f:Expr->Ot CE):Li Expr->Ot CE
 |[]=>some (CE.c (.bl true))
 |[c]=>f c
 |_=>none
noncomputable def Zdp(G:Gs)(sc a:Scope)(N:Li Str)(f:Expr->Ot CE)(g:Li Str->Expr->Ot CE)(d:Expr):Li Comprehension->Ot CE
 |[⟨e,h,c,0⟩]=>(match tgN e with
  |none=>none
  |some b=>og (YV sc a b=true) (o3 (λi p (q:CE×CE)=>mkC b.length p.1 i p.2 q.1 q.2) (Y2 N (ZG a)) (itC G sc h f b) (o2 Prod.mk (g (b++ZG a) d) (ifC (g (b++ZG a)) c))))
 |_=>none
mutual
noncomputable def cE(G:Gs):Nat->Scope->Li Str->Expr->Ot CE
 |0,_,_,_=>none
 |n+1,sc,N,e=>match e with
  |.Constant c _ _=>CE.ofConst c
  |.Name x _=>ZaI G sc N x
  |.BinOp a h b _=>o2 (.bin h) (cE G n sc N a) (cE G n sc N b)
  |.UnaryOp h a _=>unC h (cE G n sc N a)
  |.Compare a k bs _=>Zf7 G sc (cE G n sc N) (cE G n sc N a) k bs
  |.BoolOp h q j=>Zdn (cE G n sc N) h j q
  |.IfExp c a b _=>o3 .ife (cE G n sc N c) (cE G n sc N a) (cE G n sc N b)
  |.Tuple l _ _=>(cEs G n sc N l).map .tupE
  |.List l _=>(cEs G n sc N l).map .lstE
  |.Dict keys d _=>Zhb (cE G n sc N) keys d
  |.Attribute o f _=>Zgk o f (cE G n sc N o)
  |.Subscript a b _=>ZfD G sc (cE G n sc N) (cO G n sc N) a b
  |.Call f p [] r=>Zf4 G sc f p r (cEs G n sc N p) (cE G n sc N)
  |.ListComp m i g _=>Zdp G sc g N (cE G n sc N) (cE G n g) m i
  |_=>none
noncomputable def cEs(G:Gs):Nat->Scope->Li Str->Li Expr->Ot CE
 |0,_,_,_=>none
 |_+1,_,_,[]=>some .aN
 |n+1,sc,N,e :: a=>o2 .aC (cE G n sc N e) (cEs G n sc N a)
noncomputable def cO(G:Gs):Nat->Scope->Li Str->Ot Expr->Ot CE
 |0,_,_,_=>none
 |_+1,_,_,none=>some .nop
 |n+1,sc,N,some e=>(cE G n sc N e).map .part
end
noncomputable def Yc:Expr->Bool
 |.ListComp ..=>true
 |.SetComp ..=>true
 |.DictComp ..=>true
 |_=>false
noncomputable def VZ:Expr->Bool
 |.Tuple ..=>true
 |_=>false
noncomputable def Zf3(N:Li Str)(a e:Expr)(c:Ot CE):Ot CS:=match a with
 |.Name x _=>o2 .set (N.idxOf? x) c
 |.Tuple [.Name x _,.Name y _] _ _=>og ((Yc e||VZ e)=false) (o3 (λi j c=>og (i≠j) (some (.set2 i j c))) (N.idxOf? x) (N.idxOf? y) c).join
 |.Tuple [.Name x _,.Name y _,.Name z _] _ _=>og ((Yc e||VZ e)=false) (o3 (λi j (p:Nat×CE)=>.set3 i j p.1 p.2) (N.idxOf? x) (N.idxOf? y) (o2 Prod.mk (N.idxOf? z) c))
 |_=>none
noncomputable def ZgH(sc:Scope)(N:Li Str)(x:Str)(k e:Expr)(f:Expr->Ot CE):Ot CS:=og (Yc e=false/\Zex k=false/\Y0 sc x=true) (o3 .put (N.idxOf? x) (f k) (f e))
noncomputable def XC:Expr->Ot Expr
 |.Call (.Attribute (.Attribute o f p) m b) [] [] a=>og (m = "items"/\(b.endLine==a.line)=true) (some (.Attribute o f p))
 |_=>none
noncomputable def Zer(G:Gs)(sc:Scope)(N:Li Str)(f:Expr->Ot CE)(fs:Li Expr->Ot CE)(h d:Expr)(b:Ot CS):Ot CS:=match h with
 |.Name x _=>(match Xa G sc d with
  |some g=>o3 .for3 (N.idxOf? x) (fs g) b
  |none=>match ZN G sc d with
   |some a=>o3 (λi c b=>.for1 i true c b) (N.idxOf? x) (f a) b
   |none=>o3 (λi c b=>.for1 i false c b) (N.idxOf? x) (f d) b)
 |.Tuple [.Name x _,.Name y _] _ _=>(o2 (λi j=>og (i≠j) (some (i,j))) (N.idxOf? x) (N.idxOf? y)).join.bind λp=>(match XG G sc d with
  |some g=>o2 (.forP p.1 p.2) (fs g) b
  |none=>match Wa G sc d with
   |some e=>o2 (.forE p.1 p.2) (f e) b
   |none=>match XC d with
    |some e=>o2 (.forI p.1 p.2) (f e) b
    |none=>o2 (.for2 p.1 p.2) (f d) b)
 |.Tuple [.Name x _,.Name y _,.Name z _] _ _=>o3 (λ(p:Nat×Nat) (q:Nat×CE) b=>.for4 p.1 p.2 q.1 q.2 b) (o2 Prod.mk (N.idxOf? x) (N.idxOf? y)) (o2 Prod.mk (N.idxOf? z) (f d)) b
 |_=>none
noncomputable def Zd5(sc:Scope)(N:Li Str)(x m:Str)(b a:Pos)(c:Ot CE):Ot CS:=og (Y0 sc x=true/\(b.endLine==a.line)=true) (if m = "append" then o2 .app (N.idxOf? x) c else if m = "extend" then o2 .ext (N.idxOf? x) c else none)
noncomputable def ZfZ(sc:Scope)(N:Li Str)(f:Expr->Ot CE):Expr->Ot CS
 |.Call (.Name g h) c b a=>(f (.Call (.Name g h) c b a)).map .act
 |.Call (.Attribute (.Name x p) m d) c b a=>if m = "append"\/m = "extend" then (match c,b with
  |[e],[]=>Zd5 sc N x m d a (f e)
  |_,_=>none) else (f (.Call (.Attribute (.Name x p) m d) c b a)).map .act
 |.Call (.Attribute (.Subscript o k p) m d) [e] [] a=>og (m = "append"/\(d.endLine==a.line)=true) (o2 .app2 (f (.Subscript o k p)) (f e))
 |_=>none
mutual
noncomputable def cS(G:Gs):Nat->Scope->Li Str->Stmt->Ot CS
 |0,_,_,_=>none
 |n+1,sc,N,s=>match s with
  |.Assign [.Subscript (.Name x _) k _] e _=>ZgH sc N x k e (cE G n sc N)
  |.Assign [.Subscript (.Attribute o f p) k _] e _=>og (Yc e=false/\Zex k=false) (o3 (.dput 0) (cE G n sc N (.Attribute o f p)) (cE G n sc N k) (cE G n sc N e))
  |.Assign [.Attribute (.Name x _) k _] e _=>og (Yc e=false/\Y0 sc x=true/\fldNames.contains k=true) (o2 (λi c=>.fset i k c) (N.idxOf? x) (cE G n sc N e))
  |.Assign [d] e _=>Zf3 N d e (cE G n sc N e)
  |.Expr e _=>ZfZ sc N (cE G n sc N) e
  |.Return (some e) _=>(cE G n sc N e).map .ret
  |.If c a b _=>o3 .ite (cE G n sc N c) (cSs G n sc N a) (cSs G n sc N b)
  |.For d g b [] _=>Zer G sc N (cE G n sc N) (cEs G n sc N) d g (cSs G n sc N b)
  |.While c b [] _=>o2 .whl (cE G n sc N c) (cSs G n sc N b)
  |.Pass _=>some .skip
  |.Break _=>some .brk
  |.Continue _=>some .cont
  |.Raise _ _ _=>some .stop
  |_=>none
noncomputable def cSs(G:Gs):Nat->Scope->Li Str->Li Stmt->Ot CS
 |0,_,_,_=>none
 |_+1,_,_,[]=>some .skip
 |n+1,sc,N,s :: r=>o2 .seq (cS G n sc N s) (cSs G n sc N r)
end
end Dp
namespace Dp
open PySem PySem.Spec PyProof.Rows L2 PySem.SeqAt
noncomputable instance decD:DecidableEq D:=λa b=>Classical.propDecidable (a=b)
def IsV(h:Heap):Nat->D->vL->Prop
 |_,.int i,u=>∃ t,u=.int i t
 |_,.str x,u=>∃ t,u=.str x t
 |n+1,.tup b,u=>∃ a its,u=.ref a/\h.IsTuple a its/\Paired (IsV h n) b its.toList
 |_,_,_=>False
noncomputable def YR(w:World):Nat->D->Int
 |_,.int i=>keyH w (.inl i)
 |_,.str x=>keyH w (.inr x)
 |n+1,.tup a=>reduceHash (Builtin.Tuple.tupleHashOf (a.map (YR w n)))
 |_,_=>0
noncomputable def Wo:Nat->D->Nat
 |n+1,.tup a=>(a.map (Wo n)).sum+1
 |_,_=>1
variable {prog:Program}{w:World}{A:Around}{E:vL->sH7->Prop}{s:sH7}{h h':Heap}
inductive IsW(h:Heap):Nat->D->Value->Prop where
 |int (n:Nat) (i:Int) (t:Tok):IsW h n (.int i) (.int i t)
 |str (n:Nat) (i:Str) (t:Tok):IsW h n (.str i) (.str i t)
 |tup {m:Nat}{ds:List D}{a:Addr}{its:Array Value} (p:h.IsTuple a its) (r:Paired (IsV h m) ds its.toList):IsW h (m+1) (.tup ds) (.ref a)
variable{n:Nat}
theorem IsV.view{d:D}{u:vL}(x:IsV h n d u):IsW h n d u:=by
 cases d with
 |int i=>
  obtain⟨t,rfl⟩:∃ t,u=.int i t:=by cases n<;>exact x
  exact .int n i t
 |str i=>
  obtain⟨t,rfl⟩:∃ t,u=.str i t:=by cases n<;>exact x
  exact .str n i t
 |tup b=>cases n with
  |zero=>exact False.elim x
  |succ m=>obtain⟨a,its,rfl,p,r⟩:=x;exact .tup p r
 |_=>exact False.elim (by cases n<;>exact x)
variable{i:Int}
theorem Zcd{t:Tok}:IsV h n (.int i) (.int i t):=by cases n<;>exact⟨t,rfl⟩
theorem Zce{i:Str}{t:Tok}:IsV h n (.str i) (.str i t):=by cases n<;>exact⟨t,rfl⟩
theorem IsV.inj:∀ {n:Nat}{x y:D}{u:vL},IsV h n x u->IsV h n y u->x=y:=by
 intro n
 induction n using Nat.strongRecOn with
 |_ n s=>
  intro x y u t j;cases t.view with
  |int=>cases j.view;rfl
  |str=>cases j.view;rfl
  |@tup m e a its p r=>
   cases j.view with
   |tup l g=>
    obtain⟨o,v,E,k,w⟩:=p;obtain⟨B,b,z,C,c⟩:=l;rw[v]at b;cases b
    rw[w]at c;injection c with A _;subst A
    have go:∀ {e d:Li D}{f:Li vL},Paired (IsV h m) e f->Paired (IsV h m) d f->e=d:=λ{e d f} p=>by
     induction p generalizing d with
     |nil=>intro q;cases q;rfl
     |cons r p i=>intro q;cases q with
      |cons g q=>rw[s m (bS m) r g,i q]
    rw[go r g]
theorem IsV.map(k:∀ a its,h.IsTuple a its->h'.IsTuple a its):∀ {n:Nat}{x:D}{u:vL},IsV h n x u->IsV h' n x u:=by
 intro n
 induction n using Nat.strongRecOn with
 |_ n b=>
  intro x u c;cases c.view with
  |int=>exact Zcd
  |str=>exact Zce
  |@tup m d a its p r=>exact⟨a,its,rfl,k _ _ p,Paired.mapP r λx y q=>b m (bS m) q⟩
theorem Zd2{d c:Li D}:((List.range (min d.length c.length)).all (λi=>decide ((d[i]?).getD .non=(c[i]?).getD .non))&&d.length==c.length)=decide (d=c):=by
 rw[bO,bA7,cQ,decide_eq_true_iff,beq_iff_eq];constructor
 .rintro⟨f,e⟩
  refine List.ext_getElem e λi a b=>?_
  have:=f i (cW.mpr (by omega))
  rw[decide_eq_true_iff,lG7 a,lG7 b]at this;exact this
 .rintro rfl
  exact⟨λi _=>aG rfl,rfl⟩
theorem Xn{m:Nat}:∀ {ds:Li D}{vs:Li vL},Paired (IsV h m) ds vs->ds.length=vs.length/\∀ i (a:i < ds.length) (b:i < vs.length),IsV h m ds[i] vs[i]
 |_,_,.nil=>⟨rfl,λi a=>nomatch a⟩
 |_,_,.cons r p=>by
  obtain⟨l,g⟩:=Xn p;refine⟨congrArg (·+1) l,λi a b=>?_⟩
  cases i with
  |zero=>exact r
  |succ i=>exact g i _ _
theorem dec_int{j:Int}:decide (D.int i=D.int j)=(i==j):=by rw[bO,decide_eq_true_iff,beq_iff_eq];exact⟨D.int.inj,congrArg _⟩
theorem dec_str{i j:Str}:decide (D.str i=D.str j)=(i==j):=by rw[bO,decide_eq_true_iff,beq_iff_eq];exact⟨D.str.inj,congrArg _⟩
theorem ZbL{i j:Li D}:decide (D.tup i=D.tup j)=decide (i=j):=by rw[bO,decide_eq_true_iff,decide_eq_true_iff];exact⟨D.tup.inj,congrArg _⟩
theorem eqV:∀ {n:Nat}{x y:D}{A:Around}{u v:vL},A.units+n < cLine->IsV s.heap n x u->IsV s.heap n y v->EqAt A s u v (decide (x=y)):=by
 intro n
 induction n using Nat.strongRecOn with
 |_ n H=>
  intro x y A u v I w g;cases w.view with
  |int _ i t=>
   cases g.view with
   |int _ j c=>exact dec_int ▸ EqAt.int_int i t j c
   |str _ j c=>rw[aF (λe=>nomatch e)];exact EqAt.int_str i t j c
   |tup p r=>rw[aF (λe=>nomatch e)];exact EqAt.int_tuple i t p (by omega)
  |str _ i t=>
   cases g.view with
   |int _ j c=>rw[aF (λe=>nomatch e)];exact EqAt.str_int i t j c
   |str _ j c=>exact dec_str ▸ EqAt.str_str i t j c
   |tup p r=>rw[aF (λe=>nomatch e)];exact EqAt.str_tuple i t p (by omega)
  |@tup m k a its p r=>
   cases g.view with
   |int _ j c=>rw[aF (λe=>nomatch e)];exact EqAt.tuple_int j c p (by omega)
   |str _ j c=>rw[aF (λe=>nomatch e)];exact EqAt.tuple_str j c p (by omega)
   |@tup _ h b d G F=>
    by_cases f:a=b
    .subst f
     rw[aG (w.inj g)];exact EqAt.same _
    .obtain⟨o,g1⟩:=Xn r
     obtain⟨l,g2⟩:=Xn F;refine EqAt.of_refs f ?_;have q:=RcAt.tuples (A:=A) (s:=s) (e:=λi=>decide ((k[i]?).getD .non=(h[i]?).getD .non)) p G (by omega) λj B z=>?_
     .rw[show its.size=k.length from o.symm,show d.size=h.length from l.symm,Zd2]at q
      rw[ZbL];exact q
     .have E:j < k.length:=o ▸ B
      have C:j < h.length:=l ▸ z;rw[lG7 E,lG7 C];exact H m (bS m) (A:=A.in1) (by show A.units+1+m < cLine;omega) (g1 j E B) (g2 j C z)
variable {prog:Program}{w:World}{A:Around}{E:vL->sH7->Prop}{s:sH7}{h h':Heap}
theorem Q2:YR w n (.int i)=keyH w (.inl i):=by cases n<;>rfl
theorem Q3{i:Str}:YR w n (.str i)=keyH w (.inr i):=by cases n<;>rfl
theorem QW:Wo n (.int i)=1:=by cases n<;>rfl
theorem QX{i:Str}:Wo n (.str i)=1:=by cases n<;>rfl
theorem Zcy:∀ {n:Nat}{d:D}{A:Around}{u:vL}{s:sH7}{Q:Int->sH7->Prop},A.units+n < cLine->IsV s.heap n d u->Q (YR w n d) { s with toks:=s.toks+Wo n d }->wpAny (model prog w) A (pyHash u) Q E s:=by
 intro n
 induction n using Nat.strongRecOn with
 |_ n C=>
  intro d A u s Q K G h;cases G.view with
  |int _ i t=>
   rw[Q2,QW]at h;exact(mixKind prog w).pyHash (mixKind_int prog w i t) h
  |str _ i t=>
   rw[Q3,QX]at h;exact(mixKind prog w).pyHash (mixKind_str prog w i t) h
  |@tup m B a its p r=>
   obtain⟨o,z,I,k,H⟩:=p;have l:s.TypeIs (.ref a) "tuple":=⟨o,z,I⟩;unfold pyHash
   first|unfold pyHashByItsType|skip
   first|refine aA (wpAny_cRoomFor_or (.inr (by omega)) ?_)|skip
   refine aA (wpAny_specialOf l F.slot_tuple_hash.lookup ?_);show wpAny _ _ (if (some (Value.builtin "tuple.__hash__")==some Value.none)=true then _ else _) Q E s
   rw[if_neg (by rw[beq_builtin_none];exact bF7)]
   refine aA (wpAny_specialOf l F.slot_tuple_hash.lookup ?_);show wpAny _ _ (callSpecialIfBoundUnlessNone? (.ref a) "__hash__" _ >>= _) Q E s;refine aA (wpAny_callSpecialIfBoundUnlessNone?_slot l F.slot_tuple_hash (wpAny_call_entry F.slot_tuple_hash l F.entry_tuple_hash ?_ (F.args_tuple_hash_1 _)));show wpAny _ _ (Builtin.Tuple.tupleItemsOf (.ref a) >>= _) _ _ s;refine aA (wpAny_tupleItemsOf z H ?_)
   refine aA ?_;rw[<-Array.forIn_toList];refine wpAny_forIn_list _
    (λc (b:Array Int) q=>∃ done left,B=done++left/\Paired (IsV s.heap m) left c/\b.toList=done.map (YR w m)/\q={ s with toks:=s.toks+(done.map (Wo m)).sum })
    _ ?_ ?_ _ _ ⟨[],B,rfl,r,rfl,rfl⟩
   .rintro x c b q ⟨done,left,rfl,v,j,rfl⟩
    cases v with
    |@cons y _ e _ J f=>
     refine aA (C m (bS m) (by show A.units+1+m < cLine;omega) J ?_)
     first
      |exact aB ⟨done++[y],e,by simp,f,by simp[j],by simp[cT]⟩
      |exact aA (aB (aB ⟨done++[y],e,by simp,f,by simp[j],by simp[cT]⟩))
   .rintro b q ⟨done,left,rfl,v,j,rfl⟩
    cases v;rw[bC]at h;show wpAny _ _ (retInt (Builtin.Tuple.tupleHashOf b.toList)) _ _ _;rw[j];refine wpAny_ret_mkInt ?_;show wpAny _ _ (if (decide (-(2:Int) ^ 63<=Builtin.Tuple.tupleHashOf (done.map (YR w m)))&&decide (Builtin.Tuple.tupleHashOf (done.map (YR w m)) < 2 ^ 63))=true then _ else _) Q E _
    have h:Q (reduceHash (Builtin.Tuple.tupleHashOf (done.map (YR w m)))) { s with toks:=s.toks+((done.map (Wo m)).sum+1) }:=h
    unfold reduceHash at h;by_cases g:(decide (-(2:Int) ^ 63<=Builtin.Tuple.tupleHashOf (done.map (YR w m)))&&decide (Builtin.Tuple.tupleHashOf (done.map (YR w m)) < 2 ^ 63))=true
    .rw[if_pos g]
     rw[if_pos g]at h;exact aB (by simpa[cT] using h)
    .rw[if_neg g]
     rw[if_neg g]at h;exact aA (wpAny_rule (aB (by simpa[cT] using h)))
theorem Zfh{M:Model}:∀ {n:Nat}{d:D}{u:vL}{s:sH7}{Q:Bool->sH7->Prop},IsV s.heap n d u->Q true s->wpAny M A (eqIsQuiet n u) Q E s:=by
 intro n
 induction n using Nat.strongRecOn with
 |_ n q=>
  intro d u s Q w h;cases w.view with
  |int _ i t=>
   rw[eqIsQuiet_byValue _ rfl];exact aB h
  |str _ i t=>
   rw[eqIsQuiet_byValue _ rfl];exact aB h
  |@tup m C a its p r=>
   obtain⟨o,j,z,k,y⟩:=p;have l:s.TypeIs (.ref a) "tuple":=⟨o,j,z⟩;unfold eqIsQuiet;refine aA (wpAny_specialOf l F.slot_tuple_eq.lookup ?_);show wpAny _ _ (isInstance (.ref a) (.type "tuple") >>= _) _ _ s;refine aA (wpAny_isInstance l isSubtype_tuple_tuple ?_);simp only[Bool.not_true,dB,if_false];refine aA (wpAny_seqItems j y ?_);refine aA ?_
   show wpAny _ _ (forIn its _ _) _ _ s;rw[<-Array.forIn_toList];refine wpAny_forIn_list _ (λb r c=>r.1=none/\c=s/\∃ left,Paired (IsV s.heap m) left b) _ ?_ ?_ _ _ ⟨rfl,rfl,C,r⟩
   .rintro v b r c ⟨f,rfl,left,x⟩
    cases x with
    |@cons I _ e _ B g=>
     refine aA (q m (bS m) B ?_);simp only[Bool.not_true,dB,if_false];exact aB ⟨rfl,rfl,e,g⟩
   .rintro⟨H,G⟩ c ⟨f,rfl,_⟩
    simp only at f;subst f;exact aB h
noncomputable def ZdD(prog:Program)(w:World):HeapKind prog w D where
 is:=λh d a=>IsV h 8 d (.ref a)
 hash:=YR w 8
 draws:=Wo 8
 room:=λA=>A.units+8 < cLine
 inj:=λc b=>c.inj b
 keeps:=λx m n l=>x.map λa its ⟨o,j,p,k,i⟩=>⟨o,(l.2 a λe=>by subst e;rw[m]at j;cases j;rw[n]at i;exact nomatch i).trans j,p,k,i⟩
 pyHash:=λf g h=>Zcy f g h
 eqBool:=λf c b h=>eqV f c b _ _ _ _ h
 quiet:=λg h=>Zfh g h
def Zbg(K:fG7):TE:=λ_ H Q=>∀ p,H p=none->(∀ o,K.lookup p≠some o)->Q (.ref p) (upd H p (.dN λ_=>[]))
theorem ZaU{X:Cx}{pos:Pos}:PE X (.Dict [] [] pos) (Zbg X.K):=λb s O H Q I h=>
 wpAny_Dict_empty ⟨.ref s.heap.objs.size,_,I.laid (a:=s.heap.objs.size) (o:=.dN λ_=>[]) (t':=s.toks) (λ_ _ q=>aO _ q) (aD _) ⟨bW.mpr (Ne.symm (aW I.big)),_,#[],aY _ rfl,⟨rfl,rfl,rfl⟩,rfl,rfl⟩,rfl,h _ (I.hok.fresh (aD _)) λo z=>absurd (aI (I.kIn _ o z)) (bL _)⟩
variable{d a b:Ad}{Q:Unit->sH7->Prop}
section
variable {prog:Program}{w:World}{K:Type} [DecidableEq K] {knd:HeapKind prog w K}{A:Around}{E:vL->sH7->Prop}{s:sH7}
def DictE(knd:HeapKind prog w K)(h:Heap)(d:Ad)(a:Li (K×Ad×vL)):Prop:=∃ o b,h.get? d=some o/\o.ExactDict/\o.data=.dict b b.size/\b.toList=a.map (entryOfKey knd)/\(∀ x∈a,knd.is h x.1 x.2.1)/\(a.map (·.1)).Nodup
theorem DictE.typeIs{a:Li (K×Ad×vL)}(b:DictE knd s.heap d a):s.TypeIs (.ref d) "dict":=let ⟨o,_,ho,hc,_⟩:=b;⟨o,ho,hc.1⟩
theorem Zfz{f:Li (K×Ad×vL)}{k:K}{v:vL}(hu:knd.room A)(b:knd.is s.heap k a)(B:DictE knd s.heap d f)(hz:f.length<=sizeLine)(F:atKey f k=none)(G:∀ h',DictE knd h' d (f++[(k,a,v)])->Heap.SameBut d s.heap h'->Q () { s with heap:=h',toks:=s.toks+knd.draws k }) :
  wpAny (model prog w) A (dictSet d (.ref a) v) Q E s:=by
 obtain⟨o,u,g,D,c,r,i,q⟩:=B;have H:=size_of_entries r;unfold dictSet
 try with_reducible refine wpAny_holding ?_
 refine aA (knd.pyHash hu b ?_);unfold dictSetHashed
 try with_reducible refine wpAny_holding ?_
 refine aA (wpAny_dictFind_heap (s:={ s with toks:=s.toks+knd.draws k }) hu b g c r i q (λn=>?_) (λj p C=>?_))
 .have h:k∉f.map (·.1):=not_mem_keys_of_get n
  have m:u.size+1=(u.push ⟨knd.hash k,.ref a,v⟩).size:=(Array.size_push _).symm;refine aA (wpAny_rule (wpAny_updateDictKeys (hz:=by omega) (s:={ s with toks:=s.toks+knd.draws k }) g c (G _ ⟨_,_,Heap.get?_update_self _ g (Obj.isFreed_of_dict (Obj.data_mapDictKeys c _)),D.mapDictKeys _,(Obj.data_mapDictKeys c _).trans (by rw[m]),by simp[r,entryOfKey],λx l=>?_,?_⟩ (Heap.SameBut.update ..))))
  .rcases aU.mp l with z|z
   .exact knd.keeps (i x z) g c (Heap.SameBut.update ..)
   .rw[aJ.mp z]
    exact knd.keeps b g c (Heap.SameBut.update ..)
  .rw[bN,dC]
   refine⟨q,by simp,λx l y t e=>?_⟩
   rw[aM,List.map_nil]at t;rw[aJ.mp t]at e;exact h ((show x=k from e) ▸ l)
 .have:=atKey_of_get q C
  rw[F]at this;cases this
theorem Zd6{a:Li (K×Ad×vL)}(b:(a.map (·.1)).Nodup):∀ x∈a,atKey a x.1=some x.2:=by
 induction a with
 |nil=>exact λx hx=>nomatch hx
 |cons y a c=>
  intro x hx;rw[aM,bM]at b;unfold atKey;rw[cK];rcases aH.mp hx with rfl|hx
  .rw[aG rfl];rfl
  .rw[aF (λe=>b.1 (aR.mpr ⟨x,hx,e.symm⟩))]
   exact c b.2 x hx
theorem ZaX{d:Li (K×Ad×vL)}{k:K}{v:vL}(g:(d.map (·.1)).Nodup)(h:atKey d k=some (b,v)):d.map (putAt k v)=d:=by
 refine(List.map_congr_left λx f=>?_).trans (List.map_id d)
 unfold putAt;split
 .rename_i e
  have:=Zd6 g x f;rw[show x.1=k from e,h]at this;cases x with
  |mk a c=>cases this;rfl
 .rfl
theorem ZfA{h:Li (K×Ad×vL)}{k:K}{v:vL}(hu:knd.room A)(c:knd.is s.heap k a)(y:DictE knd s.heap d h)(r:atKey h k=some (b,v))(C:∀ h',DictE knd h' d h->Heap.SameBut d s.heap h'->Q () { s with heap:=h',toks:=s.toks+knd.draws k }) :
  wpAny (model prog w) A (dictSet d (.ref a) v) Q E s:=by
 obtain⟨o,t,i,B,g,q,f,m⟩:=y;unfold dictSet
 try with_reducible refine wpAny_holding ?_
 refine aA (knd.pyHash hu c ?_);unfold dictSetHashed
 try with_reducible refine wpAny_holding ?_
 refine aA (wpAny_dictFind_heap (s:={ s with toks:=s.toks+knd.draws k }) hu c i g q f m (λn=>?_) (λj p z=>?_))
 .have:=atKey_none_of_get n
  rw[r]at this;cases this
 .have D:(t.modify j λe:DictEntry=>{ e with val:=v }).toList=h.map (entryOfKey knd):=by
   have:=modify_map_putAt (entryOfKey knd) (λe:DictEntry=>{ e with val:=v }) k v (λ_ _=>rfl) m z
   rw[<-q,ZaX m r]at this;obtain⟨l⟩:=t;simpa using this
  refine aA (wpAny_rule (aA (wpAny_updateDict (s:={ s with toks:=s.toks+knd.draws k }) i g (wpAny_point (C _ ⟨_,_,Heap.get?_update_self _ i (Obj.isFreed_of_dict (Obj.data_mapDict g _)),B.mapDict _,(Obj.data_mapDict g _).trans (by rw[Array.size_modify]),D,λx u=>knd.keeps (f x u) i g (Heap.SameBut.update ..),m⟩ (Heap.SameBut.update ..))))))
theorem Zbb{f:Li (K×Ad×vL)}{k:K}{v:vL}(hu:knd.room A.in1)(e:knd.is s.heap k a)(c:DictE knd s.heap d f)(i:atKey f k=some (b,v))(j:∀ h',DictE knd h' d f->Heap.SameBut d s.heap h'->Q () { s with heap:=h',toks:=s.toks+knd.draws k }) :
  wpAny (model prog w) A (setItem (.ref d) (.ref a) v) Q E s:=by
 unfold setItem
 try with_reducible refine wpAny_holding ?_
 refine aA (wpAny_sequenceKey c.typeIs (by decide) (aA (wpAny_callSpecial?_slot (name:=Str.ofString "__setitem__") c.typeIs slot_dict_setitem (wpAny_call_entry slot_dict_setitem c.typeIs entry_dict_setitem ?_ (args_dict_setitem _ _ _)))))
 show wpAny _ _ (Builtin.Dict.notOrdered "__setitem__" ⟨[.ref d,.ref a,v],[]⟩ >>= λ_=>dictSet d (.ref a) v >>= _) _ _ s
 exact aA (wpAny_notOrdered_dict c.typeIs (aA (ZfA hu e c i λh' h g=>aB ⟨.none,rfl,aB (j h' h g)⟩)))
theorem Zba{e:Li (K×Ad×vL)}{k:K}{v:vL}(hu:knd.room A.in1)(c:knd.is s.heap k a)(b:DictE knd s.heap d e)(h:e.length<=sizeLine)(i:atKey e k=none)(j:∀ h',DictE knd h' d (e++[(k,a,v)])->Heap.SameBut d s.heap h'->Q () { s with heap:=h',toks:=s.toks+knd.draws k }) :
  wpAny (model prog w) A (setItem (.ref d) (.ref a) v) Q E s:=by
 unfold setItem
 try with_reducible refine wpAny_holding ?_
 refine aA (wpAny_sequenceKey b.typeIs (by decide) (aA (wpAny_callSpecial?_slot (name:=Str.ofString "__setitem__") b.typeIs slot_dict_setitem (wpAny_call_entry slot_dict_setitem b.typeIs entry_dict_setitem ?_ (args_dict_setitem _ _ _)))))
 show wpAny _ _ (Builtin.Dict.notOrdered "__setitem__" ⟨[.ref d,.ref a,v],[]⟩ >>= λ_=>dictSet d (.ref a) v >>= _) _ _ s
 exact aA (wpAny_notOrdered_dict b.typeIs (aA (Zfz hu c b h i λh' g f=>aB ⟨.none,rfl,aB (j h' g f)⟩)))
end
variable{es:Array DictEntry}{ep:Nat}
variable{prog:Program}{w:World}{A:Around}{E:vL->sH7->Prop}{s:sH7}
def Raw(h:Heap)(d:Ad)(es:Array DictEntry)(ep:Nat):Prop:=∃ o,h.get? d=some o/\o.ExactDict/\o.data=.dict es ep
theorem Raw.typeIs(x:Raw s.heap d es ep):s.TypeIs (.ref d) "dict":=let ⟨o,ho,hc,_⟩:=x;⟨o,ho,hc.1⟩
theorem UW:Builtin.Dict_items.ownsTuple "dict_itemiterator"=true:=by decide
theorem Ja(d:Ad)(hd:(d==sysModules)=false) :
  MeetsIn prog w (Builtin.«dict.items» ⟨[.ref d],[]⟩) (λ_ R s=>(∃ es ep,Raw s.heap d es ep) /\
   R (.ok (.ret (.ref s.heap.objs.size))) { s with heap:=s.heap.push { cls:=.type "dict_items",data:=.fields #[.ref d] } }):=
 .of_wp λA R s ⟨⟨es,ep,a⟩,h⟩=>by
  refine aA ?_;unfold Builtin.Dict.noArgs;refine aA (wpAny_notOrdered_dict a.typeIs (aB ?_));show wpAny _ _ (Builtin.Dict.showsAll d >>= _) _ _ s;unfold Builtin.Dict.showsAll;rw[if_neg (by rw[hd];exact bF7)]
  exact aA (aB (aA (wpAny_newObj_type (aB ⟨_,rfl,h⟩))))
theorem Zau{v:Ad}{Q:vL->sH7->Prop}(b:s.heap.IsItemsView v d)(g:Raw s.heap d es ep)(i:Q (.ref s.heap.objs.size) { s with heap:=s.heap.push { cls:=.type "dict_itemiterator",data:=.fields #[.none,.bool false,.ref d,.int 0 0,.int es.size 0,.int ep 0,.none,.none] } }) :
  wpAny (model prog w) A (pyIter (.ref v)) Q E s:=by
 obtain⟨j,c,h,e⟩:=id b;obtain⟨o,f,k,a⟩:=id g;refine wpAny_pyIter_slot b.typeIs F.slot_dict_items_iter (wpAny_call_entry F.slot_dict_items_iter b.typeIs F.entry_dict_items_iter ?_ (F.args_dict_items_iter_1 _));unfold Builtin.«dict_items.__iter__»
 refine aA (aB (aA ?_));unfold Builtin.Dict_items.dictOf;refine aA (wpAny_field c e (x:=.ref d) rfl (aB (aA ?_)));unfold Builtin.Dict_items.newIterator;refine aA (wpAny_dictEntries f a (aA (wpAny_dictEpoch f a ?_)));simp only[UW,if_true];refine wpAny_newObj_type (aB ⟨_,rfl, "dict_itemiterator",_,⟨_,aY _ rfl,rfl⟩,F.slot_dict_itemiterator_next.lookup,?_⟩) (by simp only[sizeOk,Builtin.Dict_items.ownedTupleFields,aL,aK,aQ,cU,sizeLine_eq];omega)
 simpa[rawInt,Builtin.Dict_items.ownedTupleFields] using i
theorem Zcp{c:Ad}{i:Nat}{ok M:vL}{Q:Ot vL->sH7->Prop}(H:IsItemIter s.heap c d i es.size ep ok M)(V:Raw s.heap d es ep)(T:i < es.size)(X:∀ h',IsItemIterOut h' c d (i+1) es.size ep es[i].key es[i].val s.heap.objs.size->h'.get? s.heap.objs.size=some { cls:=.type "tuple",data:=.seq #[es[i].key,es[i].val] }->(∀ b o,b≠c->s.heap.get? b=some o->h'.get? b=some o)->Q (some (.ref s.heap.objs.size)) { s with heap:=h' }) :
  wpAny (model prog w) A (pyNext (.ref c)) Q E s:=by
 obtain⟨G,g,S,L,N⟩:=s;obtain⟨Y,O,W,P⟩:=id V;have R:Shared.TypeIs ⟨G,g,S,L,N⟩ (.ref c) "dict_itemiterator":=⟨_,H,rfl⟩;unfold pyNext;refine aA (wpAny_attempt (wpAny_callSpecial?_slot (name:=Str.ofString "__next__") R F.slot_dict_itemiterator_next (wpAny_call_entry F.slot_dict_itemiterator_next R F.entry_dict_itemiterator_next ?_ (F.args_dict_itemiterator_next_1 _))))
 refine aA (aB (aA (aA ?_)));refine aA (wpAny_typeNameOfWhole_itemiter R (aB (aA (wpAny_fieldsOf H rfl ?_))));simp only[UW,if_true];show wpAny _ _ (if (Value.ref d==Value.none)=true then _ else _) _ _ _
 rw[if_neg (show ¬((Value.ref d==Value.none)=true) from bF7)];refine aA (aB (aA (wpAny_dictEntries O P ?_)));rw[if_neg (by simp)]
 refine aA (aB (aA (wpAny_dictEpoch O P ?_)));rw[if_neg (by simp)]
 refine aB ?_;simp only[show ¬((i:Int) < 0) from by omega,if_false,bD,eM T]
 refine aA (aA (wpAny_typeNameOfWhole_itemiter R (aB (aA (wpAny_isOneOf_itemiter R ?_)))));show wpAny _ _ (setField (.ref c) 3 (rawInt ((i:Int)+1)) >>= _) _ _ ⟨G,g,S,L,N⟩;refine aA (wpAny_setField_rec H (by simp) λa j f=>?_)
 replace f:Heap.SameBut c G a:=f;replace j:IsItemIter a c d (i+1) es.size ep ok M:=by
  have e:((i+1:Nat):Int)=(i:Int)+1:=by omega
  unfold IsItemIter;rw[e];simpa[rawInt] using j
 have y:Shared.TypeIs ⟨a,g,S,L,N⟩ (.ref c) "dict_itemiterator":=⟨_,j,rfl⟩;refine aA (wpAny_holding (aA (wpAny_isOneOf_itemiter y (aA (wpAny_isOneOf_itemiter y ?_)))));show wpAny _ _ (Builtin.Dict_items.pairFromOwner (.ref c) 6 es[i].key es[i].val) _ _ ⟨a,g,S,L,N⟩;unfold Builtin.Dict_items.pairFromOwner;refine aA (wpAny_newTuple ?_);have h:IsItemIter (a.push { cls:=.type "tuple",data:=.seq #[es[i].key,es[i].val] }) c d (i+1) es.size ep ok M:=aO _ j
 generalize q:a.push { cls:=.type "tuple",data:=.seq #[es[i].key,es[i].val] }=h₂ at h;have k:a.objs.size=G.objs.size:=f.1;have U:G.objs.size≠c:=Nat.ne_of_gt (aI H);have J:h₂.get? G.objs.size=some { cls:=.type "tuple",data:=.seq #[es[i].key,es[i].val] }:=by rw[<-q,<-k];exact aY _ rfl
 have K:∀ b o,b≠c->G.get? b=some o->h₂.get? b=some o:=λb o I e=>by rw[<-q];exact aO _ (f.extBut b o I e)
 show wpAny _ _ (Builtin.Dict_items.ownedTupleIsFree (.ref c) >>= _) _ _ ⟨h₂,g,S,L,N⟩;rw[k];clear q j f y k a;refine aA ?_;unfold Builtin.Dict_items.ownedTupleIsFree;refine aA (wpAny_field h rfl (x:=.none) rfl (aB ?_));simp only[if_true];refine aA (wpAny_field h rfl (x:=ok) rfl (aA (wpAny_field h rfl (x:=M) rfl (aA (wpAny_setField_rec h (by simp) λD v p=>?_)))))
 replace p:Heap.SameBut c h₂ D:=p;replace v:IsItemIter D c d (i+1) es.size ep es[i].key M:=v;refine aA (wpAny_setField_rec v (by simp) λC u n=>?_)
 replace n:Heap.SameBut c D C:=n;replace u:IsItemIter C c d (i+1) es.size ep es[i].key es[i].val:=u;refine aA (wpAny_setField_rec u (by simp) λB t m=>?_)
 replace m:Heap.SameBut c C B:=m;replace t:IsItemIterOut B c d (i+1) es.size ep es[i].key es[i].val G.objs.size:=t;refine aA (wpAny_setField_rec t (by simp) λz r l=>?_)
 replace l:Heap.SameBut c B z:=l;replace r:IsItemIterOut z c d (i+1) es.size ep es[i].key es[i].val G.objs.size:=r;have go:∀ b o,b≠c->h₂.get? b=some o->z.get? b=some o:=λb o I e=>l.extBut b o I (m.extBut b o I (n.extBut b o I (p.extBut b o I e)))
 exact aA (wpAny_letGo (aB (aB ⟨_,rfl,aB (X z r (go _ _ U J) λb o I e=>go b o I (K b o I e))⟩)))
theorem Zem{e:Ad}{ok i:vL}{Q:Ot vL->sH7->Prop}(k:A.handled=none)(c:IsItemIter s.heap e d es.size es.size ep ok i)(j:Raw s.heap d es ep)(n:∀ h',Heap.ExtBut e s.heap h'->Q none { s with heap:=h' }):wpAny (model prog w) A (pyNext (.ref e)) Q E s:=by
 obtain⟨o,f,l,g⟩:=id j;have h:s.TypeIs (.ref e) "dict_itemiterator":=⟨_,c,rfl⟩;unfold pyNext;refine aA (wpAny_attempt (wpAny_callSpecial?_slot (name:=Str.ofString "__next__") h F.slot_dict_itemiterator_next (wpAny_call_entry F.slot_dict_itemiterator_next h F.entry_dict_itemiterator_next ?_ (F.args_dict_itemiterator_next_1 _))));refine aA (aB (aA (aA ?_)))
 refine aA (wpAny_typeNameOfWhole_itemiter h (aB (aA (wpAny_fieldsOf c rfl ?_))));simp only[UW,if_true];show wpAny _ _ (if (Value.ref d==Value.none)=true then _ else _) _ _ s
 rw[if_neg (show ¬((Value.ref d==Value.none)=true) from bF7)];refine aA (aB (aA (wpAny_dictEntries f g ?_)));rw[if_neg (by simp)]
 refine aA (aB (aA (wpAny_dictEpoch f g ?_)));rw[if_neg (by simp)]
 refine aB ?_;simp only[show ¬((es.size:Int) < 0) from by omega,if_false,bD,Array.getElem?_eq_none (aD es.size)]
 refine aA (aA (wpAny_typeNameOfWhole_itemiter h (aB ?_)));show wpAny _ _ (setField (.ref e) 2 .none >>= _) _ _ s;refine aA (wpAny_setField c rfl (by simp) ?_)
 show wpAny _ _ (newExc (.type "StopIteration") [] >>= _) _ _ _;refine aA ?_;simp only[newExc,newTuple];refine aA (wpAny_newObj_type ?_ (by size_fits))
 refine aA (m:=firstArgMember _ _) (wpAny_of_eq (a:=Value.none) (by first|rfl | (simp only[firstArgMember];rfl)) (wpAny_newObj_type ?_ (by size_fits)))
 simp only[raiseNew];refine aA (wpAny_handled ?_);rw[show A.in1.handled=none from k];refine aA (aB (wpAny_throw ?_));exact aA (wpAny_isInstance (T := "StopIteration") (b:=true) ⟨_,aY _ rfl,rfl⟩ isSubtype_stop (aB (n _ (((Heap.SameBut.update ..).extBut.push _).push _))))
variable{d:Ad}{es:Array DictEntry}{ep:Nat}
theorem UV(hd:(d==sysModules)=false) :
  MeetsIn prog w (Builtin.«dict.__len__» ⟨[.ref d],[]⟩) (λ_ R s=>Raw s.heap d es ep/\R (.ok (.ret (.int es.size s.toks))) { s with toks:=s.toks+1 }):=
 .of_wp λA R s ⟨⟨o,b,c,a⟩,h⟩=>by
  show wpAny _ _ (dictSize d >>= _) _ _ s;unfold dictSize;refine aA (aA (wpAny_dictEntries b a (aB ?_)));show wpAny _ _ (Builtin.Dict.pendingCount d >>= _) _ _ s;refine aA (wpAny_pendingCount_other hd (wpAny_ret_mkInt ?_));rw[Nat.add_zero];exact h
theorem Zcg{Q:vL->sH7->Prop}(hd:(d==sysModules)=false)(a:Raw s.heap d es ep)(b:(es.size:Int) < 2 ^ 63)(h:Q (.int es.size (s.toks+1)) { s with toks:=s.toks+1+1 }):wpAny (model prog w) A (call (.builtin "len") [.ref d]) Q E s:=by
 refine Calls.call_function_entry kind_len plain_len entry_len (args_len1 _) ?_;unfold Builtin.«len»
 refine aA (m:=oneArg "len" _) (aB ?_);refine aA (m:=callSpecial? (.ref d) (Str.ofString "__len__")) (wpAny_callSpecial?_slot (name:=Str.ofString "__len__") a.typeIs F.slot_dict_len
  (call_meetsIn F.slot_dict_len a.typeIs F.entry_dict_len (F.args_dict_len_1 _) (UV (es:=es) (ep:=ep) hd) ⟨a,?_⟩))
 show wpAny _ _ _ _ _ { s with toks:=s.toks+1 }
 refine aA (wpAny_holding (aB (aA (wpAny_letGo ?_))));show wpAny _ _ (if ((es.size:Nat):Int) < 0 then _ else _) _ _ _
 rw[if_neg (by omega)]
 show wpAny _ _ (if ((es.size:Nat):Int)>=2 ^ 63 then _ else _) _ _ _
 rw[if_neg (by omega)]
 exact aA (wpAny_mkInt (aB ⟨_,rfl,h⟩))
end Dp
namespace Dp
open PySem PySem.Spec PyProof.Rows L2
class ClsTab where
 ca:Nat->Addr
variable [ClsTab]
variable{X:Cx}{e:Expr}
theorem Zq{t a:TE}(h:PE X e t)(i:∀ O H Q,a O H Q->t O H Q):PE X e a:=λb s O H Q I q=>h b s O H Q I (i O H Q q)
theorem WE{t a:TT}(h:PT X e t)(i:∀ O H Q,a O H Q->t O H Q):PT X e a:=λb s O H Q I q=>h b s O H Q I (i O H Q q)
theorem ZaS{e:Li Expr}{t b:TA}(h:PA X e t)(i:∀ O H Q,b O H Q->t O H Q):PA X e b:=λa c s O H Q I q=>h a c s O H Q I (i O H Q q)
theorem ZaV{e:Ot Expr}{t a:TO}(h:PO X e t)(i:∀ O H Q,a O H Q->t O H Q):PO X e a:=λb s O H Q I q=>h b s O H Q I (i O H Q q)
theorem Zs{e:Stmt}{t a:TS}(h:PS X e t)(i:∀ D O H,a D O H->t D O H):PS X e a:=λb s O H D I q=>h b s O H D I (i D O H q)
theorem QB{e:Li Stmt}{t a:TS}(h:PSs X e t)(i:∀ D O H,a D O H->t D O H):PSs X e a:=λb s O H D I q=>h b s O H D I (i D O H q)
def KT(K:fG7)(a:Ad)(b:Li V):Prop:=
 ∃ (o:Obj) (its:Array vL) (n:Nat),K.lookup a=some o/\o.cls=.type "tuple"/\o.data=.seq its n/\its.size<=sizeLine/\Vals b its.toList
def TupAt(K:fG7)(H:Hp)(a:Ad)(b:Li V):Prop:=H a=some (.tup b)\/KT K a b
variable{K:fG7}{H:Hp}
theorem TupAt.sq{a:Ad}{b:Li V}(h:TupAt K H a b):SqT K H a b:=by
 rcases h with h|h
 .exact .inl (.inl h)
 .exact .inr h
noncomputable def isM:HO->Bool
 |.dN _=>true
 |.ins _ _ _=>true
 |_=>false
def ZW(H:Hp)(a:Ad):Prop:=∃ o,H a=some o/\isM o=true
def LA(b:Li Ad)(H:Hp)(i:Nat)(a:Ad):Prop:=b[i]?=some a/\¬ZW H a
variable{o:HO}
theorem Vp{a:Ad}(h:H a=some o)(n:isM o=false):¬ZW H a:=λ⟨b,z,m⟩=>by rw[h]at z;cases z;rw[n]at m;cases m
mutual
inductive Den(K:fG7)(ad:List Addr)(H:Hp):V->D->Prop where
 |non:Den K ad H .non .non
 |bl (b:Bool):Den K ad H (.bl b) (.bl b)
 |int (i:Int):Den K ad H (.int i) (.int i)
 |str (x:Str):Den K ad H (.str x) (.str x)
 |tup {a:Addr}{xs:List V}{ds:List D} (h:TupAt K H a xs) (r:Dens K ad H xs ds):Den K ad H (.ref a) (.tup ds)
 |lst {a:Addr}{i:Nat} (h:LA ad H i a):Den K ad H (.ref a) (.lst i)
 |dic {a:Addr}{i:Nat} (h:ad[i]?=some a) (n:ZW H a):Den K ad H (.ref a) (.dic i)
 |obj {a dx:Addr}{i:Nat} (h:H a=some (.ins (ClsTab.ca i) dx [])) (n:a∉ad):Den K ad H (.ref a) (.obj i)
 |kt {a:Addr}{ks:List Str}{o:Obj}{its:Array Value}{n:Nat} (l:K.lookup a=some o) (c:o.cls=.type "tuple") (g:o.dict=none) (e:o.data=.seq its n) (z:its.size<=sizeLine) (r:Vals (ks.map V.str) its.toList):Den K ad H (.ref a) (.kt ks)
inductive Dens(K:fG7)(ad:List Addr)(H:Hp):List V->List D->Prop where
 |nil:Dens K ad H [] []
 |cons {v:V}{d:D}{vs:List V}{ds:List D} (h:Den K ad H v d) (r:Dens K ad H vs ds):Dens K ad H (v :: vs) (d :: ds)
end
structure Ext(ad:List Addr)(H:Hp)(ad':List Addr)(H':Hp):Prop where
 pre:∀ (i:Nat) (a:Addr),ad[i]?=some a->ad'[i]?=some a
 tup:∀ b xs,H b=some (.tup xs)->H' b=some (.tup xs)
 keep:∀ b o,H b=some o->b∉ad->H' b=some o
 new:∀ b,b∈ad'->b∈ad\/H b=none
 kd:∀ (i:Nat) (a:Addr),ad[i]?=some a->(ZW H a↔ZW H' a)
theorem Ext.refl(a:Li Ad)(H:Hp):Ext a H a H:=⟨λ_ _ h=>h,λ_ _ h=>h,λ_ _ h _=>h,λ_ h=>.inl h,λ_ _ _=>Iff.rfl⟩
theorem Ext.trans{c j g:Li Ad}{d l k:Hp}(x:Ext c d j l)(y:Ext j l g k):Ext c d g k:=by
 refine⟨λi a h=>y.pre i a (x.pre i a h),λb f h=>y.tup b f (x.tup b f h),λb o h n=>?_,λb h=>?_,λi a h=>(x.kd i a h).trans (y.kd i a (x.pre i a h))⟩
 .refine y.keep b o (x.keep b o h n) λz=>?_
  rcases x.new b z with z|z
  .exact n z
  .rw[h]at z;cases z
 .rcases y.new b h with z|z
  .exact x.new b z
  .cases e:d b with
   |none=>exact .inr rfl
   |some o=>
    by_cases q:b∈c
    .exact .inl q
    .rw[x.keep b o e q]at z;cases z
variable{ad ad':Li Ad}{H':Hp}
theorem TupAt.mono{a:Ad}{b:Li V}(x:Ext ad H ad' H')(h:TupAt K H a b):TupAt K H' a b:=h.imp (x.tup _ _) id
theorem TupAt.upd{K:fG7}{H:Hp}{a p:Ad}{b:Li V}{o d:HO}(c:H p=some o)(e:∀ b,o≠.tup b)(h:TupAt K H a b):TupAt K (upd H p d) a b:=by
 rcases h with h|h
 .refine .inl ?_
  have n:a≠p:=λz=>by subst z;rw[h]at c;cases c;exact e _ rfl
  rw[upd_ne n];exact h
 .exact .inr h
variable{d:D}{vs ys:Li V}{ds es:Li D}{ks:Li Str}{i j:Nat}{kvs:Li (Str×V)}{xs:Li (D×Ad×Ot Ad)}{st:Za}{p:Ad}{α:Type}{o':HO}{O:L2.St}{U:Env}
variable{K:fG7}{ad ad':Li Ad}{H H':Hp}
structure Keeps(K:fG7)(ad ad':List Addr)(H H':Hp):Prop where
 t:∀ {a xs},TupAt K H a xs->TupAt K H' a xs
 l:∀ {i:Nat}{a:Addr},ad[i]?=some a->ad'[i]?=some a/\(ZW H a↔ZW H' a)
 o:∀ {a C dx},H a=some (.ins C dx [])->a∉ad->H' a=some (.ins C dx [])/\a∉ad'
theorem Den.map(x:Keeps K ad ad' H H'){v:V}(h:Den K ad H v d):Den K ad' H' v d:=
 Den.rec (motive_1:=λv d _=>Den K ad' H' v d) (motive_2:=λvs ds _=>Dens K ad' H' vs ds) .non .bl .int .str (λh _ r=>.tup (x.t h) r) (λh=>.lst ⟨(x.l h.1).1,λz=>h.2 ((x.l h.1).2.mpr z)⟩) (λh n=>.dic (x.l h).1 ((x.l h).2.mp n)) (λh n=>.obj (x.o h n).1 (x.o h n).2) .kt .nil (λ_ _ a b=>.cons a b) h
theorem Dens.map(x:Keeps K ad ad' H H')(h:Dens K ad H vs ds):Dens K ad' H' vs ds:=
 Dens.rec (motive_1:=λ_ _ _=>True) (motive_2:=λvs ds _=>Dens K ad' H' vs ds) trivial (λ_=>trivial) (λ_=>trivial) (λ_=>trivial) (λ_ _ _=>trivial) (λ_=>trivial) (λ_ _=>trivial) (λ_ _=>trivial) (λ_ _ _ _ _ _=>trivial) .nil (λa _ _ b=>.cons (a.map x) b) h
theorem Ext.keeps(x:Ext ad H ad' H'):Keeps K ad ad' H H':=⟨λh=>h.mono x,λh=>⟨x.pre _ _ h,x.kd _ _ h⟩,λh n=>⟨x.keep _ _ h n,λz=>(x.new _ z).elim n λq=>by rw[h]at q;cases q⟩⟩
theorem Den.mono(x:Ext ad H ad' H'){v:V}(h:Den K ad H v d):Den K ad' H' v d:=h.map x.keeps
theorem Dens.mono(x:Ext ad H ad' H')(h:Dens K ad H vs ds):Dens K ad' H' vs ds:=h.map x.keeps
theorem Zez(x:∀ (i:Nat) (a:Ad),ad[i]?=some a->ad'[i]?=some a)(y:∀ b,b∈ad'->b∈ad\/∃ xs,H b=some (.lst xs)):Keeps K ad ad' H H:=⟨id,λh=>⟨x _ _ h,Iff.rfl⟩,λh n=>⟨h,λz=>(y _ z).elim n λ⟨xs,q⟩=>by rw[h]at q;cases q⟩⟩
theorem Dens.length:∀ {vs:Li V}{ds:Li D},Dens K ad H vs ds->vs.length=ds.length
 |_,_,.nil=>rfl
 |_,_,.cons _ r=>congrArg (·+1) (Dens.length r)
theorem Dens.get:∀ {vs:Li V}{ds:Li D}{i:Nat}{d:D},Dens K ad H vs ds->ds[i]?=some d->∃ v,vs[i]?=some v/\Den K ad H v d
 |_,_,_,_,.nil,e=>by simp at e
 |_,_,0,_,.cons h _,e=>by simp at e;subst e;exact⟨_,rfl,h⟩
 |_,_,i+1,d,.cons _ r,e=>by
  obtain⟨v,b,a⟩:=Dens.get (i:=i) (d:=d) r (by simpa using e)
  exact⟨v,by simpa using b,a⟩
theorem Dens.append:∀ {vs ws:Li V}{ds es:Li D},Dens K ad H vs ds->Dens K ad H ws es->Dens K ad H (vs++ws) (ds++es)
 |_,_,_,_,.nil,s=>s
 |_,_,_,_,.cons h r,s=>.cons h (Dens.append r s)
theorem Dens.take:∀ {vs:Li V}{ds:Li D} (n:Nat),Dens K ad H vs ds->Dens K ad H (vs.take n) (ds.take n)
 |_,_,0,_=>.nil
 |_,_,_+1,.nil=>.nil
 |_,_,n+1,.cons h r=>.cons h (Dens.take n r)
theorem Dens.drop:∀ {vs:Li V}{ds:Li D} (n:Nat),Dens K ad H vs ds->Dens K ad H (vs.drop n) (ds.drop n)
 |_,_,0,r=>r
 |_,_,_+1,.nil=>.nil
 |_,_,n+1,.cons _ r=>Dens.drop n r
theorem Dens.set{v:V}(h:Den K ad H v d):∀ {vs:Li V}{ds:Li D} (n:Nat),Dens K ad H vs ds->Dens K ad H (vs.set n v) (ds.set n d)
 |_,_,_,.nil=>.nil
 |_,_,0,.cons _ r=>.cons h r
 |_,_,n+1,.cons q r=>.cons q (Dens.set h n r)
theorem Dens.rep{v:V}(h:Den K ad H v d):∀ n:Nat,Dens K ad H (List.replicate n v) (List.replicate n d)
 |0=>.nil
 |n+1=>.cons h (Dens.rep h n)
theorem Den.ofInt{v:V}{i:Int}(h:Den K ad H v (.int i)):v=.int i:=by cases h;rfl
theorem Den.ofStr{v:V}{x:Str}(h:Den K ad H v (.str x)):v=.str x:=by cases h;rfl
theorem Den.ofBl{v:V}{b:Bool}(h:Den K ad H v (.bl b)):v=.bl b:=by cases h;rfl
theorem Den.ofNon{v:V}(h:Den K ad H v .non):v=.non:=by cases h;rfl
theorem Den.ofDct{v:V}(h:Den K ad H v (.dct ks ds)):∃ a vs,v=.ref a/\H a=some (.dK ((ks.zip vs).map λp=>(Sum.inr p.1,p.2)))/\ks.length=vs.length/\Dens K ad H vs ds:=by
 cases h
theorem Den.ofTup{v:V}(h:Den K ad H v (.tup ds)):∃ a xs,v=.ref a/\TupAt K H a xs/\Dens K ad H xs ds:=by
 cases h with
 |tup h r=>exact⟨_,_,rfl,h,r⟩
theorem Den.ofLst{v:V}(h:Den K ad H v (.lst i)):∃ a,v=.ref a/\LA ad H i a:=by
 cases h with
 |lst h=>exact⟨_,rfl,h⟩
theorem Den.ofDic{v:V}(h:Den K ad H v (.dic i)):∃ a,v=.ref a/\ad[i]?=some a/\ZW H a:=by
 cases h with
 |dic h n=>exact⟨_,rfl,h,n⟩
theorem Den.newL{a:Ad}{xs:Li V}(h:ad[i]?=some a):Den K ad (upd H a (.lst xs)) (.ref a) (.lst i):=.lst ⟨h,Vp upd_same rfl⟩
theorem LA.mono{a:Ad}(x:Ext ad H ad' H')(h:LA ad H i a):LA ad' H' i a:=⟨x.pre _ _ h.1,λz=>h.2 ((x.kd _ _ h.1).mpr z)⟩
theorem Den.ofKt{v:V}(h:Den K ad H v (.kt ks)):∃ a o its n,v=.ref a/\K.lookup a=some o/\(o.cls=.type "tuple"/\o.dict=none)/\o.data=.seq its n/\its.size<=sizeLine/\Vals (ks.map V.str) its.toList:=by
 cases h with
 |kt l c g e z r=>exact⟨_,_,_,_,rfl,l,⟨c,g⟩,e,z,r⟩
theorem WY:∀ ks:Li Str,Dens K ad H (ks.map V.str) (ks.map D.str)
 |[]=>.nil
 |k :: ks=>.cons (.str k) (WY ks)
theorem Den.ofObj{v:V}(h:Den K ad H v (.obj i)):∃ a b,v=.ref a/\H a=some (.ins (ClsTab.ca i) b []):=by
 cases h with
 |obj h n=>exact⟨_,_,rfl,h⟩
def KL(K:fG7)(a:Ad)(xs:Li V):Prop:=
 ∃ (o:Obj) (its:Array vL) (n:Nat),(K.lookup a=some o/\o.cls=.type "list")/\(o.dict=none/\o.data=.seq its n)/\its.size<=sizeLine/\Vals xs its.toList
inductive Ents(K:fG7)(ad:List Addr)(H:Hp):List (Str×V)->List D->Prop where
 |nil:Ents K ad H [] []
 |cons {k:Str}{v:V}{d:D}{kvs:List (Str×V)}{ds:List D} (h:Den K ad H v d) (r:Ents K ad H kvs ds):Ents K ad H ((k,v) :: kvs) (.tup [.str k,d] :: ds)
theorem Ents.map(x:Keeps K ad ad' H H')(h:Ents K ad H kvs ds):Ents K ad' H' kvs ds:=by
 induction h with
 |nil=>exact .nil
 |cons h _ a=>exact .cons (h.map x) a
theorem Ents.mono(x:Ext ad H ad' H')(h:Ents K ad H kvs ds):Ents K ad' H' kvs ds:=h.map x.keeps
noncomputable def toV:Ot Ad->V
 |some a=>.ref a
 |none=>.bl true
noncomputable def toW:Ot Ad->vL
 |some a=>.ref a
 |none=>.bool true
theorem ZaZ:∀ {x:Ot Ad},RelV (toV x) (toW x)
 |some _=>rfl
 |none=>rfl
theorem Zc9:∀ {x:Ot Ad}{u:vL},RelV (toV x) u->u=toW x
 |some _,_,h=>h
 |none,_,h=>h
theorem Zc8:∀ {x y:Ot Ad},toW x=toW y->x=y
 |some _,some _,h=>by cases h;rfl
 |none,none,_=>rfl
inductive EntN(K:fG7)(ad:List Addr)(H:Hp):List (D×Addr×Option Addr)->List D->Prop where
 |nil:EntN K ad H [] []
 |cons {k d:D}{ka:Addr}{va:Option Addr}{xs:List (D×Addr×Option Addr)}{ds:List D} (h:Den K ad H (.ref ka) k) (ok:okN 8 k=true) (v:Den K ad H (toV va) d) (r:EntN K ad H xs ds):EntN K ad H ((k,ka,va) :: xs) (.tup [k,d] :: ds)
noncomputable def Z1(xs:Li (D×Ad×Ot Ad)):World->Li DictEntry:=λw=>xs.map λx=>⟨YR w 8 x.1,.ref x.2.1,toW x.2.2⟩
theorem EntN.map(x:Keeps K ad ad' H H')(h:EntN K ad H xs ds):EntN K ad' H' xs ds:=by
 induction h with
 |nil=>exact .nil
 |cons h ok v _ a=>exact .cons (h.map x) ok (v.map x) a
theorem EntN.mono(x:Ext ad H ad' H')(h:EntN K ad H xs ds):EntN K ad' H' xs ds:=h.map x.keeps
theorem EntN.dict(h:EntN K ad H xs ds):Xj ds=false:=by cases h<;>rfl
structure ObC(K:fG7)(C:Addr):Prop where
 cl:Cls K C
 na:∀ f,fldNames.contains f=true->NoAttr K C f
inductive CellOk(K:fG7)(ad:List Addr)(H:Hp)(a:Addr)(c:Z8):Prop where
 |l {xs:List V} (n:¬ZW H a) (r:Dens K ad H xs c.2) (h:(c.1=true/\H a=some (.lst xs))\/(c.1=false/\((∃ o,H a=some (.frz o (.lst xs)))\/KL K a xs)))
 |d {xs:List (D×Addr×Option Addr)} (r:EntN K ad H xs c.2) (e:c.1=true) (h:H a=some (.dN (Z1 xs))) (n:(xs.map (·.1)).Nodup)
 |o {i:Nat}{dx:Addr}{kvs:List (Str×V)}{es:List D} (q:c.2=.int (i:Int) :: es) (r:Ents K ad H kvs es) (e:c.1=true) (h:H a=some (.ins (ClsTab.ca i) dx kvs)) (oc:ObC K (ClsTab.ca i)/\∀ k,fldNames.contains k=false->kvs.lookup k=none)
structure StOk(K:fG7)(ad:List Addr)(H:Hp)(st:Za):Prop where
 len:ad.length=st.length
 nd:∀ (i j:Nat) (a:Addr) (c d:List D),ad[i]?=some a->ad[j]?=some a->st[i]?=some (true,c)->st[j]?=some (true,d)->i=j
 cell:∀ (i:Nat) (c:Z8),st[i]?=some c->∃ a,ad[i]?=some a/\CellOk K ad H a c
theorem CellOk.sq{a:Ad}{c:Z8}(h:CellOk K ad H a c)(n:¬ZW H a):∃ xs,Dens K ad H xs c.2/\SqL K H a xs:=by
 cases h with
 |l _ r h=>
  obtain⟨_,e⟩|⟨_,⟨o,e⟩|⟨o,its,n,⟨k,j⟩,⟨i,g⟩,f,b⟩⟩:=h
  .exact⟨_,r,.inl (.inl e)⟩
  .exact⟨_,r,.inl (.inr ⟨o,e⟩)⟩
  .exact⟨_,r,.inr ⟨o,its,n,k,j,i,g,f,b⟩⟩
 |d r e h _=>exact absurd ⟨_,h,rfl⟩ n
 |o _ r e h _=>exact absurd ⟨_,h,rfl⟩ n
theorem StOk.list{a:Ad}{b:Bool}(S:StOk K ad H st)(h:LA ad H i a)(e:st[i]?=some (b,ds)):∃ xs,Dens K ad H xs ds/\SqL K H a xs:=by
 obtain⟨f,d,c⟩:=S.cell i _ e;rw[h.1]at d;cases d
 exact c.sq h.2
theorem StOk.listM{a:Ad}(S:StOk K ad H st)(h:LA ad H i a)(e:st[i]?=some (true,ds)):∃ xs,Dens K ad H xs ds/\H a=some (.lst xs):=by
 obtain⟨f,b,c⟩:=S.cell i _ e;rw[h.1]at b;cases b
 cases c with
 |l _ r q=>
  obtain⟨_,q⟩|⟨q,_⟩:=q
  .exact⟨_,r,q⟩
  .cases q
 |d r _ q _=>exact absurd ⟨_,q,rfl⟩ h.2
 |o _ r _ q _=>exact absurd ⟨_,q,rfl⟩ h.2
theorem StOk.dict{a:Ad}{b:Bool}(S:StOk K ad H st)(h:ad[i]?=some a)(n:ZW H a)(e:st[i]?=some (b,ds))(f:Xj ds=false):∃ xs,(EntN K ad H xs ds/\(xs.map (·.1)).Nodup)/\H a=some (.dN (Z1 xs))/\b=true:=by
 obtain⟨j,g,c⟩:=S.cell i _ e;rw[h]at g;cases g
 cases c with
 |l z=>exact absurd n z
 |d r e q n=>exact⟨_,⟨r,n⟩,q,e⟩
 |o q _ _ _ _=>rw[show ds=_ from q]at f;cases f
theorem StOk.obj{a:Ad}{b:Bool}{c:Int}(S:StOk K ad H st)(h:ad[i]?=some a)(n:ZW H a)(e:st[i]?=some (b,.int c :: es)):∃ (j:Nat) (dx:Ad) (kvs:Li (Str×V)),c=(j:Int)/\Ents K ad H kvs es/\H a=some (.ins (ClsTab.ca j) dx kvs)/\b=true/\ObC K (ClsTab.ca j)/\∀ k,fldNames.contains k=false->kvs.lookup k=none:=by
 obtain⟨g,f,c⟩:=S.cell i _ e;rw[h]at f;cases f
 cases c with
 |l z=>exact absurd n z
 |d r e q _=>have:=r.dict;cases this
 |o q r e h oc=>cases q;exact⟨_,_,_,rfl,r,h,e,oc⟩
theorem U6{a:Ad}(b:¬ZW H p)(c:isM o=false):ZW H a↔ZW (upd H p o) a:=by
 by_cases z:a=p
 .subst z
  exact⟨λq=>absurd q b,λq=>absurd q (Vp upd_same c)⟩
 .unfold ZW
  rw[upd_ne z]
theorem Qv(a:H p=none):¬ZW H p:=λ⟨_,z,_⟩=>by rw[a]at z;cases z
theorem Ext.laid(a:H p=none)(c:isM o=false:=by rfl):Ext ad H ad (upd H p o):=
 ⟨λ_ _ h=>h,λb xs h=>by rw[upd_ne (ne_of_none h a)];exact h,λb o h _=>by rw[upd_ne (ne_of_none h a)];exact h,λ_ h=>.inl h,λ_ _ _=>U6 (Qv a) c⟩
theorem CellOk.laid{a:Ad}{c:Z8}(g:ad[i]?=some a)(f:H p=none)(x:Ext ad H ad' (upd H p o))(h:CellOk K ad H a c):CellOk K ad' (upd H p o) a c:=by
 cases h with
 |l n r h=>
  refine .l (λz=>n ((x.kd i a g).mpr z)) (r.mono x) ?_
  rcases h with⟨b,e⟩|⟨b,⟨o,e⟩|e⟩
  .exact .inl ⟨b,by rw[upd_ne (ne_of_none e f)];exact e⟩
  .exact .inr ⟨b,.inl ⟨o,by rw[upd_ne (ne_of_none e f)];exact e⟩⟩
  .exact .inr ⟨b,.inr e⟩
 |d r e h n=>exact .d (r.mono x) e (by rw[upd_ne (ne_of_none h f)];exact h) n
 |o q r e h oc=>exact .o q (r.mono x) e (by rw[upd_ne (ne_of_none h f)];exact h) oc
theorem StOk.laid(S:StOk K ad H st)(b:H p=none)(d:isM o=false:=by rfl):StOk K ad (upd H p o) st:=
 ⟨S.len,S.nd,λi c e=>let ⟨a,h,q⟩:=S.cell i c e;⟨a,h,q.laid h b (Ext.laid b d)⟩⟩
theorem Ext.laidN(c:H p=none)(d:p∉ad):Ext ad H ad (upd H p o):=
 ⟨λ_ _ h=>h,λb xs h=>by rw[upd_ne (ne_of_none h c)];exact h,λb o h _=>by rw[upd_ne (ne_of_none h c)];exact h,λ_ h=>.inl h,λi a h=>by
  unfold ZW;rw[upd_ne (show a≠p from λz=>d (z ▸ aZ h))]⟩
theorem StOk.laidN(S:StOk K ad H st)(b:H p=none)(d:p∉ad):StOk K ad (upd H p o) st:=
 ⟨S.len,S.nd,λi c e=>let ⟨a,h,q⟩:=S.cell i c e;⟨a,h,q.laid h b (Ext.laidN b d)⟩⟩
theorem XA{l:Li α}{x y:α}(h:(l++[x])[i]?=some y):l[i]?=some y\/(i=l.length/\y=x):=by
 by_cases a:i < l.length
 .rw[bU a]at h
  exact .inl h
 .rw[bX (by omega)]at h
  have:i - l.length=0:=by
   cases e:i - l.length with
   |zero=>rfl
   |succ k=>rw[e]at h;simp at h
  rw[this]at h;simp at h;exact .inr ⟨by omega,h.symm⟩
theorem Y3{l:Li α}{x y:α}(h:l[i]?=some y):(l++[x])[i]?=some y:=by
 rw[bU (bB.mp h).1];exact h
theorem ZB{l:Li α}{x:α}:(l++[x])[l.length]?=some x:=by simp
theorem Ext.pushG(c:H p=none)(d:∀ (i:Nat) (a:Ad),ad[i]?=some a->(ZW H a↔ZW (upd H p o) a)):Ext ad H (ad++[p]) (upd H p o):=
 ⟨λ_ _ h=>Y3 h,λb xs h=>by rw[upd_ne (ne_of_none h c)];exact h,λb o h _=>by rw[upd_ne (ne_of_none h c)];exact h,λb h=>(aU.mp h).elim .inl λz=>.inr (by rw[aJ.mp z];exact c),d⟩
theorem Ext.push{xs:Li V}(a:H p=none):Ext ad H (ad++[p]) (upd H p (.lst xs)):=Ext.pushG a λ_ _ _=>U6 (Qv a) rfl
theorem StOk.more(S:StOk K ad H st)(o:∀ (i:Nat) (c:Li D),ad[i]?=some p->st[i]?=some (true,c)->False)(u:∀ (i:Nat) (c:Z8) (a:Ad),ad[i]?=some a->CellOk K ad H a c->CellOk K (ad++[p]) H' a c)(t:CellOk K (ad++[p]) H' p (true,ds)):StOk K (ad++[p]) H' (st++[(true,ds)]):=by
 have b:∀ (i:Nat) (c:Li D) (a:Ad),(ad++[p])[i]?=some a->st[i]?=some (true,c)->ad[i]?=some a:=λi c a h e=>by
  obtain⟨z,k,_⟩:=S.cell i _ e;have n:=Y3 (x:=p) k;rw[h]at n;cases n;exact k
 refine⟨by rw[aK,aK,S.len];rfl,λi j a c d m l g f=>?_,λi c e=>?_⟩
 .rcases XA g with g|⟨v,_⟩
  .rcases XA f with f|⟨r,_⟩
   .exact S.nd i j a c d (b i c a m g) (b j d a l f) g f
   .have k:=b i c a m g
    rw[r,<-S.len,ZB]at l;cases l;exact(o i c k g).elim
  .rcases XA f with f|⟨r,_⟩
   .have s:=b j d a l f
    rw[v,<-S.len,ZB]at m;cases m;exact(o j d s f).elim
   .omega
 .rcases XA e with e|⟨y,w⟩
  .obtain⟨a,h,q⟩:=S.cell i c e
   exact⟨a,Y3 h,u i c a h q⟩
  .subst w
   exact⟨p,by rw[y,<-S.len];exact ZB,t⟩
theorem StOk.noNew(S:StOk K ad H st)(a:H p=none)(i:Nat)(c:Li D)(h:ad[i]?=some p)(e:st[i]?=some (true,c)):False:=by
 obtain⟨f,b,q⟩:=S.cell i _ e;rw[h]at b;cases b
 cases q with
 |l _ _ q=>
  obtain⟨_,q⟩|⟨q,_⟩:=q
  .rw[a]at q;cases q
  .cases q
 |d _ _ q _=>rw[a]at q;cases q
 |o _ _ _ q _=>rw[a]at q;cases q
theorem StOk.push{xs:Li V}(S:StOk K ad H st)(a:H p=none)(r:Dens K ad H xs ds):StOk K (ad++[p]) (upd H p (.lst xs)) (st++[(true,ds)]):=
 S.more (S.noNew a) (λ_ _ _ h q=>q.laid h a (Ext.push a)) (.l (Vp upd_same rfl) (r.mono (Ext.push a)) (.inl ⟨rfl,upd_same⟩))
theorem StOk.wrG(S:StOk K ad H st)(g:Keeps K ad ad H (upd H p o))(j:p∉ad):StOk K ad (upd H p o) st:=
 ⟨S.len,S.nd,λi c e=>by
  obtain⟨a,h,q⟩:=S.cell i c e;have f:a≠p:=λz=>j (by rw[<-z];exact aZ h)
  refine⟨a,h,?_⟩;cases q with
  |l n r q=>
   refine .l (λz=>n ((g.l h).2.mpr z)) (r.map g) ?_
   rcases q with⟨b,q⟩|⟨b,⟨o,q⟩|q⟩
   .exact .inl ⟨b,by rw[upd_ne f];exact q⟩
   .exact .inr ⟨b,.inl ⟨o,by rw[upd_ne f];exact q⟩⟩
   .exact .inr ⟨b,.inr q⟩
  |d r t q n=>exact .d (r.map g) t (by rw[upd_ne f];exact q) n
  |o z r t q oc=>exact .o z (r.map g) t (by rw[upd_ne f];exact q) oc⟩
theorem StOk.has{a:Ad}(S:StOk K ad H st)(b:ad[i]?=some a):(∃ o,H a=some o)\/∃ o,K.lookup a=some o:=by
 obtain⟨g,c,q⟩:=S.cell i _ (lG7 (show i < st.length by rw[<-S.len];exact(bB.mp b).1))
 rw[b]at c;cases c
 cases q with
 |l _ _ q=>
  obtain⟨_,q⟩|⟨_,⟨o,q⟩|⟨o,its,m,⟨e,f⟩,_⟩⟩:=q
  .exact .inl ⟨_,q⟩
  .exact .inl ⟨_,q⟩
  .exact .inr ⟨_,e⟩
 |d _ _ q _=>exact .inl ⟨_,q⟩
 |o _ _ _ q _=>exact .inl ⟨_,q⟩
theorem StOk.extD{o:HO}(S:StOk K ad H st)(b:H p=none)(c:∀ o,K.lookup p≠some o):Ext ad H (ad++[p]) (upd H p o):=
 Ext.pushG b λi a h=>by
  have n:a≠p:=λz=>(S.has h).elim (λ⟨o,q⟩=>by rw[z,b]at q;cases q) λ⟨o,q⟩=>c o (z ▸ q)
  unfold ZW;rw[upd_ne n]
theorem StOk.pushD(S:StOk K ad H st)(a:H p=none)(b:∀ o,K.lookup p≠some o):StOk K (ad++[p]) (upd H p (.dN (Z1 []))) (st++[(true,[])]):=
 S.more (S.noNew a) (λ_ _ _ h q=>q.laid h a (S.extD a b)) (.d .nil rfl upd_same bH)
theorem StOk.pushO{c:Ad}(S:StOk K ad H st)(a:H p=none)(b:∀ o,K.lookup p≠some o)(oc:ObC K (ClsTab.ca i)):StOk K (ad++[p]) (upd H p (.ins (ClsTab.ca i) c [])) (st++[(true,[.int (i:Int)])]):=
 S.more (S.noNew a) (λ_ _ _ h q=>q.laid h a (S.extD a b)) (.o rfl .nil rfl upd_same ⟨oc,λ_ _=>rfl⟩)
theorem StOk.adopt{xs:Li V}(S:StOk K ad H st)(c:H p=some (.lst xs))(f:p∉ad)(r:Dens K ad H xs ds):StOk K (ad++[p]) H (st++[(true,ds)]):=by
 have a:Keeps K ad (ad++[p]) H H:=Zez (λ_ _ h=>Y3 h) (λb g=>(aU.mp g).imp id λz=>⟨xs,by rw[aJ.mp z];exact c⟩)
 exact S.more (λi _ h _=>f (aZ h)) (λ_ _ _ _ q=>by
  cases q with
  |l n r h=>exact .l n (r.map a) h
  |d r e h n=>exact .d (r.map a) e h n
  |o q r e h oc=>exact .o q (r.map a) e h oc) (.l (Vp c rfl) (r.map a) (.inl ⟨rfl,c⟩))
theorem Ext.writeG{a:Ad}(h:H a=some o)(d:a∈ad)(f:∀ xs,o≠.tup xs)(c:ZW H a↔ZW (upd H a o') a):Ext ad H ad (upd H a o'):=
 ⟨λ_ _ h=>h,λb g e=>by rw[upd_ne (ne_of e h (λz=>f _ z.symm))];exact e,λb o e n=>by rw[upd_ne (show b≠a from λz=>n (by rw[z];exact d))];exact e,λ_ h=>.inl h,λ_ b _=>by
  by_cases z:b=a
  .rw[z];exact c
  .unfold ZW;rw[upd_ne z]⟩
theorem Ext.write{a:Ad}{xs:Li V}(h:H a=some (.lst xs))(b:a∈ad):Ext ad H ad (upd H a (.lst ys)):=
 Ext.writeG h b (λ_ z=>nomatch z) ⟨λz=>absurd z (Vp h rfl),λz=>absurd z (Vp upd_same rfl)⟩
theorem StOk.writeG{a:Ad}(S:StOk K ad H st)(h:ad[i]?=some a)(e:st[i]?=some (true,ds))(y:H a=some o)(B:∀ q u,o≠.frz q u)(x:Ext ad H ad (upd H a o'))(r:CellOk K ad (upd H a o') a (true,es)) :
  StOk K ad (upd H a o') (st.set i (true,es)):=by
 have A:i < st.length:=(bB.mp e).1;refine⟨by rw[bF];exact S.len,λj k b c d E C s p=>?_,λj c q=>?_⟩
 .have up:∀ (j:Nat) (c:Li D),(st.set i (true,es))[j]?=some (true,c)->∃ v,st[j]?=some (true,v):=λj c q=>by
   by_cases z:i=j
   .subst z;exact⟨_,e⟩
   .rw[bK z]at q;exact⟨_,q⟩
  obtain⟨v,s⟩:=up j c s;obtain⟨F,p⟩:=up k d p;exact S.nd j k b v F E C s p
 .by_cases z:i=j
  .subst z
   rw[cG A]at q;cases q;exact⟨a,h,r⟩
  .rw[bK z]at q
   obtain⟨b,m,hz⟩:=S.cell j c q;refine⟨b,m,?_⟩;have g:c.1=true->b≠a:=λt w=>by
    obtain⟨I,G⟩:=c;cases (show I=true from t)
    exact z (S.nd i j a ds G h (w ▸ m) e q)
   cases hz with
   |l n f hz=>
    refine .l (λz=>n ((x.kd j b m).mpr z)) (f.mono x) ?_
    rcases hz with⟨t,hz⟩|⟨t,⟨o,hz⟩|hz⟩
    .exact .inl ⟨t,by rw[upd_ne (g t)];exact hz⟩
    .exact .inr ⟨t,.inl ⟨o,by rw[upd_ne (ne_of hz y (λz=>B _ _ z.symm))];exact hz⟩⟩
    .exact .inr ⟨t,.inr hz⟩
   |d f t hz n=>exact .d (f.mono x) t (by rw[upd_ne (g t)];exact hz) n
   |o z f t hz oc=>exact .o z (f.mono x) t (by rw[upd_ne (g t)];exact hz) oc
theorem StOk.write{a:Ad}{xs:Li V}(S:StOk K ad H st)(h:LA ad H i a)(e:st[i]?=some (true,ds))(b:H a=some (.lst xs))(r:Dens K ad H ys es) :
  StOk K ad (upd H a (.lst ys)) (st.set i (true,es)):=
 S.writeG h.1 e b (λ_ _ z=>nomatch z) (Ext.write b (aZ h.1)) (.l (Vp upd_same rfl) (r.mono (Ext.write b (aZ h.1))) (.inl ⟨rfl,upd_same⟩))
theorem Ext.writeM{a:Ad}(h:H a=some o)(m:isM o=true)(b:isM o'=true)(c:a∈ad):Ext ad H ad (upd H a o'):=
 Ext.writeG h c (λ_ z=>by rw[z]at m;cases m) ⟨λ_=>⟨_,upd_same,b⟩,λ_=>⟨_,h,m⟩⟩
theorem StOk.writeD{a:Ad}{ys:Li (D×Ad×Ot Ad)}(S:StOk K ad H st)(h:ad[i]?=some a)(e:st[i]?=some (true,ds))(b:H a=some (.dN (Z1 xs)))(r:EntN K ad H ys es)(n:(ys.map (·.1)).Nodup) :
  StOk K ad (upd H a (.dN (Z1 ys))) (st.set i (true,es)):=
 S.writeG h e b (λ_ _ z=>nomatch z) (Ext.writeM b rfl rfl (aZ h)) (.d (r.mono (Ext.writeM b rfl rfl (aZ h))) rfl upd_same n)
theorem StOk.writeO{a d:Ad}{b:Li (Str×V)}(S:StOk K ad H st)(h:ad[i]?=some a)(e:st[i]?=some (true,ds))(c:H a=some (.ins (ClsTab.ca j) d kvs))(oc:ObC K (ClsTab.ca j))(r:Ents K ad H b es)(f:∀ k,fldNames.contains k=false->b.lookup k=none) :
  StOk K ad (upd H a (.ins (ClsTab.ca j) d b)) (st.set i (true,.int (j:Int) :: es)):=
 S.writeG h e c (λ_ _ z=>nomatch z) (Ext.writeM c rfl rfl (aZ h)) (.o rfl (r.mono (Ext.writeM c rfl rfl (aZ h))) rfl upd_same ⟨oc,f⟩)
structure EnvOk(K:fG7)(ad:List Addr)(H:Hp)(O:L2.St)(U:Env):Prop where
 len:O.length=U.length
 at_:∀ (i:Nat) (d:D),U[i]?=some (some d)->∃ v,O[i]?=some (some v)/\Den K ad H v d
theorem EnvOk.mono(x:Ext ad H ad' H')(h:EnvOk K ad H O U):EnvOk K ad' H' O U:=⟨h.len,λi d e=>let ⟨v,e1,e2⟩:=h.at_ i d e;⟨v,e1,e2.mono x⟩⟩
theorem EnvOk.set{v:V}(h:EnvOk K ad H O U)(i:Nat)(r:Den K ad H v d):EnvOk K ad H (O.set i (some v)) (Zg U i d):=by
 refine⟨by unfold Zg;rw[bF,bF];exact h.len,λj e q=>?_⟩
 unfold Zg at q;by_cases z:i=j
 .subst z
  by_cases a:i < U.length
  .rw[cG a]at q
   cases q;exact⟨v,by rw[cG (by rw[h.len];exact a)],r⟩
  .rw[List.getElem?_eq_none (by rw[bF];omega)]at q
   cases q
 .rw[bK z]at q
  obtain⟨w,c,b⟩:=h.at_ j e q;exact⟨w,by rw[bK z];exact c,b⟩
def Post(K:fG7)(ad:Li Ad)(H:Hp)(d:D)(a:Za)(Q:VK):Prop:=∀ v ad' H',Ext ad H ad' H'->StOk K ad' H' a->Den K ad' H' v d->Q v H'
def tE(K:fG7)(f:Env->Za->Res):TE:=λO H Q=>∃ ad U st d a,EnvOk K ad H O U/\StOk K ad H st/\f U st=some (d,a)/\Post K ad H d a Q
def tT(K:fG7)(f:Env->Za->Res):TT:=λO H Q=>∃ ad U st k a,EnvOk K ad H O U/\StOk K ad H st/\f U st=some (.bl k,a)/\∀ ad' H',Ext ad H ad' H'->StOk K ad' H' a->Q k H'
def tA(K:fG7)(f:Env->Za->Res):TA:=λO H Q=>∃ ad U st ds a,EnvOk K ad H O U/\StOk K ad H st/\f U st=some (.tup ds,a)/\∀ vs ad' H',Ext ad H ad' H'->StOk K ad' H' a->Dens K ad' H' vs ds->Q vs H'
def rD(K:fG7)(f:D->D->Za->Res):R2:=λx y H Q=>∃ ad st c b d a,StOk K ad H st/\Den K ad H x c/\Den K ad H y b/\f c b st=some (d,a)/\Post K ad H d a Q
noncomputable def spD(K:fG7)(g:Fn):Sp:=λvs H Q _=>∃ ad ds st d a,StOk K ad H st/\Dens K ad H vs ds/\g ds st=some (d,a)/\Post K ad H d a Q
def tS(K:fG7)(f:Env->Za->Ot (Fl×Za)):TS:=λD O H=>∃ ad U st r a,EnvOk K ad H O U/\StOk K ad H st/\f U st=some (r,a) /\
 match r with
 |.nx U'=>∀ b ad' H',Ext ad H ad' H'->StOk K ad' H' a->EnvOk K ad' H' b U'->D.nx b H'
 |.bk U'=>∀ b ad' H',Ext ad H ad' H'->StOk K ad' H' a->EnvOk K ad' H' b U'->D.bk b H'
 |.ct U'=>∀ b ad' H',Ext ad H ad' H'->StOk K ad' H' a->EnvOk K ad' H' b U'->D.ct b H'
 |.rt d=>Post K ad H d a D.rt
variable{Q:VK}
theorem Post.at(p:Post K ad H d st Q)(S:StOk K ad H st){v:V}(h:Den K ad H v d):Q v H:=p v ad H (Ext.refl _ _) S h
theorem Post.later(p:Post K ad H d st Q)(x:Ext ad H ad' H'):Post K ad' H' d st Q:=λv a b y S h=>p v a b (x.trans y) S h
variable [ClsTab]
variable{n:Nat}{k:D}{bb:Bool}
variable{X:Cx}{pQ:Li (Ad×Obj)}{O:L2.St}{s:sH7}
inductive OkW:Nat->D->Prop where
 |int (n:Nat) (i:Int):OkW n (.int i)
 |str (n:Nat) (x:Str):OkW n (.str x)
 |tup {n:Nat}{ds:List D} (h:ds.all (okN n)=true):OkW (n+1) (.tup ds)
theorem okW(h:okN n d=true):OkW n d:=by
 cases d with
 |int i=>exact .int n i
 |str i=>exact .str n i
 |tup ds=>cases n with
  |zero=>exact nomatch h
  |succ n=>exact .tup h
 |_=>cases n<;>exact nomatch h
theorem Qj(I:L2.Inv X pQ O H s):∀ {n:Nat}{d:D}{v:V}{u:vL},okN n d=true->Den X.K ad H v d->RelV v u->IsV s.heap n d u:=by
 intro n
 induction n using Nat.strongRecOn with
 |_ n k=>
  intro d v u ok h r;cases okW ok with
  |int _ i=>cases h;cases n<;>exact r
  |str _ i=>cases h;cases n<;>exact r
  |@tup n ds ok=>
   obtain⟨a,xs,rfl,e,j⟩:=h.ofTup;cases r;obtain⟨its,g,p,_⟩:=I.tuple e.sq;refine⟨a,_,rfl,p,?_⟩;have go:∀ {ds:Li D}{xs:Li V}{c:Li vL},ds.all (okN n)=true->Dens X.K ad H xs ds->Vals xs c->Paired (IsV s.heap n) ds c:=by
    intro ds
    induction ds with
    |nil=>intro xs c _ a b;cases a;cases b;exact .nil
    |cons d ds f=>
     intro xs c o a b;rw[bA,bA7]at o;cases a with
     |cons t q=>cases b with
      |cons m l=>exact .cons (k n (bS n) o.1 t m) (f o.2 q l)
   exact go ok j g
noncomputable def toE(x:D×Ad×Ot Ad):D×Ad×vL:=(x.1,x.2.1,toW x.2.2)
theorem Wj{xs:Li (D×Ad×Ot Ad)}:((∀ x∈xs,x.1≠k)->atKey (xs.map toE) k=none)/\((xs.map (·.1)).Nodup->∀ x∈xs,x.1=k->atKey (xs.map toE) k=some (x.2.1,toW x.2.2)):=by
 induction xs with
 |nil=>exact⟨λ_=>rfl,λ_ x hx=>(nomatch hx)⟩
 |cons y xs a=>
  have e:atKey ((y :: xs).map toE) k=if y.1=k then some (y.2.1,toW y.2.2) else atKey (xs.map toE) k:=by
   rw[aM];unfold atKey;rw[cK];by_cases h:y.1=k
   .rw[if_pos h,show decide ((toE y).1=k)=true from aG h];rfl
   .rw[if_neg h,show decide ((toE y).1=k)=false from aF h]
  rw[e];by_cases h:y.1=k
  .rw[if_pos h]
   refine⟨λq=>absurd h (q y lQ7),λn x hx q=>?_⟩
   rw[aM,bM]at n;rcases aH.mp hx with rfl|hx
   .rfl
   .exact absurd (aR.mpr ⟨x,hx,q.trans h.symm⟩) n.1
  .rw[if_neg h]
   refine⟨λq=>a.1 λx hx=>q x (lM7 _ hx),λn x hx q=>?_⟩
   rw[aM,bM]at n;rcases aH.mp hx with rfl|hx
   .exact absurd q h
   .exact a.2 n.2 x hx q
theorem DictE.oh{prog:Program}{w:World}{a:HeapKind prog w D}{h:Heap}{d:Ad}{xs:Li (D×Ad×vL)}(x:DictE a h d xs):h.DictOfH a d xs:=let ⟨o,es,ho,hc,hdat,r⟩:=x;⟨o,es,_,ho,hc,hdat,r⟩
structure DNk(K:fG7)(ad:List Addr)(H:Hp)(p b:Addr)(xs:List (D×Addr×Option Addr))(k:D):Prop where
 h:H p=some (.dN (Z1 xs))
 n:(xs.map (·.1)).Nodup
 dk:Den K ad H (.ref b) k
 ok:okN 8 k=true
 a:∀ x∈xs,Den K ad H (.ref x.2.1) x.1/\okN 8 x.1=true
theorem DNk.of(I:L2.Inv X pQ O H s){b:Ad}(d:DNk X.K ad H p b xs k):(p==sysModules)=false/\DictE (ZdD X.prog X.w) s.heap p (xs.map toE)/\(ZdD X.prog X.w).is s.heap k b:=by
 obtain⟨j,o,es,g,l,c,i⟩:=(show ObjOk X.prog X.w H s.heap p (.dN (Z1 xs)) from I.hok p _ d.h);exact⟨j,⟨o,es,g,l,c,by rw[i,bQ];rfl,λx f=>by
  obtain⟨y,e,rfl⟩:=aR.mp f;exact Qj I (d.a y e).2 (d.a y e).1 rfl,by rw[bQ];exact d.n⟩,Qj I d.ok d.dk rfl⟩
def ZdJ(K:fG7):V->V->V->Hp->(Hp->Prop)->Prop:=λo i v H Q=>∃ p b a xs k ad,(o=.ref p/\i=.ref b/\v=toV a)/\DNk K ad H p b xs k/\xs.length < sizeLine/\(((∀ x∈xs,x.1≠k)/\Q (upd H p (.dN (Z1 (xs++[(k,b,a)])))))\/((∃ z∈xs,z.1=k/\z.2.2=a)/\Q (upd H p (.dN (Z1 xs)))))
theorem Zbc(hu:X.A.units+16 < cLine):PSet X (ZdJ X.K):=by
 intro pQ s O H o i v J L u Q I y B x h;obtain⟨p,b,w,xs,k,ad,⟨rfl,rfl,rfl⟩,d,l,D⟩:=h;cases y;cases B;cases Zc9 x
 obtain⟨m,t,r⟩:=d.of I;rcases D with⟨E,q⟩|⟨⟨z,C,G,ev⟩,q⟩
 .refine Zba (show X.A.units+1+8 < cLine by omega) r t (by rw[aE];omega) (Wj.1 E) λF c f=>?_
  obtain⟨o',es,e,j,a,g,_,_⟩:=c;refine⟨upd H p (.dN (Z1 (xs++[(k,b,w)]))),d_write I (by rw[d.h];exact True.intro) f ⟨o',e⟩ ⟨m,o',es,e,j,a,?_⟩,q⟩
  rw[g];unfold Z1;rw[bN,bN,bQ];rfl
 .refine Zbb (show X.A.units+1+8 < cLine by omega) r t (by rw[<-ev];exact Wj.2 d.n z C G) λF c f=>?_
  obtain⟨o',es,e,j,a,g,_,_⟩:=c;refine⟨upd H p (.dN (Z1 xs)),d_write I (by rw[d.h];exact True.intro) f ⟨o',e⟩ ⟨m,o',es,e,j,a,?_⟩,q⟩
  rw[g];unfold Z1;rw[bQ];rfl
def ZhZ(K:fG7):R2:=λx y H Q=>∃ p b xs k ad z,(x=.ref p/\y=.ref b)/\DNk K ad H p b xs k/\z∈xs/\z.1=k/\Q (toV z.2.2) H
theorem Zgt(hu:X.A.units+16 < cLine):IxR X (ZhZ X.K):=by
 intro a slice pQ s O H x y v u Q I f e h i;obtain⟨p,b,xs,k,ad,z,⟨rfl,rfl⟩,d,g,j,q⟩:=h;cases f;cases e;obtain⟨m,c,l⟩:=d.of I;refine tail_any c.typeIs PySem.F.slot_dict_getitem.lookup (wpAny_getItem_heap (show X.A.units+1+8 < cLine by omega) l c.oh (Wj.2 d.n z g j) ?_) i
 exact⟨toV z.2.2,H,I.tok _,ZaZ,q⟩
theorem Zdx(hu:X.A.units+16 < cLine){b:Ad}{xs:Li (D×Ad×Ot Ad)}(I:Inv X pQ O H s)(d:DNk X.K ad H p b xs k)(c:if bb then ∃ x∈xs,x.1=k else ∀ x∈xs,x.1≠k) :
  (Q (.bl bb) H->wpAny (model X.prog X.w) X.A (compareOp .In (.ref b) (.ref p)) (EP X pQ O Q) X.xe s)/\(Q (.bl (!bb)) H->wpAny (model X.prog X.w) X.A (compareOp .NotIn (.ref b) (.ref p)) (EP X pQ O Q) X.xe s):=by
 obtain⟨a,g,f⟩:=d.of I;have e:(atKey (xs.map toE) k).isSome=bb:=by
  cases bb with
  |true=>obtain⟨x,h,ex⟩:=c;rw[Wj.2 d.n x h ex];rfl
  |false=>rw[Wj.1 c];rfl
 rw[<-e];exact⟨λq=>wpAny_in_heap (show X.A.units+1+8 < cLine by omega) f a g.oh ⟨.bl _,H,I.tok _,rfl,q⟩,λq=>wpAny_notIn_heap (show X.A.units+1+8 < cLine by omega) f a g.oh ⟨.bl _,H,I.tok _,rfl,q⟩⟩
theorem VF:CallR X (.builtin "len") (λxs H Q=>∃ a ys,xs=[.ref a]/\H a=some (.dN (Z1 ys))/\ys.length<=sizeLine/\Q (.int ys.length) H):=by
 intro pQ s O H xs k Q I r h;obtain⟨a,ys,rfl,e,l,q⟩:=h;obtain⟨u,rfl,c⟩:=vals1 r;cases c;have m:=line63;obtain⟨i,o,es,f,j,b,g⟩:=(show ObjOk X.prog X.w H s.heap a (.dN (Z1 ys)) from I.hok a _ e);have d:es.size=ys.length:=by rw[<-cX,g];unfold Z1;rw[aE]
 exact Zcg i ⟨o,f,j,b⟩ (by omega) ⟨.int ys.length,H,I.tok _,⟨s.toks+1,by rw[d]⟩,q⟩
variable [ClsTab]
variable{x:D}{st':Za}
section
variable{a b c:Expr}{fa fb fc:Ev}{pos:Pos}
theorem Qn(O:L2.St)(H:Hp)(Q:VK)(h:tE K (YE i) O H Q):tVar i O H Q:=by
 obtain⟨ad,U,st,d,st',E,S,e,p⟩:=h;unfold YE at e;split at e
 .rename_i q
  obtain⟨v,b,a⟩:=E.at_ i _ q;cases e;exact⟨v,b,p.at S a⟩
 .exact Zb e
theorem VU{v:V}(hd:∀ ad H,Den K ad H v d)(O:L2.St)(H:Hp)(Q:VK)(h:tE K (evC d) O H Q):tC v O H Q:=by
 obtain⟨ad,U,st,a,st',E,S,e,p⟩:=h;cases e;exact p.at S (hd _ _)
theorem Vc{g:D->D->Za->Res}(O:L2.St)(H:Hp)(Q:VK)(h:tE K (Zz fa fb g) O H Q):tOp (rD K g) (tE K fa) (tE K fb) O H Q:=by
 obtain⟨ad,U,st,d,st',E,S,e,p⟩:=h;unfold Zz at e;split at e
 .rename_i x b l
  split at e
  .rename_i y a k
   refine⟨ad,U,st,x,b,E,S,l,λs f u j q n=>⟨f,U,b,y,a,E.mono j,q,k,λr c t i o m=>?_⟩⟩
   exact⟨c,a,x,y,d,st',o,n.mono i,m,e,p.later (j.trans i)⟩
  .exact Zb e
 .exact Zb e
def rU1(K:fG7)(g:D->Za->Res):V->Hp->VK->Prop:=λx H Q=>∃ ad st a d st',StOk K ad H st/\Den K ad H x a/\g a st=some (d,st')/\Post K ad H d st' Q
theorem Zet{g:D->Za->Res}(O:L2.St)(H:Hp)(Q:VK)(h:tE K (Zn fa g) O H Q):tUn (rU1 K g) (tE K fa) O H Q:=by
 obtain⟨ad,U,st,d,st',E,S,e,p⟩:=h;unfold Zn at e;split at e
 .rename_i x a f
  exact⟨ad,U,st,x,a,E,S,f,λk b l c j i=>⟨b,a,x,d,st',j,i,e,p.later c⟩⟩
 .exact Zb e
theorem Zam(O:L2.St)(H:Hp)(Q:Bool->Hp->Prop)(h:tT K fa O H Q):tE K fa O H λx d=>∃ c,x=.bl c/\Q c d:=by
 obtain⟨ad,U,st,k,st',E,S,e,p⟩:=h;exact⟨ad,U,st,.bl k,st',E,S,e,λv ad' H' x b a=>⟨k,a.ofBl,p ad' H' x b⟩⟩
theorem Z4{b c:Ev}{r:D×Za}(h:Z0 fc b c U st=some r):∃ k a,fc U st=some (.bl k,a)/\(if k=true then b U a else c U a)=some r:=by
 unfold Z0 at h;split at h
 .rename_i a q
  exact⟨true,a,q,by rw[if_pos rfl];exact h⟩
 .rename_i a q
  exact⟨false,a,q,by rw[if_neg bF7];exact h⟩
 .exact Zb h
theorem Zes(O:L2.St)(H:Hp)(Q:VK)(h:tE K (Z0 fc fa fb) O H Q):tIf (tT K fc) (tE K fa) (tE K fb) O H Q:=by
 obtain⟨ad,U,st,d,st',E,S,e,p⟩:=h;obtain⟨k,a,q,e⟩:=Z4 e;refine⟨ad,U,st,k,a,E,S,q,λb g c f=>?_⟩
 cases k with
 |true=>
  rw[if_pos rfl]at e ⊢;exact⟨b,U,a,d,st',E.mono c,f,e,p.later c⟩
 |false=>
  rw[if_neg bF7]at e ⊢;exact⟨b,U,a,d,st',E.mono c,f,e,p.later c⟩
theorem J2(O:L2.St)(H:Hp)(Q:VK)(h:tE K (Z0 fa fb (evC (.bl false))) O H Q):tAndV (tE K fa) (tE K fb) O H Q:=by
 obtain⟨ad,U,st,d,st',E,S,e,p⟩:=h;obtain⟨k,a,q,e⟩:=Z4 e;refine⟨ad,U,st,.bl k,a,E,S,q,λi c j b f g=>⟨k,g.ofBl,?_⟩⟩
 cases k with
 |true=>
  rw[if_pos rfl]at e ⊢;exact⟨c,U,a,d,st',E.mono b,f,e,p.later b⟩
 |false=>
  rw[if_neg bF7]at e ⊢;cases e;exact(p.later b).at f (.bl false)
theorem Zb3(O:L2.St)(H:Hp)(Q:VK)(h:tE K (Z0 fa (evC (.bl true)) fb) O H Q):tOrV (tE K fa) (tE K fb) O H Q:=by
 obtain⟨ad,U,st,d,st',E,S,e,p⟩:=h;obtain⟨k,a,q,e⟩:=Z4 e;refine⟨ad,U,st,.bl k,a,E,S,q,λi c j b f g=>⟨k,g.ofBl,?_⟩⟩
 cases k with
 |true=>
  rw[if_pos rfl]at e ⊢;cases e;exact(p.later b).at f (.bl true)
 |false=>
  rw[if_neg bF7]at e ⊢;exact⟨c,U,a,d,st',E.mono b,f,e,p.later b⟩
theorem J1(O:L2.St)(H:Hp)(Q:Bool->Hp->Prop)(h:tT K (Z0 fa fb (evC (.bl false))) O H Q):tAnd (tT K fa) (tT K fb) O H Q:=by
 obtain⟨ad,U,st,d,st',E,S,e,p⟩:=h;obtain⟨k,a,q,e⟩:=Z4 e;refine⟨ad,U,st,k,a,E,S,q,λb m c g=>?_⟩
 cases k with
 |true=>
  rw[if_pos rfl]at e ⊢;exact⟨b,U,a,d,st',E.mono c,g,e,λf l i j=>p f l (c.trans i) j⟩
 |false=>
  rw[if_neg bF7]at e ⊢;cases e;exact p b m c g
theorem Zb2(O:L2.St)(H:Hp)(Q:Bool->Hp->Prop)(h:tT K (Z0 fa (evC (.bl true)) fb) O H Q):tOr (tT K fa) (tT K fb) O H Q:=by
 obtain⟨ad,U,st,d,st',E,S,e,p⟩:=h;obtain⟨k,a,q,e⟩:=Z4 e;refine⟨ad,U,st,k,a,E,S,q,λb m c g=>?_⟩
 cases k with
 |true=>
  rw[if_pos rfl]at e ⊢;cases e;exact p b m c g
 |false=>
  rw[if_neg bF7]at e ⊢;exact⟨b,U,a,d,st',E.mono c,g,e,λf l i j=>p f l (c.trans i) j⟩
theorem Zai(O:L2.St)(H:Hp)(Q:Bool->Hp->Prop)(h:tT K (Zn fa Jb) O H Q):tNot (tT K fa) O H Q:=by
 obtain⟨ad,U,st,d,st',E,S,e,p⟩:=h;unfold Zn at e;split at e
 .rename_i x a f
  cases x with
  |bl k=>
   cases (show some (D.bl (!k),a)=_ from e)
   exact⟨ad,U,st,k,_,E,S,f,λb i c g=>p b i c g⟩
  |_=>simp[Jb]at e
 .exact Zb e
theorem Zaj(O:L2.St)(H:Hp)(Q:VK)(h:tE K (Zn fa Jb) O H Q):tNotV (tE K fa) O H Q:=by
 obtain⟨ad,U,st,d,st',E,S,e,p⟩:=h;unfold Zn at e;split at e
 .rename_i x a c
  cases x with
  |bl k=>
   cases (show some (D.bl (!k),a)=_ from e)
   exact⟨ad,U,st,.bl k,_,E,S,c,λj g l b i f=>⟨k,f.ofBl,(p.later b).at i (.bl _)⟩⟩
  |_=>simp[Jb]at e
 .exact Zb e
theorem VS(O:L2.St)(H:Hp)(Q:Li V->Hp->Prop)(h:tA K (evC (.tup [])) O H Q):tNil O H Q:=by
 obtain⟨ad,U,st,d,st',E,S,e,p⟩:=h;cases e;exact p [] ad H (Ext.refl _ _) S .nil
theorem Q4(O:L2.St)(H:Hp)(Q:Li V->Hp->Prop)(h:tA K (Zz fa fb Xv) O H Q):tCons (tE K fa) (tA K fb) O H Q:=by
 obtain⟨ad,U,st,d,st',E,S,e,p⟩:=h;unfold Zz at e;split at e
 .rename_i x a l
  split at e
  .rename_i y c k
   cases y with
   |tup b=>
    have e:(if b.length < 1000 then some (D.tup (x :: b),c) else none)=some (D.tup d,st'):=e
    split at e
    .cases e
     refine⟨ad,U,st,_,a,E,S,l,λt g u j q n=>⟨g,U,a,b,_,E.mono j,q,k,λs f r i o m=>?_⟩⟩
     exact p _ f r (j.trans i) o (.cons (n.mono i) m)
    .cases e
   |_=>simp[Xv]at e
  .cases e
 .cases e
theorem Zb7(i:∀ U st ds st',fa U st=some (.tup ds,st')->ds.length<=1000)(g:∀ U st d st',fa U st=some (d,st')->∃ ds,d=.tup ds)(O:L2.St)(H:Hp)(Q:VK)(h:tE K fa O H Q):tTup (tA K fa) O H Q:=by
 obtain⟨ad,U,st,d,st',E,S,e,p⟩:=h;obtain⟨ds,rfl⟩:=g _ _ _ _ e;refine⟨ad,U,st,ds,st',E,S,e,λvs b k f j c=>⟨?_,λq a=>?_⟩⟩
 .rw[c.length]
  exact aP (i _ _ _ _ e) (by decide)
 .exact p _ b _ (f.trans (Ext.laid a)) (j.laid a) (.tup (.inl upd_same) (c.mono (Ext.laid a)))
theorem Zb0(k:∀ U st ds st',fa U st=some (.tup ds,st')->ds.length<=1000)(O:L2.St)(H:Hp)(Q:VK)(h:tE K (Zn fa ZaD) O H Q):tLst (tA K fa) O H Q:=by
 obtain⟨ad,U,st,d,st',E,S,e,p⟩:=h;unfold Zn at e;split at e
 .rename_i x a c
  cases x with
  |tup ds=>
   cases (show some (D.lst a.length,a++[(true,ds)])=_ from e)
   refine⟨ad,U,st,ds,_,E,S,c,λvs b l j i g=>⟨?_,λq f=>?_⟩⟩
   .rw[g.length]
    exact aP (k _ _ _ _ c) (by decide)
   .refine p _ (b++[q]) _ (j.trans (Ext.push f)) (i.push f g) (.newL ?_)
    rw[<-i.len];exact ZB
  |_=>simp[ZaD]at e
 .exact Zb e
theorem VV{g:Fn}{a:Li V}{E:XK}(hd:∀ ad H,Dens K ad H a ds)(O:L2.St)(H:Hp)(Q:VK)(h:tE K (Zn fa (WS g ds)) O H Q):tCall (spD K g) a E (tA K fa) O H Q:=by
 obtain⟨ad,U,st,d,st',E,S,e,p⟩:=h;unfold Zn at e;split at e
 .rename_i x f i
  cases x with
  |tup xs=>exact⟨ad,U,st,xs,_,E,S,i,λvs b l c k j=>⟨b,xs++ds,_,d,st',k,j.append (hd _ _),e,p.later c⟩⟩
  |_=>simp[WS]at e
 .exact Zb e
def rC(K:fG7)(g:Li D->Za->Res):Li V->Hp->VK->Prop:=λvs H Q=>∃ ad st ds d st',StOk K ad H st/\Dens K ad H vs ds/\g ds st=some (d,st')/\Post K ad H d st' Q
noncomputable def on1(g:D->Za->Res):Li D->Za->Res
 |[x],st=>g x st
 |_,_=>none
noncomputable def on2(g:D->D->Za->Res):Li D->Za->Res
 |[x,y],st=>g x y st
 |_,_=>none
theorem Ws{g:D->Za->Res}(O:L2.St)(H:Hp)(Q:VK)(h:tE K (Zn fa g) O H Q):tCB (rC K (on1 g)) (tCons (tE K fa) tNil) O H Q:=by
 obtain⟨ad,U,st,d,st',E,S,e,p⟩:=h;unfold Zn at e;split at e
 .rename_i x a f
  exact⟨ad,U,st,x,a,E,S,f,λk b l c j i=>⟨b,a,[x],d,st',j,.cons i .nil,e,p.later c⟩⟩
 .exact Zb e
theorem VT{g:D->D->Za->Res}(O:L2.St)(H:Hp)(Q:VK)(h:tE K (Zz fa fb g) O H Q):tCB (rC K (on2 g)) (tCons (tE K fa) (tCons (tE K fb) tNil)) O H Q:=by
 obtain⟨ad,U,st,d,st',E,S,e,p⟩:=h;unfold Zz at e;split at e
 .rename_i x b l
  split at e
  .rename_i y a k
   refine⟨ad,U,st,x,b,E,S,l,λs f u j q n=>⟨f,U,b,y,a,E.mono j,q,k,λr c t i o m=>?_⟩⟩
   exact⟨c,a,[x,y],d,st',o,.cons (n.mono i) (.cons m .nil),e,p.later (j.trans i)⟩
  .exact Zb e
 .exact Zb e
def tO(K:fG7)(f:Ev):TO:=λO H Q=>∃ ad U st d st',EnvOk K ad H O U/\StOk K ad H st/\f U st=some (d,st') /\
 ((d=.non/\∀ ad' H',Ext ad H ad' H'->StOk K ad' H' st'->Q none H')\/∃ i,d=.int i/\∀ ad' H',Ext ad H ad' H'->StOk K ad' H' st'->Q (some i) H')
def rSl(K:fG7):V->Ot Int->Ot Int->Hp->VK->Prop:=λx b c H Q=>∃ ad st a d st',StOk K ad H st/\Den K ad H x a/\Z7 a b c st=some (d,st')/\Post K ad H d st' Q
noncomputable def part:D->Ot (Ot Int)
 |.non=>some none
 |.int i=>some (some i)
 |_=>none
theorem Vt{l h:D}{r:D×Za}(e:YO x l h st=some r):∃ a b,part l=some a/\part h=some b/\Z7 x a b st=some r:=by
 unfold YO at e;split at e
 .exact⟨_,_,rfl,rfl,e⟩
 .exact⟨_,_,rfl,rfl,e⟩
 .exact⟨_,_,rfl,rfl,e⟩
 .exact⟨_,_,rfl,rfl,e⟩
 .exact Zb e
theorem ZdN{f:Ev}{Q:Ot Int->Hp->Prop}{o:Ot Int}(E:EnvOk K ad H O U)(S:StOk K ad H st)(e:f U st=some (d,st'))(a:part d=some o)(q:∀ ad' H',Ext ad H ad' H'->StOk K ad' H' st'->Q o H'):tO K f O H Q:=by
 refine⟨ad,U,st,d,st',E,S,e,?_⟩;cases d with
 |non=>cases a;exact .inl ⟨rfl,q⟩
 |int i=>cases a;exact .inr ⟨i,rfl,q⟩
 |_=>exact Zb a
theorem Q6(O:L2.St)(H:Hp)(Q:VK)(h:tE K (XF fa fb fc YO) O H Q):tSl (rSl K) (tE K fa) (tO K fb) (tO K fc) O H Q:=by
 obtain⟨ad,U,st,d,st',E,S,e,p⟩:=h;unfold XF at e;split at e
 .rename_i x f m
  split at e
  .rename_i y j l
   split at e
   .rename_i z c k
    obtain⟨A,B,n,o,e⟩:=Vt e;refine⟨ad,U,st,x,f,E,S,m,λw s F b v q=>ZdN (E.mono b) v l n λr D a u=>ZdN (E.mono (b.trans a)) u k o λg C i t=>?_⟩
    exact⟨g,c,x,d,st',t,q.mono (a.trans i),e,p.later (b.trans (a.trans i))⟩
   .exact Zb e
  .exact Zb e
 .exact Zb e
theorem Zb1(O:L2.St)(H:Hp)(Q:Ot Int->Hp->Prop)(h:tO K (evC .non) O H Q):tNoPart O H Q:=by
 obtain⟨ad,U,st,d,st',E,S,e,p⟩:=h;cases e;rcases p with⟨_,p⟩|⟨i,z,_⟩
 .exact p ad H (Ext.refl _ _) S
 .cases z
end
variable [ClsTab]
def PostS(K:fG7)(ad:Li Ad)(H:Hp)(r:Fl)(st':Za)(D:Ends):Prop:=match r with
 |.nx U'=>∀ a ad' H',Ext ad H ad' H'->StOk K ad' H' st'->EnvOk K ad' H' a U'->D.nx a H'
 |.bk U'=>∀ a ad' H',Ext ad H ad' H'->StOk K ad' H' st'->EnvOk K ad' H' a U'->D.bk a H'
 |.ct U'=>∀ a ad' H',Ext ad H ad' H'->StOk K ad' H' st'->EnvOk K ad' H' a U'->D.ct a H'
 |.rt d=>Post K ad H d st' D.rt
theorem PostS.later{r:Fl}{D:Ends}(x:Ext ad H ad' H')(p:PostS K ad H r st D):PostS K ad' H' r st D:=by
 cases r with
 |nx U=>exact λa b c y S E=>p a b c (x.trans y) S E
 |bk U=>exact λa b c y S E=>p a b c (x.trans y) S E
 |ct U=>exact λa b c y S E=>p a b c (x.trans y) S E
 |rt d=>exact Post.later p x
theorem ZJ{f:Ex}{D:Ends}{r:Fl}(E:EnvOk K ad H O U)(S:StOk K ad H st)(e:f U st=some (r,st'))(p:PostS K ad H r st' D):tS K f D O H:=by
 refine⟨ad,U,st,r,st',E,S,e,?_⟩;cases r<;>exact p
theorem ZF{f:Ex}{D:Ends}(h:tS K f D O H):∃ ad U st r st',EnvOk K ad H O U/\StOk K ad H st/\f U st=some (r,st')/\PostS K ad H r st' D:=by
 obtain⟨ad,U,st,r,st',E,S,e,p⟩:=h;refine⟨ad,U,st,r,st',E,S,e,?_⟩;cases r<;>exact p
variable{l m:Nat}{E:Ends}{B:D->Env->Za->Ot (Fl×Za)}
variable{fe fk:Ev}
section
variable{f g:Ex}{fi:Ev}
theorem VX(D:Ends)(O:L2.St)(H:Hp)(h:tS K (λU st=>some (.nx U,st)) D O H):tNext D O H:=by
 obtain⟨ad,U,st,r,st',E,S,e,p⟩:=ZF h;cases e;exact p O ad H (Ext.refl _ _) S E
theorem ZbV(D:Ends)(O:L2.St)(H:Hp)(h:tS K (λU st=>some (.bk U,st)) D O H):tBreak D O H:=by
 obtain⟨ad,U,st,r,st',E,S,e,p⟩:=ZF h;cases e;exact p O ad H (Ext.refl _ _) S E
theorem J4(D:Ends)(O:L2.St)(H:Hp)(h:tS K (λU st=>some (.ct U,st)) D O H):tCont D O H:=by
 obtain⟨ad,U,st,r,st',E,S,e,p⟩:=ZF h;cases e;exact p O ad H (Ext.refl _ _) S E
theorem Zb6(D:Ends)(O:L2.St)(H:Hp)(h:tS K (Yh f g) D O H):tSeq (tS K f) (tS K g) D O H:=by
 obtain⟨ad,U,st,r,st',E,S,e,p⟩:=ZF h;unfold Yh at e;split at e
 .rename_i a i q
  exact ZJ E S q λb j m c k l=>ZJ l k e (p.later c)
 .rename_i q
  refine ZJ E S e ?_;cases r with
  |nx a=>exact absurd e (q a st')
  |bk a=>exact p
  |ct a=>exact p
  |rt d=>exact p
theorem Zb5(D:Ends)(O:L2.St)(H:Hp)(h:tS K (WN fe) D O H):tRet (tE K fe) D O H:=by
 obtain⟨ad,U,st,r,st',E,S,e,p⟩:=ZF h;unfold WN at e;split at e
 .rename_i d a q
  cases e;exact⟨ad,U,st,d,_,E,S,q,p⟩
 .exact Zb e
theorem Vd(D:Ends)(O:L2.St)(H:Hp)(h:tS K (WF i fe) D O H):tAsg (tE K fe) (gName i) D O H:=by
 obtain⟨ad,U,st,r,st',E,S,e,p⟩:=ZF h;unfold WF at e;split at e
 .rename_i d c q
  cases e;exact⟨ad,U,st,d,_,E,S,q,λv a j b g f=>p _ a j b g ((E.mono b).set i f)⟩
 .exact Zb e
theorem Zak(D:Ends)(O:L2.St)(H:Hp)(h:tS K (Za8 i j fe) D O H):tAsg (tE K fe) (gTup K 2 (gCons (gName i) (gCons (gName j) gNil))) D O H:=by
 obtain⟨ad,U,st,r,st',E,S,e,p⟩:=ZF h;unfold Za8 at e;split at e
 .rename_i x y g q
  cases e;refine⟨ad,U,st,_,_,E,S,q,λv d n f m c=>?_⟩
  obtain⟨a,vs,rfl,k,b⟩:=c.ofTup;cases b with
  |cons c b=>
   cases b with
   |cons l b=>
    cases b;exact⟨a,_,rfl,(k).sq,rfl,_,_,rfl,_,_,rfl,rfl,p _ d n f m (((E.mono f).set i c).set j l)⟩
 .exact Zb e
theorem Zal(D:Ends)(O:L2.St)(H:Hp)(h:tS K (Za9 i j l fe) D O H):tAsg (tE K fe) (gTup K 3 (gCons (gName i) (gCons (gName j) (gCons (gName l) gNil)))) D O H:=by
 obtain⟨ad,U,st,r,st',E,S,e,p⟩:=ZF h;unfold Za9 at e;split at e
 .rename_i x y z g q
  cases e;refine⟨ad,U,st,_,_,E,S,q,λv d s f o c=>?_⟩
  obtain⟨a,vs,rfl,k,b⟩:=c.ofTup;cases b with
  |cons c b=>
   cases b with
   |cons n b=>
    cases b with
    |cons m b=>
     cases b;exact⟨a,_,rfl,(k).sq,rfl,_,_,rfl,_,_,rfl,_,_,rfl,rfl,p _ d s f o ((((E.mono f).set i c).set j n).set l m)⟩
 .exact Zb e
theorem Qm(D:Ends)(O:L2.St)(H:Hp)(h:tS K (Ux fe) D O H):tDrop (tE K fe) D O H:=by
 obtain⟨ad,U,st,r,st',E,S,e,p⟩:=ZF h;unfold Ux at e;split at e
 .rename_i d c q
  cases e;exact⟨ad,U,st,d,_,E,S,q,λv a g b f i=>p _ a g b f (E.mono b)⟩
 .exact Zb e
theorem ZbZ(D:Ends)(O:L2.St)(H:Hp)(h:tS K (YI fe f g) D O H):tIfS (tT K fe) (tS K f) (tS K g) D O H:=by
 obtain⟨ad,U,st,r,st',E,S,e,p⟩:=ZF h;unfold YI at e;split at e
 .rename_i a q
  refine⟨ad,U,st,true,a,E,S,q,λc i b d=>?_⟩
  dsimp only;rw[if_pos rfl];exact ZJ (E.mono b) d e (p.later b)
 .rename_i a q
  refine⟨ad,U,st,false,a,E,S,q,λc i b d=>?_⟩
  dsimp only;rw[if_neg bF7];exact ZJ (E.mono b) d e (p.later b)
 .exact Zb e
theorem Vw{a:Ad}(S:StOk K ad H st)(h:LA ad H i a):∃ b ds,st[i]?=some (b,ds):=by
 have c:i < st.length:=by rw[<-S.len];exact(bB.mp h.1).1
 exact⟨st[i].1,st[i].2,by rw[lG7 c]⟩
theorem Qa{b:Za}{a:Ad}{v:V}(S:StOk K ad H st)(h:LA ad H i a)(hd:Den K ad H v d)(e:UA i d st=some b) :
  ∃ xs,H a=some (.lst xs)/\xs.length < sizeLine/\Ext ad H ad (upd H a (.lst (xs++[v])))/\StOk K ad (upd H a (.lst (xs++[v]))) b:=by
 unfold UA at e;split at e
 .rename_i ds q
  split at e
  .rename_i f
   cases e;obtain⟨xs,r,c⟩:=S.listM h q;refine⟨xs,c,?_,Ext.write c (aZ h.1),S.write h q c (r.append (.cons hd .nil))⟩;rw[r.length];exact aS f (by decide)
  .exact Zb e
 .exact Zb e
theorem ZbU(D:Ends)(O:L2.St)(H:Hp)(h:tS K (W6 i fe) D O H):tDrop (tBM K "list" rAppend (tVar i) (tCons (tE K fe) tNil)) D O H:=by
 obtain⟨ad,U,st,r,st',E,S,e,p⟩:=ZF h;unfold W6 at e;split at e
 .rename_i a q
  split at e
  .rename_i d f o
   split at e
   .rename_i m n
    cases e;obtain⟨v,y,x⟩:=E.at_ i _ q;obtain⟨l,rfl,g⟩:=x.ofLst;obtain⟨b,ds,u⟩:=Vw S g;obtain⟨xs,_,sq⟩:=S.list g u;refine⟨_,y,.inl ⟨rfl,xs,sq⟩,ad,U,st,d,f,E,S,o,λw j C c B z=>?_⟩
    obtain⟨ys,t,s,k,A⟩:=Qa B (g.mono c) z n;exact⟨l,ys,w,rfl,rfl,t,s,p _ j _ (c.trans k) A (E.mono (c.trans k))⟩
   .exact Zb e
  .exact Zb e
 .exact Zb e
theorem J3{q:Ev}(D:Ends)(O:L2.St)(H:Hp)(h:tS K (Jv q fe) D O H):tDrop (tBM K "list" rAppend (tE K q) (tCons (tE K fe) tNil)) D O H:=by
 obtain⟨ad,U,st,r,st',E,S,e,p⟩:=ZF h;unfold Jv at e;split at e
 .rename_i a c x
  split at e
  .rename_i d i u
   split at e
   .rename_i s t
    cases e;refine⟨ad,U,st,.lst a,c,E,S,x,λv m J g n C=>?_⟩
    obtain⟨l,rfl,j⟩:=C.ofLst;obtain⟨b,ds,A⟩:=Vw n j;obtain⟨xs,_,sq⟩:=n.list j A;refine⟨.inl ⟨rfl,xs,sq⟩,m,U,c,d,i,E.mono g,n,u,λw k I f G B=>?_⟩
    obtain⟨ys,z,y,o,F⟩:=Qa G (j.mono f) B t;exact⟨l,ys,w,rfl,rfl,z,y,p _ k _ ((g.trans f).trans o) F (E.mono ((g.trans f).trans o))⟩
   .exact Zb e
  .exact Zb e
 .exact Zb e
theorem ZbW(D:Ends)(O:L2.St)(H:Hp)(h:tS K (JR i fe) D O H):tDrop (tBM K "list" rExtend (tVar i) (tCons (tE K fe) tNil)) D O H:=by
 obtain⟨ad,U,st,r,st',E,S,e,p⟩:=ZF h;unfold JR at e;split at e
 .rename_i a A
  split at e
  .rename_i b g z
   split at e
   .rename_i y d
    cases e;obtain⟨v,J,I⟩:=E.at_ i _ A;obtain⟨l,rfl,n⟩:=I.ofLst;obtain⟨bb,ds,F⟩:=Vw S n;obtain⟨xs,_,sq⟩:=S.list n F;refine⟨_,J,.inl ⟨rfl,xs,sq⟩,ad,U,st,.lst b,g,E,S,z,λw o N f q L=>?_⟩
    obtain⟨m,rfl,C⟩:=L.ofLst;unfold Zen at d;split at d
    .rename_i M es f1 G
     split at d
     .rename_i B
      cases d;have c:=n.mono f;obtain⟨ys,x,k⟩:=q.listM c f1;obtain⟨s,u,j⟩:=q.listM C G;have t:=Ext.write (ys:=ys++s) k (aZ c.1);refine⟨l,m,ys,s,rfl,rfl,k,j,?_,p _ o _ (f.trans t) (q.write c f1 k (x.append u)) (E.mono (f.trans t))⟩;rw[x.length,u.length];exact aP B (by decide)
     .exact Zb d
    .exact Zb d
   .exact Zb e
  .exact Zb e
 .exact Zb e
theorem Zb4(D:Ends)(O:L2.St)(H:Hp)(h:tS K (UX i fk fe) D O H):tAsg (tE K fe) (gSub (tVar i) (tE K fk) rSetL) D O H\/tS K (Wn (YE i) fk fe) D O H:=by
 obtain⟨ad,U,st,r,st',E,S,e,p⟩:=ZF h;unfold UX at e;split at e
 .rename_i d m A
  split at e
  .rename_i a t
   split at e
   .rename_i j g s
    split at e
    .rename_i q b
     cases e
     left
     obtain⟨v,J,I⟩:=E.at_ i _ t;obtain⟨l,rfl,G⟩:=I.ofLst;refine⟨ad,U,st,d,m,E,S,A,λw x Q o N M=>⟨_,J,x,U,m,.int j,g,E.mono o,N,s,λP f C n B L=>?_⟩⟩
     cases L.ofInt;unfold We at b;split at b
     .rename_i ds z
      split at b
      .rename_i k F
       cases b;have c:=G.mono (o.trans n);obtain⟨xs,r,u⟩:=B.listM c z;have y:Ext f C f (upd C l (.lst (xs.set k w))):=Ext.write u (aZ c.1);refine⟨l,xs,j,k,rfl,rfl,u,?_,p _ f _ (o.trans (n.trans y)) (B.write c z u (r.set (M.mono n) k)) (E.mono (o.trans (n.trans y)))⟩;rw[r.length];exact F
      .exact Zb b
     .exact Zb b
    .exact Zb e
   .exact Zb e
  .rename_i a t
   split at e
   .rename_i ks g s
    split at e
    .rename_i q b
     cases e
     right
     refine ZJ E S ?_ p;unfold Wn YE;simp only[A,t,s,b]
    .exact Zb e
   .exact Zb e
  .exact Zb e
 .exact Zb e
theorem J6(O:L2.St)(H:Hp)(Q:VK)(h:tE K Zdr O H Q):Zbg K O H Q:=by
 obtain⟨ad,U,st,d,st',E,S,e,p⟩:=h;cases e;intro q a b;exact p _ (ad++[q]) _ (S.extD a b) (S.pushD a b) (.dic (by rw[<-S.len];exact ZB) ⟨_,upd_same,rfl⟩)
def Left(K:fG7)(b:D->Env->Za->Ot (Fl×Za))(E:Ends)(xs:Li D)(O:L2.St)(H:Hp):Prop:=∃ ad U st r st',EnvOk K ad H O U/\StOk K ad H st/\Zl b xs U st=some (r,st')/\PostS K ad H r st' E
theorem Left.turn{b:Ex}{xs:Li D}{H:Hp}{v:V}(o:∀ ad H,Den K ad H v x)(h:Left K (λd U s=>b (Zg U i d) s) E (x :: xs) O H) :
  tS K b { E with nx:=Left K (λd U s=>b (Zg U i d) s) E xs,ct:=Left K (λd U s=>b (Zg U i d) s) E xs,bk:=E.nx } (O.set i (some v)) H:=by
 obtain⟨ad,U,st,r,st',t,S,e,p⟩:=h;unfold Zl at e;have g:=t.set i (o ad H);split at e
 .rename_i f a q
  exact ZJ g S q λj c n k l m=>⟨c,f,a,r,st',m,l,e,p.later k⟩
 .rename_i f a q
  exact ZJ g S q λj c n k l m=>⟨c,f,a,r,st',m,l,e,p.later k⟩
 .rename_i f a q
  cases e;exact ZJ g S q λj c n k l m=>p j c n k l m
 .rename_i d a q
  cases e;exact ZJ g S q p
 .exact Zb e
theorem Left.turnD{b:Ex}{xs:Li D}{U:Env}{r:Fl}{v:V}(t:EnvOk K ad H O U)(S:StOk K ad H st)(o:Den K ad H v x)(e:Zl (λd U s=>b (Zg U i d) s) (x :: xs) U st=some (r,st'))(p:PostS K ad H r st' E)(L:L2.St->Hp->Prop)(n:∀ c a h g f,Ext ad H a h->StOk K a h f->EnvOk K a h c g->Zl (λd U s=>b (Zg U i d) s) xs g f=some (r,st')->L c h) :
  tS K b { E with nx:=L,ct:=L,bk:=E.nx } (O.set i (some v)) H:=by
 unfold Zl at e;have j:=t.set i o;split at e
 .rename_i g f q
  exact ZJ j S q λc a h k l m=>n c a h g f k l m e
 .rename_i g f q
  exact ZJ j S q λc a h k l m=>n c a h g f k l m e
 .rename_i g f q
  cases e;exact ZJ j S q λc a h k l m=>p c a h k l m
 .rename_i d f q
  cases e;exact ZJ j S q p
 .exact Zb e
theorem Left.done{b:D->Env->Za->Ot (Fl×Za)}(h:Left K b E [] O H):E.nx O H:=by
 obtain⟨ad,U,st,r,st',a,S,e,p⟩:=h;cases e;exact p O ad H (Ext.refl _ _) S a
theorem UY(n k:Nat)(h:k < n):((List.range n).map λ(j:Nat)=>D.int (j:Int)).drop k=D.int (k:Int) :: ((List.range n).map λ(j:Nat)=>D.int (j:Int)).drop (k+1):=by
 rw[bZ (by simpa using h)]
 simp
theorem Zae(E:Ends)(O:L2.St)(H:Hp)(h:tS K (Wq i true fi f) E O H):tFor (iRng1 (tCons (tE K fi) tNil)) (gName i) (tS K f) E O H:=by
 obtain⟨ad,U,st,r,st',l,S,e,p⟩:=ZF h;unfold Wq at e;split at e
 .rename_i x a m
  cases x with
  |int n=>
   have e:(match (if n < 2 ^ 62/\-(2 ^ 62)<=n then some ((List.range n.toNat).map λ(k:Nat)=>D.int (k:Int)) else none) with
    |some xs=>Zl (λd U s=>f (Zg U i d) s) xs U a
    |none=>none)=some (r,st'):=e
   by_cases b:n < 2 ^ 62/\-(2 ^ 62)<=n
   .rw[if_pos b]at e
    refine⟨ad,U,st,.int n,a,l,S,m,λv c u j t q=>⟨n,by rw[q.ofInt],b.2,b.1,?_⟩⟩
    refine for_range (λk g H'=>Left K (λd U s=>f (Zg U i d) s) E (((List.range n.toNat).map λ(k:Nat)=>D.int (k:Int)).drop k) g H') ⟨c,U,a,r,st',l.mono j,t,e,p.later j⟩ (λk g H' o L=>?_) λg H' L=>?_
    .rw[UY _ _ o]at L
     have z:(0:Int)+(k:Int)=(k:Int):=Int.zero_add _;rw[z];exact L.turn λ_ _=>.int _
    .rw[eN (by simp)]at L
     exact L.done
   .rw[if_neg b]at e
    cases e
  |_=>simp[Wx]at e
 .exact Zb e
noncomputable def Its(a c:Int)(n:Nat):It:=⟨λi _=>i < n,λi H x H'=>H'=H/\x=.int (a+(i:Int) * c),λi _=>n<=i⟩
def Zdw(a:TA):TI:=λO H R=>a O H λvs b=>∃ (i j c:Int),(vs=[.int i,.int j]/\c=1\/vs=[.int i,.int j,.int c])/\YM i j c=true/\R (Its i c (Z5 i j c)) b
theorem JW{f c:Int}{g:TG}{k:TS}{D:Ends}{O:L2.St}{H:Hp}(d:Nat->L2.St->Hp->Prop)(r:d 0 O H)(q:∀ i O H,i < n->d i O H->g (.int (f+(i:Int) * c)) O H λa j=>k { D with nx:=d (i+1),ct:=d (i+1),bk:=D.nx } a j)(hd:∀ O H,d n O H->D.nx O H) :
  ∃ W:Nat->Nat->L2.St->Hp->Prop,(∃ m,W 0 m O H)/\∀ i m O H,W i m O H->
   ((Its f c n).stop i H/\D.nx O H)\/((Its f c n).go i H/\∃ N:L2.St->Hp->Prop,(∀ h H',N h H'->∃ l,l < m/\W (i+1) l h H')/\∀ x H',(Its f c n).yld i H x H'->g x O H' λa j=>k { D with nx:=N,ct:=N,bk:=D.nx } a j):=by
 refine⟨λi m O H=>m=n - i/\i<=n/\d i O H,⟨n,by simp,aV _,r⟩,?_⟩
 rintro i m O H ⟨rfl,s,p⟩
 by_cases b:i < n
 .refine .inr ⟨b,d (i+1),λh H' o=>⟨n - (i+1),by omega,rfl,b,o⟩,λx H' y=>?_⟩
  obtain⟨e,y⟩:=y;subst e y;exact q i O _ b p
 .have e:i=n:=by omega
  subst e;exact .inl ⟨aD _,hd O H p⟩
theorem Ui(a b c:Int)(k:Nat)(h:k < Z5 a b c):((YB a b c).map D.int).drop k=D.int (a+(k:Int) * c) :: ((YB a b c).map D.int).drop (k+1):=by
 rw[bZ (by simpa[YB] using h)]
 simp[YB]
theorem Zb8{i:Int}(h:Zgr d=some i):d=.int i:=by cases d<;>first | (cases h;done) | (cases h;rfl)
theorem VY:∀ {xs:Li D}{l:Li Int},Zao xs=some l->xs=l.map .int
 |[],_,h=>by cases h;rfl
 |x :: xs,l,h=>ZS (P:=λl=>x :: xs=l.map D.int) h λi r b a=>by rw[Zb8 b,VY a];rfl
theorem Vg{xs:Li Int}(h:Vf x=some xs):∃ a b c,(x=.tup [.int a,.int b]/\c=1\/x=.tup [.int a,.int b,.int c])/\YM a b c=true/\xs=YB a b c:=by
 cases x<;>first | (cases h;done)|skip
 obtain⟨l,e,d⟩:=cL.mp h;rw[VY e];cases l with
 |nil=>exact Zb d
 |cons a l=>cases l with
  |nil=>exact Zb d
  |cons b l=>cases l with
   |nil=>exact Yq d λq d=>by cases d;exact⟨a,b,1,.inl ⟨rfl,rfl⟩,q,rfl⟩
   |cons c l=>cases l with
    |nil=>exact Yq d λq d=>by cases d;exact⟨a,b,c,.inr rfl,q,rfl⟩
    |cons _ _=>exact Zb d
theorem J7(E:Ends)(O:L2.St)(H:Hp)(h:tS K (VO i fi f) E O H):tFor (Zdw (tA K fi)) (gName i) (tS K f) E O H:=by
 obtain⟨ad,U,st,r,st',z,S,e,p⟩:=ZF h;unfold VO at e;split at e
 .rename_i x l A
  split at e
  .rename_i xs C
   obtain⟨a,b,c,F,ok,rfl⟩:=Vg C;have t:∀ {j:Li Ad}{q:Hp},Ext ad H j q->StOk K j q l->∃ W:Nat->Nat->L2.St->Hp->Prop,(∃ m,W 0 m O q)/\∀ k m O H,W k m O H->
     ((Its a c (Z5 a b c)).stop k H/\E.nx O H)\/((Its a c (Z5 a b c)).go k H/\∃ N:L2.St->Hp->Prop,(∀ o H',N o H'->∃ B,B < m/\W (k+1) B o H')/\∀ x H',(Its a c (Z5 a b c)).yld k H x H'->gName i x O H' λv J=>tS K f { E with nx:=N,ct:=N,bk:=E.nx } v J):=λ{j q} n u=>
    JW (λk o H'=>Left K (λd U s=>f (Zg U i d) s) E (((YB a b c).map D.int).drop k) o H') ⟨j,U,l,r,st',z.mono n,u,e,p.later n⟩ (λk o H' G L=>by
     rw[Ui _ _ _ _ G]at L;exact L.turn λ_ _=>.int _) λo H' L=>by
     rw[eN (by simp[YB])]at L
     exact L.done
   rcases F with⟨rfl,rfl⟩|rfl
   .refine⟨ad,U,st,_,l,z,S,A,λvs j q n u g=>⟨a,b,1,.inl ⟨?_,rfl⟩,ok,t n u⟩⟩
    cases g with
    |cons y g=>
     cases g with
     |cons w g=>cases g;rw[y.ofInt,w.ofInt]
   .refine⟨ad,U,st,_,l,z,S,A,λvs j q n u g=>⟨a,b,c,.inr ?_,ok,t n u⟩⟩
    cases g with
    |cons y g=>
     cases g with
     |cons w g=>
      cases g with
      |cons I g=>cases g;rw[y.ofInt,w.ofInt,I.ofInt]
  .exact Zb e
 .exact Zb e
def Zdk(K:fG7)(b:D->Env->Za->Ot (Fl×Za))(E:Ends)(a:Ad)(vs:Li V)(xs:Li D)(k:Nat)(O:L2.St)(H:Hp):Prop:=
 ∃ ad U st r st',EnvOk K ad H O U/\StOk K ad H st/\(TupAt K H a vs/\Dens K ad H vs xs)/\Zl b (xs.drop k) U st=some (r,st')/\PostS K ad H r st' E
theorem Zaf(E:Ends)(O:L2.St)(H:Hp){U:Env}{g:Za}{r:Fl}{xs:Li D}(Q:EnvOk K ad H O U)(S:StOk K ad H st)(V:fi U st=some (.tup xs,g))(e:Zl (λd U s=>f (Zg U i d) s) xs U g=some (r,st'))(p:PostS K ad H r st' E):tFor (iTup K (tE K fi)) (gName i) (tS K f) E O H:=by
 refine⟨ad,U,st,.tup xs,g,Q,S,V,λv F H1 I S1 Z=>?_⟩
 obtain⟨a,vs,rfl,M,T⟩:=Z.ofTup;refine⟨a,rfl,⟨vs,(M).sq⟩,?_⟩;refine for_tup (xs:=vs) (λk u H'=>Zdk K (λd U s=>f (Zg U i d) s) E a vs xs k u H') ⟨F,U,g,r,st',Q.mono I,S1,⟨M,T⟩,by rw[cV];exact e,p.later I⟩ (λk u H' _ L=>?_) (λk y u H' J L=>?_) λu H' L=>?_
 .obtain⟨_,_,_,_,_,_,_,⟨h,_⟩,_⟩:=L
  exact(h).sq
 .obtain⟨q,l,m,B,b,j,G,⟨N,c⟩,o,t⟩:=L
  have n:k < xs.length:=by rw[<-c.length];exact(bB.mp J).1
  have W:xs[k]?=some xs[k]:=lG7 n;obtain⟨w,P,Y⟩:=c.get W;rw[J]at P;cases P
  rw[bZ n]at o;exact Left.turnD j G Y o t _ λR C H3 x A z S3 E3 X=>⟨C,x,A,B,b,E3,S3,⟨N.mono z,c.mono z⟩,X,t.later z⟩
 .obtain⟨q,l,m,B,b,j,G,⟨N,c⟩,o,t⟩:=L
  rw[c.length,List.drop_length]at o;exact Left.done ⟨q,l,m,B,b,j,G,o,t⟩
theorem Zab{G:TG}(E:Ends)(O:L2.St)(H:Hp){ad:Li Ad}{U:Env}{st i:Za}{r:Fl}{xs:Li D}(En:EnvOk K ad H O U)(S:StOk K ad H st)(q1:fi U st=some (.lst l,i))(q2:i[l]?=some (bb,xs))(e:ZM B l xs.length 0 U i=some (r,st'))(p:PostS K ad H r st' E)(R:∀ (x:D) (v:V) (O:L2.St) (H:Hp) (ad:Li Ad) (U:Env) (st i:Za) (r1:Fl) (E':Ends),EnvOk K ad H O U->StOk K ad H st->Den K ad H v x->B x U st=some (r1,i)->PostS K ad H r1 i E'->G v O H λW H2=>tS K f E' W H2) :
  tFor (iList K (tE K fi)) G (tS K f) E O H:=by
 refine⟨ad,U,st,.lst l,i,En,S,q1,λv ad1 H1 x1 S1 d1=>?_⟩
 obtain⟨a,rfl,ha⟩:=d1.ofLst;obtain⟨vs,rv,sq⟩:=S1.list ha q2;refine⟨a,rfl,⟨vs,sq⟩,?_⟩;refine⟨λk m O' H'=>∃ b c g,(EnvOk K b H' O' c/\StOk K b H' g/\LA b H' l a)/\ZM B l m k c g=some (r,st')/\PostS K b H' r st' E,⟨xs.length,ad1,U,i,⟨En.mono x1,S1,ha⟩,e,p.later x1⟩,?_⟩
 rintro k m O' H' ⟨b,c,g,⟨s,C,t⟩,n,M⟩
 obtain⟨b2,ys,N⟩:=Vw C t;obtain⟨X,L,A⟩:=C.list t N;have stop:ys.length<=k->ZM B l m k c g=some (.nx c,g):=λF=>by
  cases m with
  |zero=>unfold ZM;simp only[N];rw[if_pos F]
  |succ m=>unfold ZM;simp only[N,List.getElem?_eq_none F]
 by_cases F:ys.length<=k
 .refine .inl ⟨⟨X,A,by rw[L.length];exact F⟩,?_⟩
  rw[stop F]at n;cases n;exact M O' b H' (Ext.refl _ _) C s
 .have Z:k < ys.length:=by omega
  have hy:ys[k]?=some ys[k]:=lG7 Z;obtain⟨w,ew,T⟩:=L.get hy;cases m with
  |zero=>
   unfold ZM at n;simp only[N]at n;rw[if_neg F]at n;cases n
  |succ m=>
   unfold ZM at n;simp only[N,hy]at n;refine .inr ⟨⟨X,w,A,ew⟩,λJ I=>∃ u j h,(EnvOk K u I J j/\StOk K u I h/\LA u I l a)/\ZM B l m (k+1) j h=some (r,st')/\PostS K u I r st' E,λJ I h3=>⟨m,bS m,h3⟩,λx I Y=>?_⟩
   obtain⟨rfl,Y⟩:=Y;have ex:=Y X A;rw[ew]at ex;cases ex
   split at n
   .rename_i j h q
    exact R _ _ _ _ b c g _ _ _ s C T q λy o H4 z P Q=>⟨o,j,h,⟨Q,P,t.mono z⟩,n,M.later z⟩
   .rename_i j h q
    exact R _ _ _ _ b c g _ _ _ s C T q λy o H4 z P Q=>⟨o,j,h,⟨Q,P,t.mono z⟩,n,M.later z⟩
   .rename_i j h q
    cases n;exact R _ _ _ _ b c g _ _ _ s C T q λy o H4 z P Q=>M y o H4 z P Q
   .rename_i d h q
    cases n;exact R _ _ _ _ b c g _ _ _ s C T q M
   .exact Zb n
theorem Zac(E:Ends)(O:L2.St)(H:Hp)(h:tS K (Wq i false fi f) E O H):tFor (iTup K (tE K fi)) (gName i) (tS K f) E O H\/tFor (iList K (tE K fi)) (gName i) (tS K f) E O H:=by
 obtain⟨ad,U,st,r,st',b,S,e,p⟩:=ZF h;unfold Wq at e;split at e
 .rename_i x a c
  cases x with
  |tup xs=>exact .inl (Zaf E O H b S c e p)
  |lst l=>
   have e:(match a[l]? with
    |some (_,xs)=>ZM (λd U s=>f (Zg U i d) s) l xs.length 0 U a
    |none=>none)=some (r,st'):=e
   split at e
   .rename_i bb xs g
    refine .inr (Zab E O H b S c g e p λx v O H ad U st a n o b S m k j=>?_)
    exact ZJ (b.set i m) S k j
   .exact Zb e
  |_=>simp[Wx]at e
 .exact Zb e
theorem Q5{G:TG}(E:Ends)(O:L2.St)(H:Hp){ad:Li Ad}{U:Env}{st b:Za}{r:Fl}{xs:Li D}(En:EnvOk K ad H O U)(S:StOk K ad H st)(q1:fi U st=some (.tup xs,b))(e:Zl B xs U b=some (r,st'))(p:PostS K ad H r st' E)(N:∀ (x:D) (v:V) (O:L2.St) (H:Hp) (ad:Li Ad) (U:Env) (st b:Za) (Z:Fl) (E':Ends),EnvOk K ad H O U->StOk K ad H st->Den K ad H v x->B x U st=some (Z,b)->PostS K ad H Z b E'->G v O H λR H2=>tS K f E' R H2) :
  tFor (iTup K (tE K fi)) G (tS K f) E O H:=by
 refine⟨ad,U,st,.tup xs,b,En,S,q1,λv W H1 Y S1 d1=>?_⟩
 obtain⟨a,vs,rfl,ha,rv⟩:=d1.ofTup;refine⟨a,rfl,⟨vs,(ha).sq⟩,?_⟩;refine for_tup (xs:=vs) (λk Q H'=>Zdk K B E a vs xs k Q H') ⟨W,U,b,r,st',En.mono Y,S1,⟨ha,rv⟩,by rw[cV];exact e,p.later Y⟩ (λk Q H' _ L=>?_) (λk y Q H' hk L=>?_) λQ H' L=>?_
 .obtain⟨_,_,_,_,_,_,_,⟨h,_⟩,_⟩:=L
  exact(h).sq
 .obtain⟨l,g,i,M,c,m,C,⟨T,j⟩,o,A⟩:=L
  have F:k < xs.length:=by rw[<-j.length];exact(bB.mp hk).1
  have hx:xs[k]?=some xs[k]:=lG7 F;obtain⟨w,ew,P⟩:=j.get hx;rw[hk]at ew;cases ew
  rw[bZ F]at o;unfold Zl at o;split at o
  .rename_i t n q
   exact N _ _ _ _ l g i _ _ _ m C P q λz s X u I J=>⟨s,t,n,M,c,J,I,⟨T.mono u,j.mono u⟩,o,A.later u⟩
  .rename_i t n q
   exact N _ _ _ _ l g i _ _ _ m C P q λz s X u I J=>⟨s,t,n,M,c,J,I,⟨T.mono u,j.mono u⟩,o,A.later u⟩
  .rename_i t n q
   cases o;exact N _ _ _ _ l g i _ _ _ m C P q λz s X u I J=>A z s X u I J
  .rename_i d n q
   cases o;exact N _ _ _ _ l g i _ _ _ m C P q A
  .exact Zb o
 .obtain⟨l,g,i,M,c,m,C,⟨T,j⟩,o,A⟩:=L
  rw[j.length,List.drop_length]at o;exact Left.done ⟨l,g,i,M,c,m,C,o,A⟩
theorem J8(E:Ends)(O:L2.St)(H:Hp)(h:tS K (VP i j l fi f) E O H):tFor (iTup K (tE K fi)) (gTup K 3 (gCons (gName i) (gCons (gName j) (gCons (gName l) gNil)))) (tS K f) E O H:=by
 obtain⟨ad,U,st,r,st',g,S,e,p⟩:=ZF h;unfold VP at e;split at e
 .rename_i xs d k
  refine Q5 E O H g S k e p λx v O H ad U st d w A g S o c m=>?_
  unfold ZfI at c;split at c
  .rename_i y z u
   obtain⟨a,vs,rfl,n,b⟩:=o.ofTup;cases b with
   |cons t b=>
    cases b with
    |cons s b=>
     cases b with
     |cons q b=>
      cases b;exact⟨a,_,rfl,(n).sq,rfl,_,_,rfl,_,_,rfl,_,_,rfl,rfl,ZJ (((g.set i t).set j s).set l q) S c m⟩
  .exact Zb c
 .exact Zb e
theorem Q7(E:Ends)(O:L2.St)(H:Hp)(h:tS K (Xq fe f m) E O H):tWhile (tT K fe) (tS K f) E O H:=by
 obtain⟨ad,U,st,r,st',g,S,e,p⟩:=ZF h;refine⟨λm O H=>∃ ad U st,(EnvOk K ad H O U/\StOk K ad H st)/\Xq fe f m U st=some (r,st')/\PostS K ad H r st' E,⟨m,ad,U,st,⟨g,S⟩,e,p⟩,?_⟩
 rintro m O H ⟨ad,U,st,⟨g,S⟩,e,p⟩
 cases m with
 |zero=>exact Zb e
 |succ m=>
  have e:YI fe (W5 f (Xq fe f m)) (λU st=>some (.nx U,st)) U st=some (r,st'):=e
  unfold YI at e;split at e
  .rename_i j q
   refine⟨ad,U,st,true,j,g,S,q,λo w a l=>?_⟩
   dsimp only;rw[if_pos rfl];refine⟨λO H=>∃ ad U st,(EnvOk K ad H O U/\StOk K ad H st)/\Xq fe f m U st=some (r,st')/\PostS K ad H r st' E,λx H' h=>⟨m,bS m,h⟩,?_⟩
   have e:W5 f (Xq fe f m) U j=some (r,st'):=e;unfold W5 at e;split at e
   .rename_i d b k
    exact ZJ (g.mono a) l k λi c u n s t=>⟨c,d,b,⟨t,s⟩,e,p.later (a.trans n)⟩
   .rename_i d b k
    exact ZJ (g.mono a) l k λi c u n s t=>⟨c,d,b,⟨t,s⟩,e,p.later (a.trans n)⟩
   .rename_i d b k
    cases e;exact ZJ (g.mono a) l k λi c u n s t=>p i c u (a.trans n) s t
   .rename_i v b k
    cases e;exact ZJ (g.mono a) l k (Post.later p a)
   .exact Zb e
  .rename_i j q
   cases e;refine⟨ad,U,st,false,_,g,S,q,λo w a l=>?_⟩
   dsimp only;rw[if_neg bF7];exact p O o w a l (g.mono a)
  .exact Zb e
noncomputable def Itz(K:fG7)(a b:Ad):It:=
 ⟨λi H=>∃ xs ys x y,SqL K H a xs/\SqL K H b ys/\xs[i]?=some x/\ys[i]?=some y,
  λi H v H'=>∃ p x y,v=.ref p/\H p=none/\H'=upd H p (.tup [x,y])/\(∀ xs,SqL K H a xs->xs[i]?=some x)/\∀ ys,SqL K H b ys->ys[i]?=some y,
  λi H=>∃ xs ys,SqL K H a xs/\SqL K H b ys/\min xs.length ys.length<=i⟩
def Zgp(K:fG7)(d:TA):TI:=λO H R=>d O H λvs c=>∃ a b,vs=[.ref a,.ref b]/\(∃ xs,SqL K c a xs)/\(∃ ys,SqL K c b ys)/\R (Itz K a b) c
theorem ZaC{ok:Za->Prop}{B:D->D->Env->Za->Ot (Fl×Za)}{l:Li (D×D)}{z:Fl×Za}(e:ZX ok B l U st=some z):ok st:=by
 cases l with
 |nil=>
  unfold ZX at e;by_cases h:ok st
  .exact h
  .rw[if_neg h]at e;cases e
 |cons _ _=>
  unfold ZX at e;by_cases h:ok st
  .exact h
  .rw[if_neg h]at e;cases e
inductive LK(K:fG7)(ok:Za->Prop)(B:D->D->Env->Za->Option (Fl×Za))(qs:List (D×D))(Good:List Addr->Hp->Prop)(r:Fl)(st':Za)(E:Ends)(k m:Nat)(O:L2.St)(H:Hp):Prop
 |mk {ad:List Addr}{U:Env}{st:Za} (hk:k+m=qs.length) (En:EnvOk K ad H O U) (S:StOk K ad H st) (g:Good ad H) (e:ZX ok B (qs.drop k) U st=some (r,st')) (p:PostS K ad H r st' E):LK K ok B qs Good r st' E k m O H
def ZfX(K:fG7)(f:Ex)(i j:Nat)(J:It)(E:Ends)(O:L2.St)(g:Hp):Prop:=∃ W:Nat->Nat->L2.St->Hp->Prop,(∃ m,W 0 m O g)/\∀ a m O H,W a m O H->(J.stop a H/\E.nx O H)\/(J.go a H/\∃ N:L2.St->Hp->Prop,(∀ d H',N d H'->∃ c,c < m/\W (a+1) c d H')/\∀ x H',J.yld a H x H'->gTup K 2 (gCons (gName i) (gCons (gName j) gNil)) x O H' λb e=>tS K f { E with nx:=N,ct:=N,bk:=E.nx } b e)
theorem Xk{ok:Za->Prop}{c:Li (D×D)}{a:Li Ad->Hp->Prop}{r:Fl}{J:It}(gm:∀ ad H ad' H',Ext ad H ad' H'->a ad H->a ad' H')(stop:∀ ad H st,a ad H->StOk K ad H st->ok st->J.stop c.length H)(go:∀ k ad H st q,a ad H->StOk K ad H st->ok st->c[k]?=some q->∃ w v,J.go k H/\Den K ad H w q.1/\Den K ad H v q.2/\∀ x H',J.yld k H x H'->∃ pt,x=.ref pt/\H pt=none/\H'=upd H pt (.tup [w,v]))(k m:Nat)(O:L2.St)(H:Hp)(h:LK K ok (λx y U s=>f (Zg (Zg U i x) j y) s) c a r st' E k m O H) :
  (J.stop k H/\E.nx O H)\/(J.go k H/\∃ N:L2.St->Hp->Prop,(∀ W H',N W H'->∃ R,R < m/\LK K ok (λx y U s=>f (Zg (Zg U i x) j y) s) c a r st' E (k+1) R W H')/\∀ x H',J.yld k H x H'->gTup K 2 (gCons (gName i) (gCons (gName j) gNil)) x O H' λt P=>tS K f { E with nx:=N,ct:=N,bk:=E.nx } t P):=by
 cases h with
 |@mk ad U st L En S g e p=>
  have n:=ZaC e;by_cases V:c.length<=k
  .have l:k=c.length:=by omega
   subst l;rw[List.drop_length]at e;unfold ZX at e;rw[if_pos n]at e;cases e;exact .inl ⟨stop _ _ _ g S n,p O _ H (Ext.refl _ _) S En⟩
  .have l:k < c.length:=Nat.lt_of_not_le V
   obtain⟨w,v,C,G,F,T⟩:=go k _ _ _ c[k] g S n (lG7 l);rw[bZ l]at e;unfold ZX at e;rw[if_pos n]at e;generalize c[k]=q at e G F;refine .inr ⟨C,LK K ok (λx y U s=>f (Zg (Zg U i x) j y) s) c a r st' E (k+1) (m - 1),λY X h3=>⟨m - 1,by omega,h3⟩,λx X hx=>?_⟩
   obtain⟨pt,rfl,B,rfl⟩:=T x X hx;have u:Ext ad H ad (upd H pt (.tup [w,v])):=Ext.laid B;have o:∀ {rr:Fl}{s3:Za}{E':Ends},f (Zg (Zg U i q.1) j q.2) st=some (rr,s3)->PostS K ad (upd H pt (.tup [w,v])) rr s3 E'->gTup K 2 (gCons (gName i) (gCons (gName j) gNil)) (.ref pt) O (upd H pt (.tup [w,v])) λt P=>tS K f E' t P:=λq Z=>
    ⟨pt,_,rfl,SqT.of upd_same,rfl,_,_,rfl,_,_,rfl,rfl,ZJ (((En.mono u).set i (G.mono u)).set j (F.mono u)) (S.laid B) q Z⟩
   have nxt:∀ {ρ3:Env}{st3:Za},ZX ok (λx y U s=>f (Zg (Zg U i x) j y) s) (c.drop (k+1)) ρ3 st3=some (r,st')->∀ (d:L2.St) (b:Li Ad) (A:Hp),Ext ad (upd H pt (.tup [w,v])) b A->StOk K b A st3->EnvOk K b A d ρ3->LK K ok (λx y U s=>f (Zg (Zg U i x) j y) s) c a r st' E (k+1) (m - 1) d A:=λe3 d b A I M Q=>
    .mk (by omega) Q M (gm _ _ _ _ (u.trans I) g) e3 (p.later (u.trans I))
   clear T go stop L V l C;split at e
   .rename_i z
    exact o z (nxt e)
   .rename_i z
    exact o z (nxt e)
   .rename_i z
    cases e;exact o z λd b A I M Q=>p d b A (u.trans I) M Q
   .rename_i z
    cases e;exact o z (p.later u)
   .exact Zb e
theorem Zad(E:Ends)(O:L2.St)(H:Hp)(h:tS K (JV i j fi f) E O H):tFor (Zgp K (tA K fi)) (gTup K 2 (gCons (gName i) (gCons (gName j) gNil))) (tS K f) E O H:=by
 obtain⟨ad,U,st,r,st',En,S,e,p⟩:=ZF h;unfold JV at e;split at e
 .rename_i la w m q1
  split at e
  .rename_i v u I G
   refine⟨ad,U,st,_,m,En,S,q1,λvs y Z Q P n=>?_⟩
   obtain⟨C,B,rfl,N,M⟩:∃ C B,vs=[C,B]/\Den K y Z C (.lst la)/\Den K y Z B (.lst w):=by
    cases n with
    |cons L n=>
     cases n with
     |cons J n=>cases n;exact⟨_,_,rfl,L,J⟩
   obtain⟨a,rfl,W⟩:=N.ofLst;obtain⟨b,rfl,V⟩:=M.ofLst;obtain⟨t,A,d⟩:=P.list W (show m[la]?=some (v.1,v.2) from I);obtain⟨s,l,c⟩:=P.list V (show m[w]?=some (u.1,u.2) from G);refine⟨a,b,rfl,⟨t,d⟩,⟨s,c⟩,_,⟨_,.mk (Good:=λad H=>LA ad H la a/\LA ad H w b) (bG _) (En.mono Q) P ⟨W,V⟩ e (p.later Q)⟩,Xk (λ_ _ _ _ x g=>⟨g.1.mono x,g.2.mono x⟩) (λad H st g S o=>?_) λk ad H st q g S o hq=>?_⟩
   .obtain⟨t,A,d⟩:=S.list g.1 (show st[la]?=some (v.1,v.2) from o.1)
    obtain⟨s,l,c⟩:=S.list g.2 (show st[w]?=some (u.1,u.2) from o.2);exact⟨t,s,d,c,by rw[A.length,l.length];exact cN (List.length_zip ..).symm⟩
   .obtain⟨t,A,d⟩:=S.list g.1 (show st[la]?=some (v.1,v.2) from o.1)
    obtain⟨s,l,c⟩:=S.list g.2 (show st[w]?=some (u.1,u.2) from o.2);obtain⟨L,J⟩:=List.getElem?_zip_eq_some.mp hq;obtain⟨T,Y,n⟩:=A.get L;obtain⟨R,X,d2⟩:=l.get J;exact⟨T,R,⟨t,s,T,R,d,c,Y,X⟩,n,d2,λx H' ⟨pt,y1,y2,z1,z2,z3,F,D⟩=>⟨pt,z1,z2,by have z:=F t d;rw[Y]at z;cases z;have z:=D s c;rw[X]at z;cases z;exact z3⟩⟩
  .exact Zb e
 .exact Zb e
end
variable [ClsTab]
mutual
theorem Qc:∀ {x y:D},Zr x y=true->x=y
 |.non,y,h=>by cases y<;>simp[Zr]at h ⊢
 |.bl a,y,h=>by cases y<;>simp[Zr]at h ⊢;exact h
 |.int a,y,h=>by cases y<;>simp[Zr]at h ⊢;exact h
 |.str a,y,h=>by cases y<;>simp[Zr]at h ⊢;exact h
 |.tup a,y,h=>by
  cases y with
  |tup b=>rw[VB (x:=a) (y:=b) (by simpa[Zr] using h)]
  |_=>simp[Zr]at h
 |.lst a,y,h=>by cases y<;>simp[Zr]at h
 |.dct a b,y,h=>by cases y<;>simp[Zr]at h
 |.obj a,y,h=>by cases y<;>simp[Zr]at h
 |.kt a,y,h=>by cases y<;>simp[Zr]at h
 |.dic a,y,h=>by cases y<;>simp[Zr]at h
theorem VB:∀ {x y:Li D},Zx x y=true->x=y
 |[],y,h=>by cases y<;>simp[Zx]at h ⊢
 |a :: x,y,h=>by
  cases y with
  |nil=>simp[Zx]at h
  |cons b y=>
   have h:(Zr a b&&Zx x y)=true:=h;rw[bA7]at h;rw[Qc h.1,VB h.2]
end
mutual
theorem Y5:∀ {n:Nat}{x:D},okD n x=true->Zr x x=true
 |_,.non,_=>rfl
 |_,.bl a,_=>by simp[Zr]
 |_,.int a,_=>by simp[Zr]
 |_,.str a,_=>by simp[Zr]
 |0,.tup a,h=>by simp[okD]at h
 |n+1,.tup a,h=>Wl (n:=n) (x:=a) h
 |_,.lst a,h=>by simp[okD]at h
 |_,.dct a b,h=>by simp[okD]at h
 |_,.obj a,h=>by simp[okD]at h
 |_,.kt a,h=>by simp[okD]at h
 |_,.dic a,h=>by simp[okD]at h
theorem Wl:∀ {n:Nat}{x:Li D},ZT n x=true->Zx x x=true
 |_,[],_=>rfl
 |n,a :: x,h=>by
  have h:(okD n a&&ZT n x)=true:=h;rw[bA7]at h;show(Zr a a&&Zx x x)=true;rw[Y5 h.1,Wl h.2];rfl
end
theorem Y1:∀ {n:Nat}{xs:Li D}{i:Nat}{d:D},ZT n xs=true->xs[i]?=some d->okD n d=true
 |_,[],_,_,_,e=>by simp at e
 |n,x :: xs,i,d,h,e=>by
  have h:(okD n x&&ZT n xs)=true:=h;rw[bA7]at h;cases i with
  |zero=>simp at e;subst e;exact h.1
  |succ i=>exact Y1 (i:=i) h.2 (by simpa using e)
theorem YD:∀ {xs ys:Li D},Zx xs ys=((List.range (min xs.length ys.length)).all (λi=>Zr ((xs[i]?).getD .non) ((ys[i]?).getD .non))&&xs.length==ys.length)
 |[],[]=>rfl
 |[],_ :: _=>by simp[Zx]
 |_ :: _,[]=>by simp[Zx]
 |x :: xs,y :: ys=>by
  have a:=@YD xs ys;show(Zr x y&&Zx xs ys)=_;rw[a];have e:min (x :: xs).length (y :: ys).length=min xs.length ys.length+1:=by simp only[aQ];omega
  rw[e,List.range_succ_eq_map,bA,List.all_map];simp only[aQ];have z:(xs.length+1==ys.length+1)=(xs.length==ys.length):=by
   rw[bO];simp
  rw[z,Bool.and_assoc];rfl
variable{pQ:Li (Ad×Obj)}{s:sH7}{A:Around}
def ZfW(X:Cx)(ad:Li Ad)(H:Hp)(v:V)(x:D):Prop:=∀ n m y,okD n x=true->okD m y=true->Den X.K ad H v y->x=y
theorem X3{n:Nat}{P:Prop}(h:okD n x=true)(a:∀ n,okD n x=false):P:=by rw[a]at h;cases h
theorem ZaO(i n:Nat):okD n (.lst i)=false:=by cases n<;>rfl
theorem ZaN(i n:Nat):okD n (.dic i)=false:=by cases n<;>rfl
theorem ZaP(i n:Nat):okD n (.obj i)=false:=by cases n<;>rfl
theorem ZdH(ks:Li Str)(n:Nat):okD n (.kt ks)=false:=by cases n<;>rfl
theorem ZaQ{xs:Li D}(h:okD n (.tup xs)=true):∃ m,ZT m xs=true:=by
 cases n with
 |zero=>cases h
 |succ n=>exact⟨n,h⟩
theorem Den.injP(J:∀ (a:Ad) (xs ys:Li V),TupAt X.K H a xs->TupAt X.K H a ys->xs=ys){v:V}(h:Den X.K ad H v x):ZfW X ad H v x:=
 Den.rec (motive_1:=λv x _=>ZfW X ad H v x) (motive_2:=λvs xs _=>∀ n m ys,ZT n xs=true->ZT m ys=true->Dens X.K ad H vs ys->xs=ys)
  (λ_ _ _ _ _ h=>by cases h;rfl) (λ_ _ _ _ _ _ h=>by cases h;rfl) (λ_ _ _ _ _ _ h=>by cases h;rfl) (λ_ _ _ _ _ _ h=>by cases h;rfl)
  (λe _ i n m y b c h=>by
   obtain⟨f,b⟩:=ZaQ b;cases h with
   |tup l d=>
    cases J _ _ _ e l
    obtain⟨g,c⟩:=ZaQ c;rw[i f g _ b c d]
   |lst _=>exact X3 c (ZaO _)
   |dic _ _=>exact X3 c (ZaN _)
   |obj _ _=>exact X3 c (ZaP _)
   |kt _ _ _ _ _ _=>exact X3 c (ZdH _))
  (λ_ _ _ _ b _ _=>X3 b (ZaO _)) (λ_ _ _ _ _ b _ _=>X3 b (ZaN _)) (λ_ _ _ _ _ b _ _=>X3 b (ZaP _)) (λ_ _ _ _ _ _ _ _ _ b _ _=>X3 b (ZdH _))
  (λ_ _ _ _ _ h=>by cases h;rfl)
  (λ_ _ k j n m ys b c h=>by
   cases h with
   |cons o d=>
    have b:=eC.mp b;have c:=eC.mp c;rw[k n m _ b.1 c.1 o,j n m _ b.2 c.2 d]) h
theorem Den.inj(J:∀ (a:Ad) (xs ys:Li V),TupAt X.K H a xs->TupAt X.K H a ys->xs=ys){v:V}{y:D}(c:okD n x=true)(b:okD m y=true)(h:Den X.K ad H v x)(d:Den X.K ad H v y):x=y:=h.injP J n m y c b d
theorem Dens.inj(J:∀ (a:Ad) (xs ys:Li V),TupAt X.K H a xs->TupAt X.K H a ys->xs=ys){xs ys:Li D}(c:ZT n xs=true)(b:ZT m ys=true)(h:Dens X.K ad H vs xs)(d:Dens X.K ad H vs ys):xs=ys:=by
 induction vs generalizing xs ys with
 |nil=>cases h;cases d;rfl
 |cons v vs f=>
  cases h with
  |cons a r=>cases d with
   |cons g e=>
    have c:=eC.mp c;have b:=eC.mp b;rw[a.inj J c.1 b.1 g,f c.2 b.2 r e]
open PySem.SeqAt in
theorem JQ(I:Inv X pQ O H s):∀ (n:Nat) (x y:D) (A:Around) (w v:V) (C B:vL),okD n x=true->okD n y=true->A.units+n < cLine->Den X.K ad H w x->Den X.K ad H v y->RelV w C->RelV v B->EqAt A s C B (Zr x y):=by
 intro n
 induction n with
 |zero=>
  intro x y A w v C B o g hu J k h d;cases J with
  |non=>
   cases h;cases k with
   |non=>cases d;exact EqAt.same _
   |int j=>obtain⟨c,rfl⟩:=d;exact EqAt.none_int j c
   |str j=>obtain⟨c,rfl⟩:=d;exact EqAt.none_str j c
   |_=>simp[okD]at g
  |int i=>
   obtain⟨t,rfl⟩:=h;cases k with
   |non=>cases d;exact EqAt.int_none i t
   |int j=>obtain⟨c,rfl⟩:=d;exact(show Zr (.int i) (.int j)=(i==j) from by rw[bO];simp[Zr]) ▸ EqAt.int_int i t j c
   |str j=>obtain⟨c,rfl⟩:=d;exact EqAt.int_str i t j c
   |_=>simp[okD]at g
  |str i=>
   obtain⟨t,rfl⟩:=h;cases k with
   |non=>cases d;exact EqAt.str_none i t
   |int j=>obtain⟨c,rfl⟩:=d;exact EqAt.str_int i t j c
   |str j=>obtain⟨c,rfl⟩:=d;exact(show Zr (.str i) (.str j)=(i==j) from by rw[bO];simp[Zr]) ▸ EqAt.str_str i t j c
   |_=>simp[okD]at g
  |_=>simp[okD]at o
 |succ n ih=>
  intro x y A w v C B o g hu J k h d;cases J with
  |non=>
   cases h;cases k with
   |non=>cases d;exact EqAt.same _
   |int j=>obtain⟨c,rfl⟩:=d;exact EqAt.none_int j c
   |str j=>obtain⟨c,rfl⟩:=d;exact EqAt.none_str j c
   |tup e r=>
    cases d;obtain⟨its,_,p,_⟩:=I.tuple ((e).sq);exact EqAt.none_tuple p (by omega)
   |_=>simp[okD]at g
  |int i=>
   obtain⟨t,rfl⟩:=h;cases k with
   |non=>cases d;exact EqAt.int_none i t
   |int j=>obtain⟨c,rfl⟩:=d;exact(show Zr (.int i) (.int j)=(i==j) from by rw[bO];simp[Zr]) ▸ EqAt.int_int i t j c
   |str j=>obtain⟨c,rfl⟩:=d;exact EqAt.int_str i t j c
   |tup e r=>
    cases d;obtain⟨its,_,p,_⟩:=I.tuple ((e).sq);exact EqAt.int_tuple i t p (by omega)
   |_=>simp[okD]at g
  |str i=>
   obtain⟨t,rfl⟩:=h;cases k with
   |non=>cases d;exact EqAt.str_none i t
   |int j=>obtain⟨c,rfl⟩:=d;exact EqAt.str_int i t j c
   |str j=>obtain⟨c,rfl⟩:=d;exact(show Zr (.str i) (.str j)=(i==j) from by rw[bO];simp[Zr]) ▸ EqAt.str_str i t j c
   |tup e r=>
    cases d;obtain⟨its,_,p,_⟩:=I.tuple ((e).sq);exact EqAt.str_tuple i t p (by omega)
   |_=>simp[okD]at g
  |@tup a xs ds e r=>
   cases h;obtain⟨its,F,p,_⟩:=I.tuple ((e).sq);cases k with
   |non=>cases d;exact EqAt.tuple_none p (by omega)
   |int j=>obtain⟨c,rfl⟩:=d;exact EqAt.tuple_int j c p (by omega)
   |str j=>obtain⟨c,rfl⟩:=d;exact EqAt.tuple_str j c p (by omega)
   |@tup b ys es Q E=>
    cases d;by_cases u:a=b
    .subst u
     have z:=Den.inj (λ_ _ _ e G=>I.tuple_inj e.sq G.sq) (n:=n+1) (m:=n+1) o g (Den.tup e r) (Den.tup Q E)
     cases z;rw[Y5 o];exact EqAt.same _
    .obtain⟨f,l,p',_⟩:=I.tuple ((Q).sq)
     refine EqAt.of_refs u ?_;have q:=RcAt.tuples (A:=A) (s:=s) (e:=λi=>Zr ((ds[i]?).getD .non) ((es[i]?).getD .non)) p p' (by omega) λj P N=>?_
     .have e1:its.toArray.size=ds.length:=by rw[aL,<-F.length,r.length]
      have G:f.toArray.size=es.length:=by rw[aL,<-l.length,E.length]
      rw[e1,G]at q;show RcAt A s (.ref a) (.ref b) (Zx ds es);rw[YD];exact q
     .have l1:j < ds.length:=by rw[<-r.length,F.length];simpa using P
      have l2:j < es.length:=by rw[<-E.length,l.length];simpa using N
      have g1:ds[j]?=some ds[j]:=lG7 l1;have g2:es[j]?=some es[j]:=lG7 l2;obtain⟨U,q1,d1⟩:=r.get g1;obtain⟨T,Z,d2⟩:=E.get g2;obtain⟨M,S,Y⟩:=F.get q1;obtain⟨L,R,W⟩:=l.get Z;have f1:its.toArray[j]=M:=by
       have:its[j]?=some (its[j]'(by simpa using P)):=lG7 _
       rw[S]at this;simpa using(Option.some.inj this).symm
      have f2:f.toArray[j]=L:=by
       have:f[j]?=some (f[j]'(by simpa using N)):=lG7 _
       rw[R]at this;simpa using(Option.some.inj this).symm
      rw[f1,f2,g1,g2];exact ih ds[j] es[j] A.in1 U T M L (Y1 o g1) (Y1 g g2) (by show A.units+1+n < cLine;omega) d1 d2 Y W
   |_=>simp[okD]at g
  |_=>simp[okD]at o
open PySem.SeqAt in
theorem UP(I:Inv X pQ O H s){a b:Ad}{xs:Li V}{its c:Li vL}(z:ZT n ds=true)(y:ZT n es=true)(hu:A.units+n+1 < cLine)(r:Dens X.K ad H xs ds)(h:Dens X.K ad H ys es)(g:Vals xs its)(d:Vals ys c)(j:Nat)(k:j < its.toArray.size)(i:j < c.toArray.size):EqAt A.in1 s its.toArray[j] c.toArray[j] (Zr ((ds[j]?).getD .non) ((es[j]?).getD .non)):=by
 have x:j < ds.length:=by rw[<-r.length,g.length];simpa using k
 have w:j < es.length:=by rw[<-h.length,d.length];simpa using i
 have g1:ds[j]?=some ds[j]:=lG7 x;have g2:es[j]?=some es[j]:=lG7 w;obtain⟨p,v,D⟩:=r.get g1;obtain⟨o,u,C⟩:=h.get g2;obtain⟨f,m,t⟩:=g.get v;obtain⟨e,l,q⟩:=d.get u;have f1:its.toArray[j]=f:=by
  have:its[j]?=some (its[j]'(by simpa using k)):=lG7 _
  rw[m]at this;simpa using(Option.some.inj this).symm
 have B:c.toArray[j]=e:=by
  have:c[j]?=some (c[j]'(by simpa using i)):=lG7 _
  rw[l]at this;simpa using(Option.some.inj this).symm
 rw[f1,B,g1,g2];exact JQ I n ds[j] es[j] A.in1 p o f e (Y1 z g1) (Y1 y g2) (by show A.units+1+n < cLine;omega) D C t q
open PySem.SeqAt in
theorem ZcB(I:Inv X pQ O H s){a b:Ad}{xs:Li V}(t:ZT n ds=true)(o:ZT n es=true)(hu:A.units+n+1 < cLine)(e:TupAt X.K H a xs)(r:Dens X.K ad H xs ds)(w:TupAt X.K H b ys)(g:Dens X.K ad H ys es):RcAt A s (.ref a) (.ref b) (Zx ds es)/\RcNeAt A s (.ref a) (.ref b) (!Zx ds es):=by
 obtain⟨its,f,p,_⟩:=I.tuple (e.sq);obtain⟨d,c,m,_⟩:=I.tuple (w.sq);have v:its.toArray.size=ds.length:=by rw[aL,<-f.length,r.length]
 have u:d.toArray.size=es.length:=by rw[aL,<-c.length,g.length]
 have q:=RcAt.tuples (A:=A) (s:=s) (e:=λi=>Zr ((ds[i]?).getD .non) ((es[i]?).getD .non)) p m (by omega) λj k h=>UP (a:=a) (b:=b) I t o hu r g f c j k h
 have l:=RcNeAt.tuples (A:=A) (s:=s) (e:=λi=>Zr ((ds[i]?).getD .non) ((es[i]?).getD .non)) p m (by omega) λj k h=>UP (a:=a) (b:=b) I t o hu r g f c j k h
 rw[v,u]at q l;rw[YD];exact⟨q,l⟩
variable [ClsTab]
section
variable{fo:Ev}
theorem VN(r:Ents K ad H kvs ds):kvs.length=ds.length:=by
 induction r with
 |nil=>rfl
 |cons _ _ a=>rw[aQ,aQ,a]
theorem Q0{x:Str}{v:V}(hd:Den K ad H v d)(r:Ents K ad H kvs ds):Ents K ad H (putF x v kvs) (Ym x d ds):=by
 induction r with
 |nil=>exact .cons hd .nil
 |@cons k w c kvs ds h r a=>
  show Ents K ad H (if k=x then (k,v) :: kvs else (k,w) :: putF x v kvs) (if decide (k=x)=true then .tup [.str x,d] :: ds else .tup [.str k,c] :: Ym x d ds)
  by_cases q:k=x
  .rw[if_pos q,if_pos (aG q),q];exact .cons hd r
  .rw[if_neg q,if_neg (λz=>q (of_decide_eq_true z))];exact .cons h a
theorem Q1{x:Str}(r:Ents K ad H kvs ds)(e:Yl ds x=some d):∃ v,kvs.lookup x=some v/\Den K ad H v d:=by
 induction r with
 |nil=>exact Zb e
 |@cons k w c kvs ds h r a=>
  by_cases q:k=x
  .subst q
   unfold Yl at e;rw[List.find?_cons_of_pos (show isK k (.tup [.str k,c])=true from aG rfl)]at e;cases e;exact⟨w,by rw[bJ,beq_self_eq_true],h⟩
  .unfold Yl at e
   rw[eO (show ¬isK x (.tup [.str k,c])=true from λz=>q (of_decide_eq_true z))]at e
   obtain⟨v,f,b⟩:=a e;exact⟨v,by rw[bJ,show(x==k)=false from bW.mpr λz=>q z.symm];exact f,b⟩
theorem Zag{x:Str}(u:fldNames.contains x=true)(D:Ends)(O:L2.St)(H:Hp)(h:tS K (VQ i x fe) D O H):sFld K (tVar i) (tE K fe) x D O H:=by
 obtain⟨ad,U,st,r,st',E,S,e,p⟩:=ZF h;unfold VQ at e;split at e
 .rename_i d m C
  split at e
  .rename_i a F
   split at e
   .rename_i c es t
    split at e
    .rename_i M
     cases e;obtain⟨v,J,I⟩:=E.at_ i _ F;obtain⟨l,rfl,g,n⟩:=I.ofDic;refine⟨ad,U,st,d,m,E,S,C,λw b B f A L=>⟨_,J,?_⟩⟩
     obtain⟨j,y,kvs,rfl,r,o,_,oc,G⟩:=A.obj (f.pre _ _ g) ((f.kd _ _ g).mp n) t;have s:∀ fs,Ext b B b (upd B l (.ins (ClsTab.ca j) y fs)):=λfs=>Ext.writeM o rfl rfl (aZ (f.pre _ _ g))
     refine⟨l,_,y,kvs,rfl,o,oc.cl,oc.na x u,by rw[VN r];omega,?_⟩
     exact p _ b _ (f.trans (s _)) (A.writeO (f.pre _ _ g) t o oc (Q0 L r) λk q=>by
      rw[lookup_putF,if_neg (λz=>by rw[z,u]at q;cases q)]
      exact G k q) (E.mono (f.trans (s _)))
    .exact Zb e
   .exact Zb e
  .exact Zb e
 .exact Zb e
theorem EntN.length(r:EntN K ad H xs ds):xs.length=ds.length:=by
 induction r with
 |nil=>rfl
 |cons _ _ _ _ a=>rw[aQ,aQ,a]
theorem EntN.keys{xs:Li (D×Ad×Ot Ad)}(r:EntN K ad H xs ds):∀ x∈xs,Den K ad H (.ref x.2.1) x.1/\okN 8 x.1=true:=by
 induction r with
 |nil=>exact λx hx=>(nomatch hx)
 |cons h ok _ _ a=>
  intro x hx;rcases aH.mp hx with rfl|hx
  .exact⟨h,ok⟩
  .exact a x hx
theorem EntN.snoc{f:Ad}{e:Ot Ad}(r:EntN K ad H xs ds)(h:Den K ad H (.ref f) k)(ok:okN 8 k=true)(v:Den K ad H (toV e) d):EntN K ad H (xs++[(k,f,e)]) (ds++[.tup [k,d]]):=by
 induction r with
 |nil=>exact .cons h ok v .nil
 |cons a b c _ g=>exact .cons a b c g
theorem Qw:∀ {n:Nat}{d:D},okN n d=true->okD n d=true:=by
 intro n
 induction n using Nat.strongRecOn with
 |_ n b=>
  intro d h;cases okW h with
  |int _ i=>cases n<;>rfl
  |str _ i=>cases n<;>rfl
  |@tup n ds ok=>
   show ZT n ds=true;clear h
   induction ds with
   |nil=>cases n<;>rfl
   |cons d ds a=>
    rw[bA,bA7]at ok;rw[ZT,b n (bS n) ok.1,a ok.2];rfl
theorem EntN.look{xs:Li (D×Ad×Ot Ad)}(r:EntN K ad H xs ds)(ok:okN 8 k=true):(∃ z d,(z∈xs/\z.1=k)/\ZY ds k=some d/\Den K ad H (toV z.2.2) d)\/((∀ x∈xs,x.1≠k)/\ZY ds k=none):=by
 induction r with
 |nil=>exact .inr ⟨λx hx=>(nomatch hx),rfl⟩
 |@cons f d j g xs ds h i v r l=>
  by_cases q:f=k
  .refine .inl ⟨(f,j,g),d,⟨lQ7,q⟩,?_,v⟩
   unfold ZY;rw[List.find?_cons_of_pos (show XT k (.tup [f,d])=true by rw[q];exact Y5 (Qw ok))]
   rfl
  .have e:ZY (.tup [f,d] :: ds) k=ZY ds k:=by
    unfold ZY;rw[eO (show ¬XT k (.tup [f,d])=true from λz=>q (Qc z))]
   rw[e];rcases l with⟨z,m,⟨a,b⟩,c⟩|⟨a,b⟩
   .exact .inl ⟨z,m,⟨lM7 _ a,b⟩,c⟩
   .refine .inr ⟨λx hx=>?_,b⟩
    rcases aH.mp hx with rfl|hx
    .exact q
    .exact a x hx
theorem EntN.any{xs:Li (D×Ad×Ot Ad)}(r:EntN K ad H xs ds)(ok:okN 8 k=true)(e:ds.any (XT k)=false):∀ x∈xs,x.1≠k:=by
 induction r with
 |nil=>exact λx hx=>(nomatch hx)
 |@cons a d i g xs ds h c v r f=>
  rw[cP,Bool.or_eq_false_iff]at e;intro x hx;rcases aH.mp hx with rfl|hx
  .intro q
   have b:Zr a k=false:=e.1;rw[show a=k from q,Y5 (Qw ok)]at b;cases b
  .exact f e.2 x hx
theorem ZbM{a:Nat}(h:dput a k d st=some st'):∃ xs,st[a]?=some (true,xs)/\((Xj xs=false/\okN 8 k=true)/\Ww d=true/\xs.length < Zm)/\((xs.any (XT k)=false/\st'=st.set a (true,xs++[.tup [k,d]]))\/((UO (ZY xs k)=true/\UO (some d)=true)/\st'=st.set a (true,xs))):=by
 unfold dput at h;split at h
 .rename_i xs q
  split at h
  .rename_i c
   split at h
   .rename_i n
    cases h;exact⟨xs,q,c,.inl ⟨n,rfl⟩⟩
   .split at h
    .rename_i n
     cases h;exact⟨xs,q,c,.inr ⟨n,rfl⟩⟩
    .exact Zb h
  .exact Zb h
 .exact Zb h
theorem JM{v:V}(h:Den K ad H v d)(q:Ww d=true):∃ a,v=toV a/\(UO (some d)=true->a=none):=by
 cases d with
 |tup es=>obtain⟨a,_,z,_,_⟩:=h.ofTup;exact⟨some a,z,λq=>nomatch q⟩
 |bl b=>cases h;cases b with
  |true=>exact⟨none,rfl,λ_=>rfl⟩
  |false=>cases q
 |_=>cases q
theorem VW(D:Ends)(O:L2.St)(H:Hp)(h:tS K (Wn fo fk fe) D O H):tAsg (tE K fe) (gSub (tE K fo) (tE K fk) (ZdJ K)) D O H:=by
 obtain⟨ad,U,st,r,st',E,S,e,p⟩:=ZF h;unfold Wn at e;split at e
 .rename_i d m q1
  split at e
  .rename_i a k q2
   split at e
   .rename_i ks A Z
    split at e
    .rename_i X Y
     cases e;obtain⟨ds,B,⟨⟨ob,ok⟩,V,P⟩,hq⟩:=ZbM Y;refine⟨ad,U,st,d,m,E,S,q1,λw J H1 i S1 R=>⟨J,U,m,.dic a,k,E.mono i,S1,q2,λw2 I H2 g S2 d2=>⟨I,U,k,.tup ks,A,E.mono (i.trans g),S2,Z,λw3 c T f L v=>?_⟩⟩⟩
     obtain⟨l,rfl,s,n⟩:=d2.ofDic;obtain⟨b,_,rfl,_,_⟩:=v.ofTup;obtain⟨M,rfl,ht⟩:=JM R V;obtain⟨xs,⟨r,u⟩,o,_⟩:=L.dict (f.pre _ _ s) ((f.kd _ _ s).mp n) B ob;have t:∀ fs,Ext c T c (upd T l (.dN fs)):=λfs=>Ext.writeM o rfl rfl (aZ (f.pre _ _ s))
     rcases hq with⟨hn,rfl⟩|⟨⟨j,W⟩,rfl⟩
     .have N:=r.any ok hn
      refine⟨l,b,M,xs,.tup ks,c,⟨rfl,rfl,rfl⟩,⟨o,u,v,ok,r.keys⟩,by rw[r.length];exact aS P (by decide),.inl ⟨N,?_⟩⟩
      refine p _ c _ (i.trans (g.trans (f.trans (t _)))) (L.writeD (f.pre _ _ s) B o (r.snoc v ok (R.mono (g.trans f))) ?_) (E.mono (i.trans (g.trans (f.trans (t _)))));rw[bN,dC];refine⟨u,bM.mpr ⟨(λh=>nomatch h),bH⟩,λx hx y hy e=>?_⟩
      rw[aJ.mp (show y∈[Dp.D.tup ks] from hy)]at e;obtain⟨z,C,rfl⟩:=aR.mp hx;exact N z C e
     .refine⟨l,b,M,xs,.tup ks,c,⟨rfl,rfl,rfl⟩,⟨o,u,v,ok,r.keys⟩,by rw[r.length];exact aS P (by decide),.inr ⟨?_,?_⟩⟩
      .rcases r.look ok with⟨z,d0,Q,G,e3⟩|⟨_,G⟩
       .rw[G]at j
        obtain⟨v2,F,e5⟩:=JM e3 (by cases d0 with|bl b=>exact j|_=>cases j)
        refine⟨z,Q.1,Q.2,?_⟩;rw[ht W];rw[e5 j]at F;cases q:z.2.2 with
        |none=>rfl
        |some a=>rw[q]at F;cases F
       .rw[G]at j;cases j
      .exact p _ c _ (i.trans (g.trans (f.trans (t _)))) (L.writeD (f.pre _ _ s) B o r u) (E.mono (i.trans (g.trans (f.trans (t _)))))
    .exact Zb e
   .exact Zb e
  .exact Zb e
 .exact Zb e
end
end Dp
namespace Dp
open PySem PySem.Spec PyProof.Rows L2 Builtin Builtin.Str
variable [ClsTab]
section
variable{X:Cx}{tg:Expr}
end
end Dp
namespace Dp
open PySem PySem.Spec PyProof.Rows L2
variable [ClsTab]
variable{X:Cx}{pQ:Li (Ad×Obj)}{O:L2.St}{H:Hp}{Q:VK}
section
open Builtin
open AutoSeq1 (wpAny_loadPart')
theorem XV:fillsNumberSlot (.type "tuple") "mul"=pure false:=
 PySem.fillsNumberSlot_seq (id := "tuple.__mul__") (r:=some (.builtin "tuple.__rmul__")) F.slot_tuple_mul.lookup (by decide +kernel) F.slot_tuple_rmul.lookup (by decide +kernel)
theorem Vr:seqRepeat? (.type "tuple")=pure (some (.builtin "tuple.__mul__")):=by
 unfold seqRepeat?
 rw[PySem.seqSlot_of (T := "tuple") (name := "__mul__") (id := "tuple.__mul__") F.slot_tuple_mul.lookup (by decide +kernel),PySem.seqSlot_of (T := "tuple") (name := "__rmul__") (id := "tuple.__rmul__") F.slot_tuple_rmul.lookup (by decide +kernel)]
 rfl
theorem U0(a:Int)(t:Tok)(l:Ad)(b:Array vL)(n:Nat)(e:Ot Ad)(sl:Array (Ot vL)):Meets (Builtin.«int.__rmul__» ⟨[.int a t,.ref l],[]⟩) (λ_ R s=>s.heap.get? l=some { cls:=.type "tuple",dict:=e,data:=.seq b n,slots:=sl }/\R (.ok (.ret Value.notImplemented)) s):=
 .of_wp λc w A R s h=>by obtain⟨j,g,d,f,i⟩:=s;obtain⟨k,h⟩:=h;wp_walk;exact⟨_,rfl,h⟩
theorem Zbi(l:Ad)(a:Array vL)(n:Nat)(e:Ot Ad)(sl:Array (Ot vL))(u:Tok) :
  Meets (Builtin.«tuple.__mul__» ⟨[.ref l,.int 1 u],[]⟩) (λ_ R s=>s.heap.get? l=some { cls:=.type "tuple",dict:=e,data:=.seq a n,slots:=sl }/\R (.ok (.ret (Value.ref l))) s):=
 .of_wp λb w A R s h=>by
  obtain⟨j,g,d,f,i⟩:=s;obtain⟨c,h⟩:=h;have f1:=AutoSeq1.idx_int;wp_walk using wpAny_loadPart' c;exact⟨_,rfl,h⟩
theorem Zbh(l:Ad)(items:Array vL)(n:Nat)(f:Ot Ad)(sl:Array (Ot vL))(k:Int)(u:Tok)(e:¬items.isEmpty=true)(c:k<=0)(q:-1000<=k) :
  Meets (Builtin.«tuple.__mul__» ⟨[.ref l,.int k u],[]⟩) (λ_ R s=>s.heap.get? l=some { cls:=.type "tuple",dict:=f,data:=.seq items n,slots:=sl }/\R (.ok (.ret (Value.ref s.heap.objs.size))) { s with heap:=s.heap.push { cls:=.type "tuple",data:=.seq #[] } }):=
 .of_wp λb w A R s h=>by
  obtain⟨p,g,d,m,o⟩:=s;obtain⟨a,h⟩:=h;have f1:=AutoSeq1.idx_int;have j:(decide (k < -(2 ^ 63))||decide (k>=2 ^ 63))=false:=by rw[aF (by omega),aF (by omega)];rfl
  have i:(items.isEmpty||k==1)=false:=by
   have:(k==1)=false:=by rw[bW];omega
   rw[this,Bool.or_false];simpa using e
  have r:(decide (k<=0)||items.isEmpty)=true:=by rw[aG c];rfl
  wp_walk using wpAny_loadPart' a
  refine wpAny_ite_false (by rw[j];rfl) ?_
  wp_walk using wpAny_loadPart' a
  refine wpAny_ite_false (by rw[i];rfl) ?_
  wp_walk using wpAny_loadPart' a
  exact⟨_,rfl,h⟩
theorem Zbj(l:Ad)(items:Array vL)(n:Nat)(j:Ot Ad)(sl:Array (Ot vL))(k:Int)(u:Tok)(b:items.size=1)(B:2<=k)(y:k<=1000) :
  Meets (Builtin.«tuple.__mul__» ⟨[.ref l,.int k u],[]⟩) (λ_ R s=>s.heap.get? l=some { cls:=.type "tuple",dict:=j,data:=.seq items n,slots:=sl }/\R (.ok (.ret (Value.ref s.heap.objs.size))) { s with heap:=s.heap.push { cls:=.type "tuple",data:=.seq ((List.replicate k.toNat items).foldl (λe c=>e++c) #[]) } }):=
 .of_wp λf w A R s h=>by
  obtain⟨x,g,d,t,v⟩:=s;obtain⟨a,h⟩:=h;have f1:=AutoSeq1.idx_int;have r:(decide (k < -(2 ^ 63))||decide (k>=2 ^ 63))=false:=by rw[aF (by omega),aF (by omega)];rfl
  have i:items.isEmpty=false:=by
   rw[Array.isEmpty_eq_false_iff];intro z;rw[z]at b;simp at b
  have q:(items.isEmpty||k==1)=false:=by
   have:(k==1)=false:=by rw[bW];omega
   rw[this,Bool.or_false];exact i
  have p:(decide (k<=0)||items.isEmpty)=false:=by rw[aF (by omega),i];rfl
  have o:decide ((items.size:Int) * k > (2 ^ 63 - 1) / 8)=false:=by rw[b];exact aF (by omega)
  have m:Tuple.tupleTooMany ((items.size:Int) * k)=false:=by
   unfold Tuple.tupleTooMany;rw[b];exact aF (by have:(sizeLine:Int)>=1000:=(by decide);omega)
  have C:decide (((List.replicate k.toNat items).foldl (λe c=>e++c) #[]).size > sizeLine)=false:=by
   rw[AutoListH.size_joined];refine aF ?_;have:sizeLine>=1000:=by decide
   simp only[b,Array.size_empty];omega
  wp_walk using wpAny_loadPart' a
  refine wpAny_ite_false (by rw[r];rfl) ?_
  wp_walk using wpAny_loadPart' a
  refine wpAny_ite_false (by rw[q];rfl) ?_
  wp_walk using wpAny_loadPart' a
  refine wpAny_ite_false (by rw[p];rfl) ?_
  wp_walk using wpAny_loadPart' a
  refine wpAny_ite_false o ?_
  wp_walk using wpAny_loadPart' a
  refine wpAny_ite_false (by rw[m];rfl) ?_
  wp_walk using wpAny_loadPart' a
  exact⟨_,rfl,h⟩
theorem ZcD{s:sH7}{a:Ad}{v:V}{k:Int}{t:Tok}(I:L2.Inv X pQ O H s)(L:TupAt X.K H a [v])(N:k<=1000)(M:-1000<=k)(G:k=1->Q (.ref a) H)(E:∀ p,H p=none->Q (.ref p) (upd H p (.tup (List.replicate k.toNat v)))):wpAny (model X.prog X.w) X.A (binaryOp .Mult (.ref a) (.int k t)) (EP X pQ O Q) X.xe s:=by
 obtain⟨its,r,J,_⟩:=I.tuple (L.sq);obtain⟨u,rfl,C⟩:=r.one;obtain⟨⟨Y,g,W,sl⟩,d,m,n,l⟩:=id J;simp only at m l;subst m l;have f:∀ c:Li vL,Vals (List.replicate k.toNat v) c->EP X pQ O Q (.ref s.heap.objs.size) { s with heap:=s.heap.push { cls:=.type "tuple",data:=.seq c.toArray } }:=λc D=>
  ⟨.ref s.heap.objs.size,_,I.laid (t':=s.toks) (o:=.tup (List.replicate k.toNat v)) (λb S q=>aO _ q) (aD _) ⟨by rw[cJ];exact aP (show k.toNat<=1000 by omega) (by decide),c,D,IsTup.new _ _⟩,rfl,E _ (I.hok.fresh (aD _))⟩
 refine wpAny_binaryOp_repeat_ref (T := "tuple") (U := "int") (by decide) ⟨_,d,rfl⟩ (λB=>typeIs_int B k t) XV F.fills_int_mul F.slot_int_rmul Vr F.slot_int_index.lookup
  (call_meets F.slot_int_rmul (typeIs_int s k t) F.entry_int_rmul (F.args_int_rmul_2 _ _) (U0 k t a _ n g sl) ⟨d,rfl,⟨_,d,rfl⟩,?_⟩)
 by_cases P:k=1
 .subst P
  exact call_meets F.slot_tuple_mul ⟨_,d,rfl⟩ F.entry_tuple_mul (F.args_tuple_mul_2 _ _) (Zbi a _ n g sl t) ⟨d,⟨.ref a,H,I,rfl,G rfl⟩⟩
 .by_cases R:k<=0
  .refine call_meets F.slot_tuple_mul ⟨_,d,rfl⟩ F.entry_tuple_mul (F.args_tuple_mul_2 _ _) (Zbh a _ n g sl k t (by simp) R M) ⟨d,?_⟩
   have z:k.toNat=0:=by omega
   exact f [] (by rw[z];exact .nil)
  .refine call_meets F.slot_tuple_mul ⟨_,d,rfl⟩ F.entry_tuple_mul (F.args_tuple_mul_2 _ _) (Zbj a _ n g sl k t (by simp) (by omega) N) ⟨d,?_⟩
   have e:List.foldl (λy x=>y++x) #[] (List.replicate k.toNat [u].toArray)=(List.replicate k.toNat u).toArray:=by
    have i:=foldl_rep [u] k.toNat [];rw[dL]at i;rw[show([]:Li vL).toArray=#[] from rfl]at i;rw[i]
    congr 1
    generalize k.toNat=j
    induction j with
    |zero=>rfl
    |succ j h=>rw[bY,cZ,h,bY];rfl
   rw[e];refine f _ ?_;generalize k.toNat=j
   induction j with
   |zero=>exact .nil
   |succ j h=>exact .cons C h
end
theorem Z6:Zm<=sizeLine:=by decide
variable{ys vs:Li V}{op:Operator}{u:vL}{ds:Li D}{ad:Li Ad}{d:D}{st:Za}{lo hi:Ot Int}{prog:Program}{w:World}{A:Around}{E:vL->sH7->Prop}{items:Array vL}{k:Bool}
variable{X:Cx}
theorem US{i:Int}(h:ZU i=true):-(2 ^ 64) < i/\i < 2 ^ 64:=by
 unfold ZU at h;rw[bA7]at h;exact⟨of_decide_eq_true h.1,of_decide_eq_true h.2⟩
theorem ZbG{s:sH7}{a b:Ad}{xs:Li V}(I:Inv X pQ O H s)(o:TupAt X.K H a xs)(m:TupAt X.K H b ys)(z:xs.length+ys.length<=sizeLine)(u:xs=[]->Q (.ref b) H)(t:ys=[]->Q (.ref a) H)(r:∀ p,H p=none->Q (.ref p) (upd H p (.tup (xs++ys)))):wpAny (model X.prog X.w) X.A (binaryOp .Add (.ref a) (.ref b)) (EP X pQ O Q) X.xe s:=by
 by_cases h:xs=[]
 .obtain⟨its,q,x,_⟩:=I.tuple (o.sq)
  obtain⟨c,E,v,_⟩:=I.tuple (m.sq);have B:its=[]:=q.nil_iff.mpr h;subst B;obtain⟨⟨L,D,G,sl⟩,j,l,n,k⟩:=id x;obtain⟨⟨J,i,C,g⟩,d,f,y,e⟩:=id v;simp only at l k f e;subst l k f e;exact concat_meets ⟨_,j,rfl⟩ ⟨_,d,rfl⟩ noFill_tuple_add seq_tuple_add PySem.F.slot_tuple_add PySem.F.entry_tuple_add (PySem.F.args_tuple_add_2 _ _)
   (tuple_addW0 a b #[] c.toArray n y D i sl g rfl) ⟨j,d,⟨.ref b,H,I,rfl,u h⟩⟩
 .exact op_catT pQ s O H (.ref a) (.ref b) _ _ Q I rfl rfl ⟨a,b,xs,ys,rfl,rfl,(o).sq,(m).sq,h,z,t,λ_=>r⟩
theorem Jx{i j:Int}(hi:0<=i)(b:0<=j):Builtin.bitOr i j=((i.toNat ||| j.toNat:Nat):Int):=by
 unfold Builtin.bitOr;have n:∀ {k:Int},0<=k->decide (0<=Builtin.bitNot k)=false:=λ{k} h=>by unfold Builtin.bitNot;exact aF (by omega)
 have a:∀ k:Int,Builtin.bitNot (Builtin.bitNot k)=k:=λk=>by unfold Builtin.bitNot;omega
 have e:Builtin.bitAnd (Builtin.bitNot i) (Builtin.bitNot j)=Builtin.bitNot ((Builtin.bitNot (Builtin.bitNot i)).toNat ||| (Builtin.bitNot (Builtin.bitNot j)).toNat:Nat):=by
  unfold Builtin.bitAnd;rw[n hi,n b]
 rw[e,a,a,a]
theorem Zct{i j k:Int}{s:sH7}{v:vL}(I:L2.Inv X pQ O H s)(c:RelV (.int i) v)(b:RelV (.int j) u)(e:ZbC op i j=some k)(p:Q (.int k) H) :
  wpAny (model X.prog X.w) X.A (binaryOp op v u) (EP X pQ O Q) X.xe s:=by
 unfold ZbC at e;split at e
 .cases e
  exact op_add pQ s O H _ _ v u Q I c b ⟨_,_,rfl,rfl,p⟩
 .cases e
  exact op_sub pQ s O H _ _ v u Q I c b ⟨_,_,rfl,rfl,p⟩
 .split at e
  .rename_i a
   cases e;refine op_mul pQ s O H _ _ v u Q I c b ⟨_,_,rfl,rfl,?_,p⟩;rw[cC]at a;exact a.elim (λz=>.inl (US z)) λz=>.inr (US z)
  .cases e
 .split at e
  .rename_i a
   cases e;exact op_fdiv pQ s O H _ _ v u Q I c b ⟨_,_,rfl,rfl,a,p⟩
  .split at e
   .rename_i a
    cases e;exact op_fdivN pQ s O H _ _ v u Q I c b ⟨_,_,rfl,rfl,⟨by omega,by omega⟩,p⟩
   .cases e
 .split at e
  .rename_i a
   cases e;exact op_mod pQ s O H _ _ v u Q I c b ⟨_,_,rfl,rfl,a,p⟩
  .split at e
   .rename_i a
    cases e;exact op_modN pQ s O H _ _ v u Q I c b ⟨_,_,rfl,rfl,(by omega),p⟩
   .cases e
 .split at e
  .rename_i a
   cases e;have:=US a.2.2;exact op_shl pQ s O H _ _ v u Q I c b ⟨_,_,rfl,rfl,⟨a.1,by omega,by omega⟩,p⟩
  .cases e
 .split at e
  .rename_i a
   cases e;refine op_or pQ s O H _ _ v u Q I c b ⟨_,_,rfl,rfl,?_⟩;dsimp only;rw[Jx a.1 a.2];exact p
  .cases e
 .cases e
theorem QT{s:sH7}{a b:Ad}{xs:Li V}(I:L2.Inv X pQ O H s)(B:SqL X.K H a xs)(z:SqL X.K H b ys)(G:xs.length+ys.length<=sizeLine)(q:∀ p,H p=none->Q (.ref p) (upd H p (.lst (xs++ys)))):wpAny (model X.prog X.w) X.A (binaryOp .Add (.ref a) (.ref b)) (EP X pQ O Q) X.xe s:=by
 obtain⟨its,r,x,_⟩:=I.list B;obtain⟨c,k,v,_⟩:=I.list z;obtain⟨⟨cls,C,t,sl⟩,l,o,n,m⟩:=id x.isList;obtain⟨⟨u,i,j,h⟩,d,g,y,f⟩:=id v.isList;simp only at o m g f;subst o m g f;have e:its.toArray++c.toArray=(its++c).toArray:=by simp
 have E:=r.length;have D:=k.length;refine concat_meets ⟨_,l,rfl⟩ ⟨_,d,rfl⟩ noFill_list_add seq_list_add PySem.F.slot_list_add PySem.F.entry_list_add (PySem.F.args_list_add_2 _ _) (list_addW a b its.toArray c.toArray n y C i sl h (by simp;omega)) ⟨l,d,?_⟩
 rw[e];exact⟨.ref _,_,I.lnew (t':=s.toks) (r.append k) (by rw[aK];omega),rfl,q _ I.fresh⟩
theorem Uy(h:Wu op=true):op=.Add:=by cases op<;>first|rfl|cases h
theorem ZaH(h:Zar op=true):op=.Mult:=by cases op<;>first|rfl|cases h
theorem Zcs:OpR X (binaryOp op) (rD X.K (WI op)):=by
 intro pQ s O H x y v u Q I r o h;obtain⟨ad,st,R,P,d,st',S,m,l,e,p⟩:=h;unfold WI at e;split at e
 .split at e
  .rename_i k q
   cases e;cases m;cases l
   exact Zct I r o q (p.at S (.int _))
  .exact Zb e
 .split at e
  .rename_i i
   cases Uy i.1
   have g:=i.2;cases e;obtain⟨a,xs,rfl,j,c⟩:=m.ofTup;obtain⟨b,ys,rfl,E,A⟩:=l.ofTup;cases r;cases o
   refine ZbG I j E (by rw[c.length,A.length];exact aP g Z6) (λz=>?_) (λz=>?_) λq f=>?_
   .subst z;cases c
    exact p.at S l
   .subst z;cases A
    rw[bC]at p;exact p.at S m
   .exact p _ ad _ (Ext.laid f) (S.laid f) (.tup (.inl upd_same) ((c.append A).mono (Ext.laid f)))
  .exact Zb e
 .split at e
  .rename_i i
   cases ZaH i
   obtain⟨a,xs,rfl,j,c⟩:=m.ofTup;cases l;cases r;obtain⟨t,rfl⟩:=o;cases c with
   |nil=>exact Zb e
   |cons B c=>cases c with
    |cons _ _=>exact Zb e
    |nil=>
     have e:(if _/\_ then some (D.tup (List.replicate _ _),st) else none)=some (d,st'):=e
     split at e
     .rename_i g
      cases e;refine ZcD I j g.1 g.2 (λz=>?_) λq f=>p _ ad _ (Ext.laid f) (S.laid f) (.tup (.inl upd_same) ((Dens.rep B _).mono (Ext.laid f)))
      subst z;exact p.at S (.tup j (.cons B .nil))
     .exact Zb e
  .exact Zb e
 .split at e
  .rename_i n
   cases Uy n
   unfold QS at e;split at e
   .rename_i xs ys C G
    split at e
    .rename_i g
     cases e;obtain⟨a,rfl,j⟩:=m.ofLst;obtain⟨b,rfl,E⟩:=l.ofLst;obtain⟨vs,c,F⟩:=S.list j C;obtain⟨N,A,L⟩:=S.list E G;cases r;cases o
     refine QT I F L (by rw[c.length,A.length];exact aP g Z6) λq f=>?_
     refine p _ (ad++[q]) _ (Ext.push f) (S.push f (c.append A)) (.newL ?_);rw[<-S.len];exact ZB
    .exact Zb e
   .exact Zb e
  .exact Zb e
 .split at e
  .rename_i n
   cases ZaH n
   unfold ZcC at e;split at e
   .rename_i z C
    split at e
    .rename_i g
     cases e;obtain⟨a,rfl,j⟩:=m.ofLst;obtain⟨vs,c,F⟩:=S.listM j C;cases l;cases c with
     |cons B c=>
      cases c;rename_i w;refine op_rep pQ s O H _ _ v u Q I r o ⟨a,_,[w],rfl,rfl,F,by omega,by omega,?_,λq f=>?_⟩
      .rw[eL,Nat.one_mul]
       exact aP (show _<=1000 by omega) (by decide)
      .have M:∀ k:Nat,(List.replicate k [w]).flatten=List.replicate k w:=λk=>by
        induction k with
        |zero=>rfl
        |succ k J=>rw[bY,cZ,J,bY];rfl
       rw[M];refine p _ (ad++[q]) _ (Ext.push f) (S.push f (Dens.rep B _)) (.newL ?_);rw[<-S.len];exact ZB
    .exact Zb e
   .exact Zb e
  .exact Zb e
 .split at e
  .rename_i g
   cases Uy g.1
   cases e;cases m;cases l
   exact op_add_str pQ s O H _ _ v u Q I r o ⟨_,_,rfl,rfl,aP g.2 Z6,p.at S (.str _)⟩
  .exact Zb e
 .exact Zb e
theorem Zdc:UnR X (unaryOp .USub) (rU1 X.K ZeJ):=by
 intro pQ s O H x v Q I a h;obtain⟨ad,st,c,d,st',S,b,e,p⟩:=h;unfold ZeJ at e;split at e
 .cases e;cases b
  exact un_neg pQ s O H _ v Q I a ⟨_,rfl,p.at S (.int _)⟩
 .exact Zb e
theorem UB{xs:Li V}{i:Int}(r:Dens X.K ad H xs ds)(e:atD ds i=some d):∃ v,atI xs i=some v/\Den X.K ad H v d:=by
 unfold atD at e;have a:L2.ixN xs.length i=Dp.ixN ds.length i:=by rw[r.length];rfl
 cases q:Dp.ixN ds.length i with
 |none=>rw[q]at e;cases e
 |some j=>
  rw[q]at e;obtain⟨v,c,b⟩:=r.get (i:=j) e;refine⟨v,?_,b⟩;unfold atI;rw[a,q];exact c
theorem XE{ad:Li Ad}{H:Hp}{k:Str}:∀ {ks:Li Str}{vs:Li V}{ds:Li D},Dens X.K ad H vs ds->ks.length=vs.length->
  (∃ v d,valV ((ks.zip vs).map λp=>((Sum.inr p.1:Key),p.2)) (Sum.inr k)=some v/\Z2 ks ds k=some d/\Den X.K ad H v d)\/(valV ((ks.zip vs).map λp=>((Sum.inr p.1:Key),p.2)) (Sum.inr k)=none/\Z2 ks ds k=none)
 |[],_,_,.nil,_=>.inr ⟨rfl,rfl⟩
 |[],_,_,.cons _ _,h=>by simp at h
 |_ :: _,_,_,.nil,h=>by simp at h
 |x :: ks,v :: vs,d :: ds,.cons b r,h=>by
  by_cases e:x=k
  .subst e
   exact .inl ⟨v,d,valV_pos rfl,by simp[Z2],b⟩
  .have a:=XE (k:=k) r (by simpa using h)
   have f:valV (((x :: ks).zip (v :: vs)).map λp=>((Sum.inr p.1:Key),p.2)) (Sum.inr k)=valV ((ks.zip vs).map λp=>((Sum.inr p.1:Key),p.2)) (Sum.inr k):=valV_neg (p:=(Sum.inr x,v)) (by intro z;exact e (Sum.inr.inj z))
   have c:Z2 (x :: ks) (d :: ds) k=Z2 ks ds k:=by simp[Z2,e]
   rw[f,c];exact a
theorem JL{ks:Li D}{a:Nat}{o:Ot D}(h:dAt ks a st=some o):∃ b xs,st[a]?=some (b,xs)/\(Xj xs=false/\okN 8 (.tup ks)=true)/\o=ZY xs (.tup ks):=by
 unfold dAt at h;split at h
 .rename_i b xs q
  split at h
  .rename_i c
   cases h;exact⟨b,xs,q,c,rfl⟩
  .exact Zb h
 .exact Zb h
theorem Zf5{x:Str}{i:Int}(q:atD ((chS x).map D.str) i=some d):∃ c,atI x.cps.toList i=some c/\d=.str ⟨#[c]⟩:=by
 unfold atD at q;unfold atI;have b:((chS x).map D.str).length=x.cps.toList.length:=by simp[chS]
 rw[b]at q;show ∃ c,(Dp.ixN x.cps.toList.length i).bind (λj=>x.cps.toList[j]?)=some c/\_
 cases e:Dp.ixN x.cps.toList.length i with
 |none=>rw[e]at q;cases q
 |some j=>
  rw[e]at q;have q:((chS x).map D.str)[j]?=some d:=q;unfold chS at q;rw[aT,aT]at q;show ∃ c,x.cps.toList[j]?=some c/\_;cases a:x.cps.toList[j]? with
  |none=>rw[a]at q;cases q
  |some c=>rw[a]at q;cases q;exact⟨c,rfl,rfl⟩
theorem Zhj(hu:X.A.units+64 < cLine):IxR X (rD X.K ixR):=by
 intro f slice pQ s O H x y v u Q I m l h B;obtain⟨ad,st,Z,Y,d,st',S,t,j,e,p⟩:=h;unfold ixR at e;split at e
 .rename_i d' q
  cases e;unfold ixD at q;split at q
  .obtain⟨a,xs,rfl,k,r⟩:=t.ofTup
   cases j;obtain⟨w,i,g⟩:=UB r q;exact ix_tup f slice pQ s O H _ _ v u Q I m l ⟨a,xs,_,w,rfl,rfl,(k).sq,i,p.at S g⟩ B
  .split at q
   .rename_i C
    obtain⟨a,rfl,k⟩:=t.ofLst;cases j;obtain⟨xs,r,sq⟩:=S.list k C;obtain⟨w,i,g⟩:=UB r q;exact ix_list f slice pQ s O H _ _ v u Q I m l ⟨a,xs,_,w,rfl,rfl,sq,i,p.at S g⟩ B
   .exact Zb q
  .obtain⟨a,vs,rfl,k,M,r⟩:=t.ofDct
   cases j;rcases XE r M with⟨w,W,i,g,E⟩|⟨_,g⟩
   .rw[g]at q
    cases q;exact ix_dct f slice pQ s O H _ _ v u Q I m l ⟨a,_,Sum.inr _,w,rfl,rfl,k,i,p.at S E⟩ B
   .rw[g]at q;cases q
  .obtain⟨a,o,its,n,rfl,V,U,T,R,P⟩:=t.ofKt
   cases j;obtain⟨w,i,g⟩:=UB (WY _) q;exact ix_tup f slice pQ s O H _ _ v u Q I m l ⟨a,_,_,w,rfl,rfl,.inr ⟨o,its,n,V,U.1,T,R,P⟩,i,p.at S g⟩ B
  .refine j_e q λq=>?_
   obtain⟨bb,es,C,D,q⟩:=JL q;obtain⟨a,rfl,k,L⟩:=t.ofDic;obtain⟨xs,⟨r,G⟩,N,_⟩:=S.dict k L C D.1;obtain⟨b,_,rfl,_,_⟩:=id j.ofTup;rcases r.look D.2 with⟨z,W,F,g,E⟩|⟨_,g⟩
   .rw[g]at q
    cases q;exact Zgt (by omega) f slice pQ s O H _ _ v u Q I m l ⟨a,b,xs,_,_,z,⟨rfl,rfl⟩,⟨N,G,j,D.2,r.keys⟩,F.1,F.2,p.at S E⟩ B
   .rw[g]at q;cases q
  .split at q
   .rename_i J
    cases t;cases j
    obtain⟨c,i,rfl⟩:=Zf5 q;exact ix_str f slice pQ s O H _ _ v u Q I m l ⟨_,_,c,rfl,rfl,aP J Z6,i,p.at S (.str _)⟩ B
   .exact Zb q
  .exact Zb q
 .exact Zb e
theorem YJ(n d:Nat)(o:Ot Int):Dp.sIx n d o=HT.sIx n d o:=by cases o<;>rfl
theorem JJ{xs:Li V}(r:Dens X.K ad H xs ds):Dens X.K ad H (cutV xs lo hi) (Xw ds lo hi):=by
 unfold cutV Xw;rw[<-r.length,YJ,YJ];exact(r.drop _).take _
theorem WL{s:sH7}{t sl:Ad}{g f:vL}{Q:vL->sH7->Prop}(b:IsTup s.heap t items)(j:s.heap.IsSliceOf sl g f .none)(l:IsPart g lo)(k:IsPart f hi)(i:HT.sIx items.size 0 lo=0/\HT.sIx items.size items.size hi=items.size)(h:Q (.ref t) s):wpAny (model prog w) A (getItem (.ref t) (.ref sl)) Q E s:=by
 obtain⟨m,c,d,n⟩:=id j;have e:s.TypeIs (.ref sl) "slice":=⟨m,c,d⟩;unfold getItem
 try with_reducible refine wpAny_holding ?_
 first|refine aA (aB ?_)|skip
 refine aA (wpAny_sequenceKey b.typeIs (by decide) ?_)
 refine aA (wpAny_callSpecial?_slot (name:=Str.ofString "__getitem__") b.typeIs PyProof.Rows.slot_tuple_getitem
  (wpAny_call_entry PyProof.Rows.slot_tuple_getitem b.typeIs PyProof.Rows.entry_tuple_getitem ?_ (PyProof.Rows.args_tuple_getitem _ _)))
 show wpAny _ _ (Builtin.Tuple.tupleItemsOf (.ref t) >>= _) _ _ s;refine aA (tupleItemsOf_ b ?_);refine aA (wpAny_typeOf e ?_);rw[if_pos (by decide)]
 refine aA (HT.sliceApplied_gen j l k ?_);rw[i.1,i.2];have a:(((0:Nat):Int)==0&&(1:Int)==1&&(items.size - 0)==items.size)=true:=by simp
 show wpAny _ _ (if (((0:Nat):Int)==0&&(1:Int)==1&&(items.size - 0)==items.size)=true then _ else _) _ _ s
 rw[if_pos a];unfold Builtin.Tuple.tupleIsExact
 wp_walk using wpAny_typeOf b.typeIs
 exact⟨_,rfl,aB h⟩
theorem Zbe:SlR X (λx lo hi H Q=>∃ a xs,x=.ref a/\SqT X.K H a xs/\(HT.sIx xs.length 0 lo=0/\HT.sIx xs.length xs.length hi=xs.length)/\Q (.ref a) H):=by
 intro pQ s O H x v l k lo hi sl Q I d j f e h;obtain⟨a,xs,rfl,g,i,q⟩:=h;cases d;obtain⟨its,r,c,m⟩:=I.tuple g;have b:its.toArray.size=xs.length:=by rw[aL];exact r.length.symm
 refine⟨"tuple",_,PyProof.Rows.slot_tuple_getitem.lookup,c.typeIs,?_⟩;exact WL c j f e (by rw[b];exact i) ⟨.ref a,H,I,rfl,q⟩
theorem Zh2:SlR X (rSl X.K):=by
 intro pQ s O H x v i g lo hi sl Q I j n l k h;obtain⟨ad,st,t,d,st',S,f,e,p⟩:=h;unfold Z7 at e;split at e
 .rename_i ds
  split at e
  .rename_i m
   cases e;obtain⟨a,xs,rfl,c,r⟩:=f.ofTup;refine Zbe pQ s O H _ v i g lo hi sl Q I j n l k ⟨a,xs,rfl,c.sq,?_,p.at S f⟩;rw[r.length,<-YJ,<-YJ];exact m
  .rename_i m
   cases e;obtain⟨a,xs,rfl,c,r⟩:=f.ofTup;refine sl_tup pQ s O H _ v i g lo hi sl Q I j n l k ⟨a,xs,rfl,(c).sq,?_,λq b=>p _ ad _ (Ext.laid b) (S.laid b) (.tup (.inl upd_same) ((JJ r).mono (Ext.laid b)))⟩
   rw[r.length,<-YJ,<-YJ];exact m
 .split at e
  .rename_i o
   cases e;obtain⟨a,rfl,c⟩:=f.ofLst;obtain⟨xs,r,sq⟩:=S.list c o;refine sl_list pQ s O H _ v i g lo hi sl Q I j n l k ⟨a,xs,rfl,sq,λq b=>p _ (ad++[q]) _ (Ext.push b) (S.push b (JJ r)) (.newL ?_)⟩
   rw[<-S.len];exact ZB
  .exact Zb e
 .exact Zb e
theorem VM(h:Dens X.K ad H vs [d]):∃ v,vs=[v]/\Den X.K ad H v d:=by
 cases h with
 |cons h r=>cases r;exact⟨_,rfl,h⟩
theorem Zdq{e:D}(h:Dens X.K ad H vs [d,e]):∃ v w,vs=[v,w]/\Den X.K ad H v d/\Den X.K ad H w e:=by
 cases h with
 |cons h r=>
  cases r with
  |cons a r=>cases r;exact⟨_,_,rfl,h,a⟩
theorem Y9{g:D->Za->Res}{r:D×Za}(h:on1 g ds st=some r):∃ d,ds=[d]/\g d st=some r:=by
 unfold on1 at h;split at h
 .exact⟨_,rfl,h⟩
 .exact Zb h
theorem WW{g:D->D->Za->Res}{r:D×Za}(h:on2 g ds st=some r):∃ d e,ds=[d,e]/\g d e st=some r:=by
 unfold on2 at h;split at h
 .exact⟨_,_,rfl,h⟩
 .exact Zb h
theorem QP:CallR X (.builtin "len") (rC X.K (on1 Vi)):=by
 intro pQ s O H xs c Q I r h;obtain⟨ad,st,ds,d,st',S,t,e,p⟩:=h;obtain⟨x,rfl,B⟩:=Y9 e;have e:=B;obtain⟨v,rfl,f⟩:=VM t;unfold Vi at e;split at e
 .rename_i n q
  cases e;unfold Vh at q;split at q
  .cases q
   obtain⟨a,ys,rfl,j,b⟩:=f.ofTup;refine call_len_seq pQ s O H _ c Q I r ⟨a,ys,rfl,.inr ((j).sq),?_⟩;rw[b.length];exact p.at S (.int _)
  .split at q
   .rename_i i
    cases q;obtain⟨a,rfl,j⟩:=f.ofLst;obtain⟨ys,b,sq⟩:=S.list j i;refine call_len_seq pQ s O H _ c Q I r ⟨a,ys,rfl,.inl sq,?_⟩;rw[b.length];exact p.at S (.int _)
   .cases q
  .cases q
   obtain⟨a,o,its,n,rfl,A,z,y,w,u⟩:=f.ofKt;refine call_len_seq pQ s O H _ c Q I r ⟨a,_,rfl,.inr (.inr ⟨o,its,n,A,z.1,y,w,u⟩),?_⟩;rw[aE];exact p.at S (.int _)
  .split at q
   .rename_i g
    cases q;cases f
    exact call_len pQ s O H _ c Q I r ⟨_,_,rfl,⟨aP g Z6,rfl⟩,p.at S (.int _)⟩
   .cases q
  .split at q
   .rename_i i
    split at q
    .rename_i g
     cases q;obtain⟨l,rfl,m,n⟩:=f.ofDic;obtain⟨ys,⟨b,_⟩,k,_⟩:=S.dict m n i g.1;refine VF pQ s O H _ c Q I r ⟨l,ys,rfl,k,by rw[b.length];exact aP g.2 Z6,?_⟩
     rw[b.length];exact p.at S (.int _)
    .cases q
   .cases q
  .cases q
 .exact Zb e
theorem VG:CallR X (.type "tuple") (rC X.K (on1 Vy)):=by
 intro pQ s O H xs g Q I r h;obtain⟨ad,st,ds,d,st',S,k,e,p⟩:=h;obtain⟨x,rfl,m⟩:=Y9 e;have e:=m;obtain⟨v,rfl,b⟩:=VM k;unfold Vy at e;split at e
 .cases e
  obtain⟨a,ys,rfl,f,i⟩:=b.ofTup;exact call_tuple_of pQ s O H _ g Q I r ⟨a,ys,rfl,.inr ⟨(f).sq,p.at S b⟩⟩
 .split at e
  .rename_i j
   cases e;obtain⟨a,rfl,f⟩:=b.ofLst;obtain⟨ys,i,sq⟩:=S.list f j;exact call_tuple_of pQ s O H _ g Q I r ⟨a,ys,rfl,.inl ⟨sq,λl c=>p _ ad _ (Ext.laid c) (S.laid c) (.tup (.inl upd_same) (i.mono (Ext.laid c)))⟩⟩
  .cases e
 .cases e
theorem UF:CallR X (.type "list") (rC X.K (on1 V7)):=by
 intro pQ s O H xs g Q I r h;obtain⟨ad,st,ds,d,st',S,k,e,p⟩:=h;obtain⟨x,rfl,m⟩:=Y9 e;have e:=m;obtain⟨v,rfl,i⟩:=VM k;unfold V7 at e;split at e
 .cases e
  obtain⟨a,ys,rfl,f,c⟩:=i.ofTup;refine call_list_of pQ s O H _ g Q I r ⟨a,ys,rfl,.inr ((f).sq),λl b=>p _ (ad++[l]) _ (Ext.push b) (S.push b c) (.newL ?_)⟩
  rw[<-S.len];exact ZB
 .split at e
  .rename_i j
   cases e;obtain⟨a,rfl,f⟩:=i.ofLst;obtain⟨ys,c,sq⟩:=S.list f j;refine call_list_of pQ s O H _ g Q I r ⟨a,ys,rfl,.inl sq,λl b=>p _ (ad++[l]) _ (Ext.push b) (S.push b c) (.newL ?_)⟩
   rw[<-S.len];exact ZB
  .cases e
 .cases e
theorem QR(g:X.calm=true):CallR X (.builtin "min") (rC X.K (on2 ZeG)):=by
 intro pQ s O H xs a Q I r h;obtain⟨ad,st,ds,d,st',S,f,e,p⟩:=h;obtain⟨x,y,rfl,i⟩:=WW e;have e:=i;obtain⟨v,w,rfl,c,b⟩:=Zdq f;unfold ZeG at e;split at e
 .cases e;cases c;cases b
  exact call_min2 g pQ s O H _ a Q I r ⟨_,_,rfl,p.at S (.int _)⟩
 .exact Zb e
theorem QQ(g:X.calm=true):CallR X (.builtin "max") (rC X.K (on2 ZeF)):=by
 intro pQ s O H xs a Q I r h;obtain⟨ad,st,ds,d,st',S,f,e,p⟩:=h;obtain⟨x,y,rfl,i⟩:=WW e;have e:=i;obtain⟨v,w,rfl,c,b⟩:=Zdq f;unfold ZeF at e;split at e
 .cases e;cases c;cases b
  exact call_max2 g pQ s O H _ a Q I r ⟨_,_,rfl,p.at S (.int _)⟩
 .exact Zb e
noncomputable def tyN:Ty->String
 |.int => "int"
 |.bool => "bool"
 |.str => "str"
 |.tuple => "tuple"
noncomputable def Zav:D->String
 |.int _ => "int"
 |.bl _ => "bool"
 |.str _ => "str"
 |.tup _ => "tuple"
 |.non => "NoneType"
 |_ => "list"
theorem Zaw(K:fG7){T:Ty}(h:Zey T d=some k):W.kitOne K (.type (Zav d)) (.type (tyN T))=some k:=by
 cases d<;>first | (cases h;done) | (cases T<;>(cases h;rfl))
theorem ZgV{K:fG7}{v:V}{T:Ty}(h:Zey T d=some k)(c:Den K ad H v d):TyOf K H v (.type (Zav d))\/∃ a xs,v=.ref a/\SqT K H a xs/\Zav d = "tuple":=by
 cases c with
 |non=>exact .inl .non
 |bl b=>exact .inl (.bl b)
 |int i=>exact .inl (.int i)
 |str x=>exact .inl (.str x)
 |tup e r=>exact .inr ⟨_,_,rfl,e.sq,rfl⟩
 |lst e=>exact Zb h
 |dic _ _=>exact Zb h
 |obj _ _=>exact Zb h
 |kt _ _ _ _ _ _=>exact Zb h
theorem JC{T:Ty}:CallR X (.builtin "isinstance") (λvs H Q=>∃ v,vs=[v,.ty (tyN T)]/\rC X.K (on1 (Zas T)) [v] H Q):=by
 intro pQ s O H xs C Q I r h;obtain⟨v,rfl,ad,st,ds,d,st',S,t,e,p⟩:=h;obtain⟨x,rfl,A⟩:=Y9 e;have e:=A;obtain⟨w,m,n⟩:=VM t;cases m;unfold Zas at e;split at e
 .rename_i k q
  cases e;cases r with
  |cons b i=>
   cases i with
   |cons g f=>
    cases f;cases g;rcases ZgV q n with ty|⟨a,B,rfl,sq,l⟩
    .exact isinst_ok I b ty (Zaw X.K q) λc=>⟨.bl k,H,I.tok _,rfl,p.at S (.bl k)⟩
    .have kt:=Zaw X.K q
     rw[l]at kt;cases b;obtain⟨its,_,j,_⟩:=I.tuple sq;obtain⟨o,y,u,_⟩:=j;exact W.kia_one W.kitx_tuple I.kIn ⟨o,y,u⟩ kt (λz=>nomatch z) λc=>⟨.bl k,H,I.tok _,rfl,p.at S (.bl k)⟩
 .exact Zb e
variable [ClsTab]
section
open PySem.SeqAt PySem.MeetsSeq PySem.MeetsSeq2 PySem.MeetsSeq3 PySem.SeqRoads2
open AutoSeq1 (wpAny_loadPart')
end
variable{dx dy:D}{n:Nat}
section
theorem Zan{ad:Li Ad}{H:Hp}{k:Int}:∀ {xs:Li V}{ds:Li D}{b:Bool},Dens X.K ad H xs ds->Xi k ds=some b->xs.all flatV=true/\inV (.int k) xs=b
 |_,_,_,.nil,e=>by cases e;exact⟨rfl,rfl⟩
 |_,_,b,.cons (d:=d) h r,e=>by
  cases d with
  |int i=>
   cases h;unfold Xi at e;cases q:Xi k _ with
   |none=>rw[q]at e;cases e
   |some b'=>
    rw[q]at e;cases e;obtain⟨c,a⟩:=Zan r q;refine⟨by rw[bA,c];rfl,?_⟩
    show((i==k)||inV (.int k) _)=(decide (i=k)||b');rw[a];rfl
  |_=>simp[Xi]at e
theorem UM{ad:Li Ad}{H:Hp}{k:Str}:∀ {xs:Li V}{ds:Li D}{b:Bool},Dens X.K ad H xs ds->Yy k ds=some b->xs.all flatV=true/\inV (.str k) xs=b
 |_,_,_,.nil,e=>by cases e;exact⟨rfl,rfl⟩
 |_,_,b,.cons (d:=d) h r,e=>by
  cases d with
  |str i=>
   cases h;unfold Yy at e;cases q:Yy k _ with
   |none=>rw[q]at e;cases e
   |some b'=>
    rw[q]at e;cases e;obtain⟨c,a⟩:=UM r q;refine⟨by rw[bA,c];rfl,?_⟩
    show((i==k)||inV (.str k) _)=(decide (i=k)||b');rw[a]
    congr 1
  |_=>simp[Yy]at e
def CW(X:Cx)(pQ:Li (Ad×Obj))(O:L2.St)(Q:VK)(s:sH7)(op:CmpOp)(v u:vL):Prop:=wpAny (model X.prog X.w) X.A (compareOp op v u) (EP X pQ O Q) X.xe s
def CW2(X:Cx)(pQ:Li (Ad×Obj))(O:L2.St)(Q:VK)(s:sH7)(H:Hp)(op a:CmpOp)(v u:vL)(k:Bool):Prop:=(Q (.bl k) H->CW X pQ O Q s op v u)/\(Q (.bl (!k)) H->CW X pQ O Q s a v u)
noncomputable def vSc:Sc->V
 |.non=>.non
 |.bl b=>.bl b
 |.int i=>.int i
 |.str x=>.str x
theorem Den.vSc{K:fG7}{ad:Li Ad}{H:Hp}{x:V}{d:D}{a:Sc}(h:Den K ad H x d)(e:scD d=some a):x=vSc a:=by
 cases h<;>cases e<;>rfl
theorem ZbO{a b:Sc}(h:Zgc a b=some k):scal (vSc a) (vSc b)=true/\decide (vSc a=vSc b)=k:=by
 cases a<;>cases b<;>first
  | (cases h;done)
  | (cases h;exact⟨rfl,rfl⟩)
  | (cases h;exact⟨rfl,dec_bl⟩)
  | (cases h;exact⟨rfl,by simp[vSc]⟩)
inductive EqD(x y:V):D->D->Bool->Prop
 |sc {dx dy:D}{k:Bool} (h3:scal x y=true) (h4:decide (x=y)=k):EqD x y dx dy k
 |tup {xs ys:List D} (h:(okD 8 (.tup xs)&&okD 8 (.tup ys))=true):EqD x y (.tup xs) (.tup ys) (Zx xs ys)
theorem ZbN{K:fG7}{x y:V}(i:Den K ad H x dx)(g:Den K ad H y dy)(e:eqD dx dy=some k):EqD x y dx dy k:=by
 unfold eqD at e;split at e
 .unfold eqT at e
  split at e
  .split at e
   .rename_i c
    cases e;exact .tup c
   .exact Zb e
  .exact Zb e
 .refine j_e e λe=>ZS (P:=λo=>o=some k->EqD x y dx dy k) e (λa b l j h=>?_) rfl
  obtain⟨f,d⟩:=ZbO h;rw[<-i.vSc l,<-g.vSc j]at f d;exact .sc f d
theorem Zge(hu:X.A.units+64 < cLine){s:sH7}{x y:V}{v:vL}(I:Inv X pQ O H s)(f:RelV x v)(d:RelV y u)(S:StOk X.K ad H st)(h:Den X.K ad H x dx)(g:Den X.K ad H y dy)(e:eqD dx dy=some k):CW2 X pQ O Q s H .Eq .NotEq v u k:=by
 cases ZbN h g e with
 |sc i p=>
  subst p;exact⟨λq=>op_eq pQ s O H x y v u Q I f d ⟨i,q⟩,λq=>op_ne pQ s O H x y v u Q I f d ⟨i,q⟩⟩
 |tup c=>
  rw[bA7]at c;obtain⟨a,xs,rfl,o,l⟩:=h.ofTup;obtain⟨b,ys,rfl,m,j⟩:=g.ofTup;cases f;cases d
  obtain⟨g1,g2⟩:=ZcB (ad:=ad) (A:=X.A) I (n:=7) c.1 c.2 (by omega) o l m j
  exact⟨λq=>g1 X.prog X.w X.xe _ ⟨.bl _,H,I,rfl,q⟩,λq=>g2 X.prog X.w X.xe _ ⟨.bl _,H,I,rfl,q⟩⟩
open PySem.SeqAt in
theorem ZcA{s:sH7}(I:Inv X pQ O H s){a b:Ad}{xs:Li V}{es:Li D}{its c:Li vL}(v:ZT n ds=true)(u:ZT n es=true)(hu:A.units+n+1 < cLine)(r:Dens X.K ad H xs ds)(m:Dens X.K ad H ys es)(l:Vals xs its)(d:Vals ys c)(p:s.heap.IsList a its.toArray)(g:s.heap.IsList b c.toArray):RcAt A s (.ref a) (.ref b) (Zx ds es)/\RcNeAt A s (.ref a) (.ref b) (!Zx ds es):=by
 have k:its.toArray.size=ds.length:=by rw[aL,<-l.length,r.length]
 have t:c.toArray.size=es.length:=by rw[aL,<-d.length,m.length]
 by_cases h:ds.length=es.length
 .have o:=λj x w=>UP (a:=a) (b:=b) I v u hu r m l d j x w
  have q:=RcAt.lists (A:=A) (s:=s) (e:=λi=>Zr ((ds[i]?).getD .non) ((es[i]?).getD .non)) p g (by omega) (by omega) o
  have f:=RcNeAt.lists (A:=A) (s:=s) (e:=λi=>Zr ((ds[i]?).getD .non) ((es[i]?).getD .non)) p g (by omega) (by omega) o
  rw[k]at q f;rw[YD,show min ds.length es.length=ds.length by omega,show(ds.length==es.length)=true by simpa using h,dD]
  exact⟨q,f⟩
 .have q:=RcAt.lists_lengths (A:=A) (s:=s) p g (by rw[k,t];simpa using h) (by omega)
  have f:=RcNeAt.lists_lengths (A:=A) (s:=s) p g (by rw[k,t];simpa using h) (by omega)
  rw[YD,show(ds.length==es.length)=false by simpa using h,dA]
  exact⟨q,f⟩
open PySem.SeqAt in
theorem Zhe(hu:X.A.units+64 < cLine){s:sH7}{x y:V}{v:vL}{es:Li D}(I:Inv X pQ O H s)(b:RelV x v)(a:RelV y u)(S:StOk X.K ad H st)(d:Den X.K ad H x (.tup ds))(c:Den X.K ad H y (.tup es))(e:ZaT st ds es=some k):CW2 X pQ O Q s H .Eq .NotEq v u k:=by cases e
theorem Zgf(hu:X.A.units+64 < cLine){s:sH7}{x y:V}{v:vL}(I:Inv X pQ O H s)(n:RelV x v)(m:RelV y u)(S:StOk X.K ad H st)(J:Den X.K ad H x dx)(G:Den X.K ad H y dy)(e:eqS st dx dy=some k):CW2 X pQ O Q s H .Eq .NotEq v u k:=by
 have sc:scal x y=true->(decide (x=y))=k->CW2 X pQ O Q s H .Eq .NotEq v u k:=λt h2=>by
  subst h2;exact⟨λq=>op_eq pQ s O H x y v u Q I n m ⟨t,q⟩,λq=>op_ne pQ s O H x y v u Q I n m ⟨t,q⟩⟩
 unfold eqS at e;split at e
 .unfold Zgb at e
  split at e
  case h_2=>exact Zb e
  obtain⟨a,rfl,ha⟩:=J.ofLst;obtain⟨b,rfl,hb⟩:=G.ofLst;cases n;cases m
  have two:∀ {ba bb:Bool}{xs ys:Li D},st[_]?=some (ba,xs)->st[_]?=some (bb,ys)->(xs=[]\/ys=[])->(xs.isEmpty&&ys.isEmpty)=k->CW2 X pQ O Q s H .Eq .NotEq (.ref a) (.ref b) k:=λ{ba bb xs ys} F E B hk=>by
   obtain⟨vs,T,M⟩:=S.list ha F;obtain⟨ws,R,L⟩:=S.list hb E;obtain⟨its,N,r,_⟩:=I.list M;obtain⟨g,h,p,_⟩:=I.list L;have Z:its.toArray.size=xs.length:=by rw[aL,<-N.length,T.length]
   have Y:g.toArray.size=ys.length:=by rw[aL,<-h.length,R.length]
   by_cases l:xs.length=ys.length
   .have W:xs=[]:=by
     rcases B with z|z
     .exact z
     .rw[z]at l;exact eD.mp l
    have z2:ys=[]:=by rw[W]at l;exact eD.mp l.symm
    subst W z2;cases hk;have f:its=[]:=eD.mp (by simpa using Z)
    have f':g=[]:=eD.mp (by simpa using Y)
    subst f f';refine⟨λq=>SeqAt.RcAt.lists (e:=λ_=>true) r.isList p.isList rfl (by omega) (λj t _=>absurd t (by simp)) X.prog X.w X.xe _ ⟨.bl true,H,I,rfl,q⟩,λq=>SeqAt.RcNeAt.lists (e:=λ_=>true) r.isList p.isList rfl (by omega) (λj t _=>absurd t (by simp)) X.prog X.w X.xe _ ⟨.bl false,H,I,rfl,q⟩⟩
   .have U:k=false:=by
     rw[<-hk];rcases B with z|z
     .subst z
      cases ys with
      |nil=>exact absurd rfl l
      |cons _ _=>rfl
     .subst z
      cases xs with
      |nil=>exact absurd rfl l
      |cons _ _=>rfl
    subst U;have C:(its.toArray.size != g.toArray.size)=true:=by rw[Z,Y];simpa using l
    exact⟨λq=>SeqAt.RcAt.lists_lengths r.isList p.isList C (by omega) X.prog X.w X.xe _ ⟨.bl false,H,I,rfl,q⟩,λq=>SeqAt.RcNeAt.lists_lengths r.isList p.isList C (by omega) X.prog X.w X.xe _ ⟨.bl true,H,I,rfl,q⟩⟩
  refine j_e e λe=>ZS (P:=λo=>o=some k->CW2 X pQ O Q s H .Eq .NotEq (.ref a) (.ref b) k) e (λc d F E e=>?_) rfl
  obtain⟨c1,c2⟩:=c;obtain⟨d1,d2⟩:=d;unfold W8 at e;split at e
  .rename_i B
   cases e;rw[cC]at B;exact two F E (B.imp List.isEmpty_iff.mp List.isEmpty_iff.mp) rfl
  .split at e
   .rename_i i
    cases e;rw[bA7]at i;obtain⟨vs,T,M⟩:=S.list ha F;obtain⟨ws,R,L⟩:=S.list hb E;obtain⟨its,N,r,_⟩:=I.list M;obtain⟨g,h,p,_⟩:=I.list L;obtain⟨g1,g2⟩:=ZcA (ad:=ad) (A:=X.A) I i.1 i.2 (by omega) T R N h r.isList p.isList
    exact⟨λq=>g1 X.prog X.w X.xe _ ⟨.bl _,H,I,rfl,q⟩,λq=>g2 X.prog X.w X.xe _ ⟨.bl _,H,I,rfl,q⟩⟩
   .exact Zb e
 .unfold Zgd at e
  split at e
  .split at e
   .rename_i k' q
    cases e;exact Zge hu I n m S J G (show eqD (.tup _) (.tup _)=some _ from q)
   .exact Zhe hu I n m S J G e
  .exact Zb e
 .exact Zge hu I n m S J G e
theorem ZaY{x y:V}(r:RelV x u)(a:RelV y u):x=y:=by
 cases x<;>cases y<;>simp only[L2.RelV]at r a<;>first
  |rfl
  | (subst r;cases a;rfl)
  | (obtain⟨t,rfl⟩:=r;obtain⟨b,e⟩:=a;cases e;rfl)
  | (obtain⟨t,rfl⟩:=r;obtain⟨b,e⟩:=a;cases e)
  | (obtain⟨t,rfl⟩:=r;cases a)
  | (subst r;obtain⟨b,e⟩:=a;cases e)
  | (subst r;cases a)
open Classical in
noncomputable def V5(K:fG7)(ad:Li Ad)(H:Hp)(d:D)(u:vL):Bool:=decide (∃ y e,RelV y u/\Den K ad H y e/\okD 8 e=true/\Zr e d=true)
theorem Zch{s:sH7}(I:Inv X pQ O H s){e:D}{y:V}(r:RelV y u)(h:Den X.K ad H y e)(ok:okD 8 e=true):V5 X.K ad H d u=Zr e d:=by
 classical
 unfold V5;cases q:Zr e d with
 |true=>exact aG ⟨y,e,r,h,ok,q⟩
 |false=>
  refine aF λ⟨j,k,f,i,c,g⟩=>?_
  cases ZaY r f
  have z:=Den.inj (λ_ _ _ a b=>I.tuple_inj a.sq b.sq) (n:=8) (m:=8) ok c h i
  rw[z,g]at q;cases q
theorem V6{pQ:Li (Ad×Obj)}{O:L2.St}{H:Hp}{s:sH7}{ad:Li Ad}(I:Inv X pQ O H s){A:Around}(hu:A.units+8 < cLine){d:D}{x:V}{v:vL}(b:RelV x v)(f:Den X.K ad H x d)(c:okD 8 d=true):∀ {xs:Li V}{ds:Li D}{a:Li vL},Dens X.K ad H xs ds->Vals xs a->ZT 8 ds=true->(∀ u∈a,SeqAt.EqAt A s u v (V5 X.K ad H d u))/\a.any (V5 X.K ad H d)=ds.any λe=>Zr e d
 |_,_,_,.nil,.nil,_=>⟨λu hu=>(nomatch hu),rfl⟩
 |_,e :: ds,u :: a,.cons h t,.cons r rt,ok=>by
  have ok:(okD 8 e&&ZT 8 ds)=true:=ok;rw[bA7]at ok;obtain⟨j,i⟩:=V6 I hu b f c t rt ok.2;have z:=Zch (ad:=ad) I (d:=d) r h ok.1;refine⟨λg hu'=>?_,by rw[cP,cP,z,i]⟩
  rcases aH.mp hu' with rfl|hu'
  .rw[z]
   exact JQ I 8 e d A _ _ _ _ ok.1 c hu h f r b
  .exact j g hu'
section
variable{pQ:Li (Ad×Obj)}{s:sH7}{O:L2.St}{H:Hp}{x y:V}{v u:vL}{Q:VK}{ad:Li Ad}{st:Za}{dx dy:D}{k:Bool}
theorem Ve{a:Ad}{xs:Li V}(I:Inv X pQ O H s)(d:RelV x v)(c:RelV y u)(g:y=.ref a)(sq:SqL X.K H a xs\/SqT X.K H a xs)(f:flatV x=true)(h:xs.all flatV=true/\inV x xs=k):CW2 X pQ O Q s H .In .NotIn v u k:=by
 obtain⟨e,i⟩:=h;subst i;exact⟨λb=>op_in_seq pQ s O H _ _ v u Q I d c ⟨a,xs,g,sq,f,e,b⟩,λb=>op_notIn_seq pQ s O H _ _ v u Q I d c ⟨a,xs,g,sq,f,e,b⟩⟩
def InW(X:Cx)(pQ:Li (Ad×Obj))(O:L2.St)(Q:VK)(s:sH7)(H:Hp)(v u:vL)(dy:D)(k:Bool):Prop:=(Q (.bl k) H->CW X pQ O Q s .In v u)/\((∀ ks vs,dy≠.dct ks vs)->Q (.bl (!k)) H->CW X pQ O Q s .NotIn v u)
theorem CW2.inW(h:CW2 X pQ O Q s H .In .NotIn v u k):InW X pQ O Q s H v u dy k:=⟨h.1,λ_=>h.2⟩
theorem Zgq(hu:X.A.units+64 < cLine)(I:Inv X pQ O H s)(i:RelV x v)(h:RelV y u)(S:StOk X.K ad H st)(g:Den X.K ad H x dx)(j:Den X.K ad H y dy)(q:inS st dx dy=some k):InW X pQ O Q s H v u dy k:=by
 unfold inS at q;split at q
 .split at q
  .rename_i l
   obtain⟨a,e,c⟩:=j.ofLst;obtain⟨xs,r,sq⟩:=S.list c l;cases g;exact(Ve I i h e (.inl sq) rfl (Zan r q)).inW
  .cases q
 .split at q
  .rename_i l
   obtain⟨a,e,c⟩:=j.ofLst;obtain⟨xs,r,sq⟩:=S.list c l;cases g;exact(Ve I i h e (.inl sq) rfl (UM r q)).inW
  .cases q
 .split at q
  .rename_i l
   split at q
   .rename_i m
    cases q;rw[bA7]at m;obtain⟨a,rfl,c⟩:=j.ofLst;obtain⟨xs,r,sq⟩:=S.list c l;cases h;obtain⟨its,M,D,U⟩:=I.list sq;obtain⟨B,G⟩:=V6 (A:=X.A.in1) I (by have:X.A.in1.units=X.A.units+1:=rfl;omega) i g m.1 r M m.2
    generalize V:V5 X.K ad H _=f at B G;have F:its.toArray.any f=_:=(show its.toArray.any f=its.any f by simp).trans G
    exact⟨λd=>SeqAt.in_listAt f D.isList (λw C=>B w (by simpa using C)) ⟨.bl _,H,I,rfl,by rw[F];exact d⟩,λ_ d=>SeqAt.notIn_listAt f D.isList (λw C=>B w (by simpa using C)) ⟨.bl _,H,I,rfl,by rw[F];exact d⟩⟩
   .cases q
  .cases q
 .obtain⟨a,xs,e,c,r⟩:=j.ofTup
  cases g;exact(Ve I i h e (.inr c.sq) rfl (Zan r q)).inW
 .obtain⟨a,xs,e,c,r⟩:=j.ofTup
  cases g;exact(Ve I i h e (.inr c.sq) rfl (UM r q)).inW
 .obtain⟨a,vs,rfl,c,R,r⟩:=j.ofDct
  cases g;cases q;refine⟨λd=>op_in_dct pQ s O H _ _ v u Q I i h ⟨a,_,Sum.inr _,rfl,rfl,c,?_⟩,λz=>absurd rfl (z _ _)⟩
  rcases XE r R with⟨w,T,p,n,W⟩|⟨p,n⟩
  .rw[p];rw[n]at d;exact d
  .rw[p];rw[n]at d;exact d
 .obtain⟨o,N,rfl⟩:=dM.mp q
  obtain⟨bb,es,l,t,rfl⟩:=JL N;obtain⟨a,rfl,c,P⟩:=j.ofDic;obtain⟨xs,⟨r,E⟩,J,_⟩:=S.dict c P l t.1;obtain⟨b,_,rfl,_,_⟩:=id g.ofTup;cases i;cases h
  rcases r.look t.2 with⟨z,T,L,n,_⟩|⟨p,n⟩
  .rw[n]
   have w:=Zdx (X:=X) (Q:=Q) (bb:=true) (by omega) I ⟨J,E,g,t.2,r.keys⟩ ⟨z,L.1,L.2⟩
   exact⟨w.1,λ_=>w.2⟩
  .rw[n]
   have w:=Zdx (X:=X) (Q:=Q) (bb:=false) (by omega) I ⟨J,E,g,t.2,r.keys⟩ p
   exact⟨w.1,λ_=>w.2⟩
 .cases g;cases j;cases q
  exact⟨λd=>op_in_str pQ s O H _ _ v u Q I i h ⟨_,_,rfl,rfl,d⟩,λ_ d=>op_notIn_str pQ s O H _ _ v u Q I i h ⟨_,_,rfl,rfl,d⟩⟩
 .cases q
theorem Zcb(a:Den X.K ad H x dx)(q:isN dx=some k):decide (x=V.non)=k:=by
 cases a<;>cases q<;>rfl
theorem Zgs(I:Inv X pQ O H s)(f:RelV x v)(d:RelV y u)(h:Den X.K ad H x dx)(g:Den X.K ad H y dy)(q:isD dx dy=some k):CW2 X pQ O Q s H .Is .IsNot v u k:=by
 unfold isD at q;split at q
 .cases g
  have z:=Zcb h q;subst z;exact⟨λc=>op_isN pQ s O H _ _ v u Q I f d ⟨rfl,c⟩,λc=>op_notN pQ s O H _ _ v u Q I f d ⟨rfl,c⟩⟩
 .unfold isB at q
  split at q
  .cases q
   cases h;cases g
   cases f;cases d
   have e:∀ a b:Bool,(Value.bool a==Value.bool b)=(a==b):=λa b=>by cases a<;>cases b<;>rfl
   exact⟨λc=>wpAny_is_plain rfl (by rw[e];exact⟨.bl _,H,I,rfl,c⟩),λc=>wpAny_isNot_plain rfl (by rw[e];exact⟨.bl _,H,I,rfl,c⟩)⟩
  .cases q
 .cases q
theorem Wc{f:Int->Int->Bool}(b:Den X.K ad H x dx)(a:Den X.K ad H y dy)(q:Jc f dx dy=some k):∃ i j,x=.int i/\y=.int j/\f i j=k:=by
 unfold Jc at q;split at q
 .cases q;cases b;cases a;exact⟨_,_,rfl,rfl,rfl⟩
 .exact Zb q
theorem Zho(hu:X.A.units+64 < cLine)(I:Inv X pQ O H s)(b:RelV x v)(a:RelV y u)(S:StOk X.K ad H st)(e:Den X.K ad H x dx)(d:Den X.K ad H y dy)(q:ltS st dx dy=some k)(c:Q (.bl k) H):CW X pQ O Q s .Lt v u:=by
   have q:ltD dx dy=some k:=q;obtain⟨i,j,rfl,rfl,z⟩:=Wc e d q;exact op_lt pQ s O H _ _ v u Q I b a ⟨_,_,rfl,rfl,by cases z;exact c⟩
theorem Vn{o:Ot Bool}(q:o.map not=some k):o=some (!k):=by
 cases o with
 |none=>exact Zb q
 |some a=>cases q;rw[Bool.not_not]
theorem ZaJ{op a:CmpOp}(h:CW2 X pQ O Q s H op a v u (!k))(b:Q (.bl k) H):CW X pQ O Q s a v u:=h.2 (by rw[Bool.not_not];exact b)
end
theorem QA(hu:X.A.units+64 < cLine){op:CmpOp}:OpR X (compareOp op) (rD X.K (Yx op)):=by
 intro pQ s O H x y v u Q I b a h;obtain⟨ad,st,dx,dy,d,st',S,g,f,e,p⟩:=h
 change CW X pQ O Q s op v u;unfold Yx at e;cases q:VJ op dx dy st with
 |none=>rw[q]at e;cases e
 |some k=>
  rw[q]at e;cases e;have c:=p.at S (.bl k);clear p;cases op with
  |Lt=>exact Zho hu I b a S g f q c
  |LtE=>
   obtain⟨i,j,rfl,rfl,z⟩:=Wc g f q;exact op_le pQ s O H _ _ v u Q I b a ⟨_,_,rfl,rfl,by cases z;exact c⟩
  |Gt=>
   obtain⟨i,j,rfl,rfl,z⟩:=Wc g f q;exact op_gt pQ s O H _ _ v u Q I b a ⟨_,_,rfl,rfl,by cases z;exact c⟩
  |GtE=>
   obtain⟨i,j,rfl,rfl,z⟩:=Wc g f q;exact op_ge pQ s O H _ _ v u Q I b a ⟨_,_,rfl,rfl,by cases z;exact c⟩
  |Eq=>exact(Zgf hu I b a S g f q).1 c
  |NotEq=>exact ZaJ (Zgf hu I b a S g f (Vn q)) c
  |In=>exact(Zgq hu I b a S g f q).1 c
  |NotIn=>
   have q:niS st dx dy=some k:=q;unfold niS at q;split at q
   .exact Zb q
   .rename_i l
    exact(Zgq hu I b a S g f (Vn q)).2 l (by rw[Bool.not_not];exact c)
  |Is=>exact(Zgs I b a g f q).1 c
  |IsNot=>exact ZaJ (Zgs I b a g f (Vn q)) c
end
variable [ClsTab]
noncomputable def Zi:Expr->Bool
 |.Starred ..=>false
 |.Set ..=>false
 |.Slice ..=>false
 |_=>true
variable{sc:Scope}{N:Li Str}{e:Expr}
theorem Zf{G:Gs}{c:CE}(h:cE G n sc N e=some c):Zi e=true:=by
 cases n with
 |zero=>exact nomatch (show(none:Ot CE)=some c from h)
 |succ n=>cases e<;>first|rfl|exact nomatch (show(none:Ot CE)=some c from h)
variable{env:PySem.Env}
theorem Zd{es:Li Expr}(h:Zi e=true):starEach (e :: es) env=(false,eval e env) :: starEach es env:=by
 cases e<;>first|rfl|cases h
variable{b:Expr}
theorem X1{op:CmpOp}(h:Zi b=true):behindInMarks op b=false:=by
 cases b<;>first|rfl|cases h
theorem V0(h:Zi b=true):PlainIx b:=by
 cases b<;>first | (intro o i;rfl)|cases h
theorem Yi{pos:Pos}{env:PySem.Env}:∀ {es:Li Expr},es.all Zi=true->(backTo pos (starEach es env)).any (·.1)=false
 |[],_=>rfl
 |e :: es,h=>by
  rw[bA,bA7]at h;rw[Zd h.1];show(false||(backTo pos (starEach es env)).any (·.1))=false;rw[Yi h.2];rfl
inductive EsOk(Pm:Params)(K:fG7):List DictEntry->List Str->List D->Prop where
 |nil:EsOk Pm K [] [] []
 |cons {e:DictEntry}{es:List DictEntry}{k:Str}{ks:List Str}{d:D}{ds:List D}{v:V}{t:Tok} (h1:e.hash=PyData.keyHash Pm k) (h2:e.key=.str k t) (h3:RelV v e.val) (h4:∀ ad H,Den K ad H v d) (r:EsOk Pm K es ks ds):EsOk Pm K (e :: es) (k :: ks) (d :: ds)
def U9(b:Params)(K:fG7)(mg:Str->Ot vL)(x:Str)(ks:Li Str)(ds:Li D):Prop:=
 ∃ A o es a,mg x=some (.ref A)/\K.lookup A=some o/\o.ExactDict/\o.data=.dict es a/\(A==sysModules)=false/\ks.Nodup/\EsOk b K es.toList ks ds
theorem EsOk.open{P:Program}{K:fG7}:∀ {es:Li DictEntry}{ks:Li Str}{ds:Li D},EsOk w.params K es ks ds->∃ kvs:Li (Key×vL),Pairs (mixKind P w) es kvs/\kvs.map (·.1)=ks.map Sum.inr/\(∀ e∈es,∃ k,(mixKind P w).is k e.key=true/\e.hash=(mixKind P w).hash k) /\
  ∀ k d,Z2 ks ds k=some d->∃ u v,valueAt kvs (Sum.inr k)=some u/\RelV v u/\∀ ad H,Den K ad H v d
 |_,_,_,.nil=>⟨[],.nil,rfl,(λ_ h=>nomatch h),λk d h=>by simp[Z2]at h⟩
 |e :: es,a :: ks,n :: ds,.cons (v:=v) (t:=t) m l j i r=>by
  obtain⟨kvs,B,A,y,s⟩:=EsOk.open (P:=P) r;have b:(mixKind P w).is (Sum.inr a) e.key=true:=by rw[l];exact mixKind_str P w a t
  refine⟨(Sum.inr a,e.val) :: kvs,.cons b rfl B,by rw[aM,aM,A],λx hx=>?_,λk d h=>?_⟩
  .rcases aH.mp hx with rfl|hx
   .exact⟨Sum.inr a,b,m⟩
   .exact y x hx
  .unfold valueAt
   by_cases c:a=k
   .subst c
    have h:Z2 (a :: ks) (n :: ds) a=some d:=h;simp only[Z2,if_pos]at h;cases h;exact⟨e.val,v,by simp,j,i⟩
   .have h:Z2 ks ds k=some d:=by
     simp only[Z2,if_neg c]at h;exact h
    obtain⟨u,f,q,p,o⟩:=s k d h;refine⟨u,f,?_,p,o⟩;have g:¬(Sum.inr a:Key)=Sum.inr k:=λz=>c (Sum.inr.inj z)
    rw[eO (by simpa using g)]
    exact q
structure SubOk(K:fG7)(C B:Addr):Prop where
 cl:Cls K C
 ha:W.findIn K (.ref C) "__class__"=some (some (.builtin "object.__class__"))
 hn:W.specialIn K (.builtin "object.__class__") "__get__"=some (some (.builtin "getset_descriptor.__get__"))
 ht:W.takesIn K (.builtin "object.__class__")=some true
 hm:W.mroIn K C (.type "object")=some true
 kit:W.kitOne K (.ref C) (.ref B)=some true
structure NewOk(K:fG7)(C:Addr):Prop where
 makes:W.makesIn K C=true
 kp:W.keepIn K (.ref C)=true
 cl:Cls K C
def GOk(P:Program)(w:World)(K:fG7)(mg:Str->Ot vL)(base:Heap)(A:Around)(F:Nat->Fn)(x:Str):GV->Prop
 |.c d=>∃ v u,mg x=some u/\RelV v u/\∀ ad H,Den K ad H v d
 |.blt=>mg x=none
 |.dct ks ds=>U9 w.params K mg x ks ds
 |.cls i h e ds=>mg x=some (.ref (ClsTab.ca i))/\NewOk K (ClsTab.ca i)/\(∀ l,e.contains l=true->SubOk K (ClsTab.ca l) (ClsTab.ca i)) /\
   (∀ m j g,h.lookup m=some (j,g)->∃ (k:Nat) (f:Ad) (fd:FuncData) (pn:Li Str),FnOk P w K mg base CX0 k f fd pn (spD K (F j))/\Room (k+1) A/\Meth K (ClsTab.ca i) m f/\Binds K fd pn [] /\
    (m = "__init__"->ObC K (ClsTab.ca i)/\∀ n,n<=ds.length->∃ a b,(∀ ad H,Dens K ad H a (ds.drop n))/\Vals a b/\Binds K fd pn b)) /\
   (h.lookup ("__init__":Str)=none->W.findIn K (.ref (ClsTab.ca i)) "__init__"=some (some (.builtin "object.__init__")))
 |.fn i g ds=>∃ (k:Nat) (f:Ad) (fd:FuncData) (pn:Li Str),FnOk P w K mg base CX0 k f fd pn (spD K (F i))/\Room k A/\mg x=some (.ref f)/\W.keepIn K (.ref f)=true /\
   ∀ m,m<=ds.length->∃ a b,(∀ ad H,Dens K ad H a (ds.drop m))/\Vals a b/\Binds K fd pn b
structure Cxt(X:Cx)(G:Gs)(F:Nat->Fn)(sc:Scope)(N:List Str):Prop where
 hN:X.N=N
 vis:∀ x,Y0 sc x=true->Vis X.env.scope x
 glb:∀ x,Zy sc x=true->Gl X x
 calm:X.calm=true
 hu:X.A.units+64 < cLine
 gl:∀ x g,G.lookup x=some g->GOk X.prog X.w X.K X.mg X.base X.A F x g
 cel:∀ x,Wv sc x=true->X.env.scope.names.lookup x=some .cell\/X.env.scope.names.lookup x=some .free
 nx:X.xe=λ_ _=>False
variable{i:Nat}
theorem Xh{x:Str}(h:N.idxOf? x=some i):N[i]?=some x:=by
 unfold List.idxOf? at h
 rw[List.findIdx?_eq_some_iff_getElem]at h;obtain⟨hi,a,_⟩:=h;rw[lG7 hi];rw[beq_iff_eq.mp a]
theorem Vk{x:Str}(h:Y0 sc x=true):(x==("__debug__":Str))=false/\(x==("__classdict__":Str))=false:=by
 unfold Y0 at h;rw[bA7,bA7,dO,dO]at h;exact h.1
theorem YH{x:Str}(h:Zy sc x=true):(x==("__debug__":Str))=false:=by
 unfold Zy at h;rw[bA7,dO]at h;exact h.1
variable{a:Expr}{fa:Ev}{pos:Pos}{U:Env}{st':Za}
variable{F:Nat->Fn}
theorem ZgG{f:Ev}(h:PE X e (tE X.K f))(b:∀ a,isTrue e X.env a=(do let v <-a;standAt e.pos;holding [v] (truthy v)):=by intro _;rfl):PT X e (tT X.K f):=WE (pt_val h b) Zam
theorem ZeS{c:Expr}{v w:Ev}(z:PT X c (tT X.K v))(B:PT X a (tT X.K fa))(A:PT X b (tT X.K w)):PT X (.IfExp c a b pos) (tT X.K (Z0 v fa w)):=by
 intro pQ s O H Q I h;obtain⟨ad,U,st,d,st',E,S,e,p⟩:=h;obtain⟨k,g,q,e⟩:=Z4 e;show wpAny _ _ (isTrue c X.env (eval c X.env) >>= λt=>if t then isTrue a X.env (eval a X.env) else isTrue b X.env (eval b X.env)) _ _ s
 refine aA (thn (z pQ s O H (λy l=>y=k/\∃ f,Ext ad H f l/\StOk X.K f l g) I ⟨ad,U,st,k,g,E,S,q,λf l j m=>⟨rfl,f,j,m⟩⟩) λt u ⟨l,x,C,f,j,m⟩=>?_)
 subst C;cases t with
 |true=>
  rw[if_pos rfl]at e ⊢;exact B pQ u O l Q x ⟨f,U,g,d,st',E.mono j,m,e,λi r n o=>p i r (j.trans n) o⟩
 |false=>
  rw[if_neg bF7]at e ⊢;exact A pQ u O l Q x ⟨f,U,g,d,st',E.mono j,m,e,λi r n o=>p i r (j.trans n) o⟩
def Uu:CE->Prop
 |.aN=>True
 |.aC _ _=>True
 |_=>False
theorem W7{c:CE}(h:Uu c)(e:ev F c U st=some (d,st')):∃ ds,d=.tup ds/\ds.length<=1000:=by
 cases c with
 |aN=>cases e;exact⟨[],rfl,by decide⟩
 |aC a r=>
  have e:Zz (ev F a) (ev F r) Xv U st=some (d,st'):=e;unfold Zz at e;split at e
  .split at e
   .rename_i y b _
    cases y with
    |tup f=>
     have e:(if f.length < 1000 then some (D.tup (_ :: f),b) else none)=some (d,st'):=e
     split at e
     .rename_i g
      cases e;exact⟨_,rfl,g⟩
     .exact Zb e
    |_=>simp[Xv]at e
   .exact Zb e
  .exact Zb e
 |_=>exact False.elim h
structure SE(X:Cx)(F:Nat->Fn)(e:Expr)(c:CE):Prop where
 pe:PE X e (tE X.K (ev F c))
 pt:PT X e (tT X.K (ev F c))
theorem SE.of{c:CE}(h:PE X e (tE X.K (ev F c)))(b:∀ a,isTrue e X.env a=(do let v <-a;standAt e.pos;holding [v] (truthy v)):=by intro _;rfl):SE X F e c:=⟨h,ZgG h b⟩
theorem Uh{op:BoolOp}{es:Li Expr}{t:TT}(h:PT X (.BoolOp op es pos) t):PW X (.BoolOp op es pos) t:=λ_ pQ s O H Q I q=>h pQ s O H Q I q
variable [ClsTab]
theorem VE:bootBuiltins "tuple"=some (.type "tuple"):=by decide +kernel
theorem ZbF:bootBuiltins "list"=some (.type "list"):=by decide +kernel
theorem Zd9:bootBuiltins "int"=some (.type "int"):=by decide +kernel
theorem ZbD:bootBuiltins "bool"=some (.type "bool"):=by decide +kernel
theorem Zed:bootBuiltins "str"=some (.type "str"):=by decide +kernel
theorem Zec:bootBuiltins "min"=some (.builtin "min"):=by decide +kernel
theorem Zeb:bootBuiltins "max"=some (.builtin "max"):=by decide +kernel
theorem WJ:bootBuiltins "isinstance"=some (.builtin "isinstance"):=by decide +kernel
theorem Zea:bootBuiltins "len"=some (.builtin "len"):=by decide +kernel
variable{as:Li Expr}{cs:CE}{es:Array DictEntry}{ks:Li Str}{ap cp yp:Pos}{ms:Li (Str×Nat×Nat)}{subs:Li Nat}{o:Expr}{m:Str}{j:Nat}
variable{G:Gs}
section
def Zo(G:Gs)(F:Nat->Fn)(n:Nat):Prop:=∀ X sc N,Cxt X G F sc N->∀ e c,cE G n sc N e=some c->SE X F e c
def Yw(G:Gs)(F:Nat->Fn)(n:Nat):Prop:=∀ X sc N,Cxt X G F sc N->∀ es c,cEs G n sc N es=some c->PA X es (tA X.K (ev F c))/\Uu c/\es.all Zi=true/\(es=[]->c=.aN)
def W4(G:Gs)(F:Nat->Fn)(n:Nat):Prop:=∀ X sc N,Cxt X G F sc N->∀ e c,cO G n sc N e=some c->PO X e (tO X.K (ev F c))
theorem Za5{v:Const}{k:Nat}{c:CE}(h:CE.ofConst v=some c):SE X F (.Constant v k pos) c:=by
 cases v with
 |none=>cases h;exact .of (Zq pe_non (VU λ_ _=>.non))
 |bool b=>cases h;exact .of (Zq pe_bl (VU λ_ _=>.bl b))
 |int i=>cases h;exact .of (Zq pe_int (VU λ_ _=>.int i))
 |str x=>cases h;exact .of (Zq pe_str (VU λ_ _=>.str x))
 |_=>exact Zb h
theorem ZcN{x:Str}{c:CE}(K:Cxt X G F sc N)(h:ZaI G sc N x=some c):SE X F (.Name x pos) c:=by
 unfold ZaI at h;split at h
 .rename_i a
  cases q:N.idxOf? x with
  |none=>rw[q]at h;cases h
  |some i=>
   rw[q]at h;cases h;obtain⟨j,g⟩:=Vk a;exact .of (Zq (pe_var (i:=i) (by rw[K.hN];exact Xh q) (K.vis x a) j g) Qn)
 .split at h
  .rename_i b
   split at h
   .rename_i d q
    cases h;obtain⟨v,u,e,r,f⟩:=K.gl x _ q;exact .of (Zq (pe_glob (K.glb x b) e r (YH b)) (VU f))
   .exact Zb h
  .exact Zb h
theorem pa1{t:TE}(b:Zi a=true)(c:PE X a t):PA X [a] (tCons t tNil):=pa_cons c pa_nil (Zd b)
theorem pa2{t u:TE}(d:Zi a=true)(c:Zi b=true)(f:PE X a t)(e:PE X b u):PA X [a,b] (tCons t (tCons u tNil)):=pa_cons f (pa1 c e) (Zd d)
theorem ZcF{f:Str}{x c:CE}{p:Pos}(K:Cxt X G F sc N)(i:Zy sc f=true)(d:X.mg f=none)(b:Zi a=true)(A:PE X a (tE X.K (ev F x)))(h:Zd7 f x=some c) :
  PE X (.Call (.Name f p) [a] [] pos) (tE X.K (ev F c)):=by 
 have g:=K.glb f i;unfold Zd7 at h;split at h
 .rename_i e;subst e;cases h
  exact Zq (pe_callB QP g d Zea (pa1 b A) (by decide) (by decide) (Zd b) rfl) Ws
 .split at h
  .rename_i e;subst e;cases h
   exact Zq (pe_callTy VG g d VE (pa1 b A) (by decide) (by decide) (Zd b) rfl) Ws
  .split at h
   .rename_i e;subst e;cases h
    exact Zq (pe_callTy UF g d ZbF (pa1 b A) (by decide) (by decide) (Zd b) rfl) Ws
   .exact Zb h
theorem ZbA(a:Zi b=true):(backTo pos (starEach [b] X.env)).any (·.1)=false:=Yi (by rw[bA,a];rfl)
theorem ZcG{f:Str}{x y c:CE}{p:Pos}(K:Cxt X G F sc N)(k:Zy sc f=true)(i:X.mg f=none)(g:Zi a=true)(d:Zi b=true)(A:PE X a (tE X.K (ev F x)))(B:PE X b (tE X.K (ev F y)))(h:Zd8 f x y=some c):PE X (.Call (.Name f p) [a,b] [] pos) (tE X.K (ev F c)):=by
 have j:=K.glb f k;unfold Zd8 at h;split at h
 .rename_i e;subst e;cases h
  exact Zq (pe_callB (QR K.calm) j i Zec (pa2 g d A B) (by decide) (by decide) (Zd g) (ZbA d)) VT
 .split at h
  .rename_i e;subst e;cases h
   exact Zq (pe_callB (QQ K.calm) j i Zeb (pa2 g d A B) (by decide) (by decide) (Zd g) (ZbA d)) VT
  .exact Zb h
theorem ZbY{K:fG7}{T:Ty}(O:L2.St)(H:Hp)(Q:VK)(h:tE K (Zn fa (Zas T)) O H Q) :
  tCB (λvs H Q=>∃ v,vs=[v,.ty (tyN T)]/\rC K (on1 (Zas T)) [v] H Q) (tCons (tE K fa) (tCons (tC (.ty (tyN T))) tNil)) O H Q:=by
 obtain⟨ad,U,st,d,st',E,S,e,p⟩:=h;unfold Zn at e;split at e
 .rename_i x a g
  exact⟨ad,U,st,x,a,E,S,g,λf b k c j i=>⟨f,rfl,b,a,[x],d,st',j,.cons i .nil,e,p.later c⟩⟩
 .exact Zb e
theorem Zbm{T:Ty}(K:Cxt X G F sc N)(h:QH G sc b=some T):Zi b=true/\PE X b (tC (.ty (tyN T))):=by
 cases b with
 |Name t p=>
  have a:ZfK G sc t=some T:=h;clear h;unfold ZfK at a;split at a
  .rename_i f
   rw[bA7]at f;have c:X.mg t=none:=by
    have z:=f.2;unfold Qp at z;split at z
    .rename_i q;exact K.gl t _ q
    .cases z
   have d:=K.glb t f.1;refine⟨rfl,?_⟩;unfold ZgU at a;split at a
   .rename_i e;subst e;cases a
    exact pe_bltn d c Zd9 rfl
   .split at a
    .rename_i e;subst e;cases a
     exact pe_bltn d c ZbD rfl
    .split at a
     .rename_i e;subst e;cases a
      exact pe_bltn d c Zed rfl
     .split at a
      .rename_i e;subst e;cases a
       exact pe_bltn d c VE rfl
      .exact Zb a
  .exact Zb a
 |_=>simp[QH]at h
theorem Zfp{x:CE}{T:Ty}{p:Pos}(K:Cxt X G F sc N)(f:Zy sc "isinstance"=true)(e:X.mg "isinstance"=none)(d:Zi a=true)(A:PE X a (tE X.K (ev F x)))(g:QH G sc b=some T) :
  PE X (.Call (.Name "isinstance" p) [a,b] [] pos) (tE X.K (ev F (.isi T x))):=by
 obtain⟨c,B⟩:=Zbm K g;exact Zq (pe_callB (JC (T:=T)) (K.glb _ f) e WJ (pa2 d c A B) (by decide) (by decide) (Zd d) (ZbA c)) ZbY
theorem ZcI{f:Str}{a:Nat}{p:Pos}(K:Cxt X G F sc N)(c:Zy sc f=true)(t:G.lookup f=some (.fn i a ds))(x:as.length<=a/\a<=as.length+ds.length)(A:PA X as (tA X.K (ev F cs))/\Uu cs/\as.all Zi=true/\(as=[]->cs=.aN)):PE X (.Call (.Name f p) as [] pos) (tE X.K (ev F (.call i cs (ds.drop (as.length+ds.length - a))))):=by
 obtain⟨k,fa,fd,w,q,l,m,n,s⟩:=K.gl f _ t;obtain⟨u,v,o,j,b⟩:=s (as.length+ds.length - a) (by omega)
 obtain⟨g,_,d,r⟩:=A;cases as with
 |nil=>
  refine Zq (pe_call0 (E:=E0) q l (K.glb f c) m n b j pass0 (YH c)) λO H Q h=>?_
  rw[r rfl]at h;exact VS O H _ (VV (E:=E0) o O H Q h)
 |cons e es=>
  rw[bA,bA7]at d;exact Zq (pe_call (E:=E0) q l (K.glb f c) m n b j pass0 g (YH c) (Zd d.1) (Yi d.2)) (VV o)
theorem W9{nm:Str}(K:Cxt X G F sc N)(h:fnA G sc nm b=some as):∃ p pos,b=.Call (.Name nm p) as [] pos/\Gl X nm/\X.mg nm=none:=by
 obtain⟨q,a,g⟩:=cL.mp h;refine Yq g λe f=>?_
 obtain⟨rfl,d,c⟩:=e;cases f;unfold Zdo at a;split at a
 .cases a
  refine⟨_,_,rfl,K.glb _ d,?_⟩;unfold Qp at c;split at c
  .rename_i q;exact K.gl _ _ q
  .cases c
 .cases a
theorem Qz(h:ZeN as=some a):as=[a]:=by
 cases as with
 |nil=>exact Zb h
 |cons x as=>cases as with
  |nil=>cases h;rfl
  |cons _ _=>exact Zb h
theorem WM(K:Cxt X G F sc N)(h:ZN G sc b=some e):∃ p pos,b=.Call (.Name "range" p) [e] [] pos/\Gl X "range"/\X.mg "range"=none:=by
 obtain⟨as,a,c⟩:=cL.mp h;rw[Qz c]at a;exact W9 K a
theorem Zfn{x y:CE}{op:CmpOp}{c:Bool}(K:Cxt X G F sc N)(g:ZN G sc b=some e)(d:Zeu op=some c)(f:Zi e=true)(A:PE X a (tE X.K (ev F x)))(B:PE X e (tE X.K (ev F y))):SE X F (.Compare a [op] [b] pos) (.inR c x y):=by cases d
theorem Zft{f:Str}{o:Ot CE}{c:CE}{p:Pos}(K:Cxt X G F sc N)(g:Zy sc f=true)(d:X.mg f=none)(b:U5 G sc f a=some e)(B:∀ c,o=some c->Zi e=true/\PE X e (tE X.K (ev F c)))(h:o.map CE.tupR=some c):SE X F (.Call (.Name f p) [a] [] pos) c:=by cases b
def rLk(K:fG7)(A:Ad)(ks:Li Str)(ds:Li D):R2:=λx y H Q=>x=.ref A/\∃ k d,y=.str k/\Z2 ks ds k=some d/\∀ v,(∀ ad H,Den K ad H v d)->Q v H
theorem Zgu{A:Ad}{o:Obj}{f:Nat}(m:X.K.lookup A=some o)(ex:o.ExactDict)(hd:o.data=.dict es f)(D:(A==sysModules)=false)(nd:ks.Nodup)(B:EsOk X.w.params X.K es.toList ks ds):IxR X (rLk X.K A ks ds):=by
 intro a slice pQ s O H x y v u Q I j i h t;obtain⟨rfl,k,d,rfl,c,q⟩:=h;cases j;obtain⟨kvs,l,n,p,val⟩:=B.open (P:=X.prog);have g:s.heap.DictOf (mixKind X.prog X.w) A kvs:=by
  refine⟨o,es,f,I.kIn A o m,ex,hd,λe c=>p e (by simpa using c),l,?_⟩
  rw[n];exact List.pairwise_map.mpr (nd.imp λh z=>h (Sum.inr.inj z))
 obtain⟨w,z,r,b,C⟩:=val k d c;exact tail_any g.typeIs PySem.F.slot_dict_getitem.lookup (wpAny_getItem_of (kV_is (k:=Sum.inr k) i) g.mapOf r ⟨z,H,I.tok _,b,q z C⟩) t
theorem Zah{K:fG7}{A:Ad}(O:L2.St)(H:Hp)(Q:VK)(h:tE K (Zn fa (ZaB ks ds)) O H Q):tOp (rLk K A ks ds) (tC (.ref A)) (tE K fa) O H Q:=by
 obtain⟨ad,U,st,d,st',E,S,e,p⟩:=h;unfold Zn at e;split at e
 .rename_i x f g
  unfold ZaB at e;split at e
  .rename_i k
   split at e
   .rename_i n i
    cases e;exact⟨ad,U,st,.str k,_,E,S,g,λv a b c m l=>⟨rfl,k,d,l.ofStr,i,λw j=>p w a b c m (j a b)⟩⟩
   .exact Zb e
  .exact Zb e
 .exact Zb e
theorem ZcL{f:Str}{u v:Expr}{x y:CE}{p:Pos}(K:Cxt X G F sc N)(e:Zy sc f=true)(d:X.mg f=none)(b:UT G sc f a=some (u,v))(hu:Zi u=true)(c:Zi v=true)(A:PE X u (tE X.K (ev F x)))(B:PE X v (tE X.K (ev F y))):PE X (.Call (.Name f p) [a] [] pos) (tE X.K (ev F (.lstR x y))):=by cases b
theorem ZcK{y:CE}(K:Cxt X G F sc N)(c:Qs G sc a=some (ks,ds))(h:Zi b=true)(B:PE X b (tE X.K (ev F y))):PE X (.Subscript a b pos) (tE X.K (ev F (.look ks ds y))):=by
 unfold Qs at c;split at c
 .split at c
  .rename_i d
   split at c
   .rename_i q
    cases c;obtain⟨A,o,es,l,i,f,ex,j,g,e,k⟩:=K.gl _ _ q;exact Zq (pe_ix (Zgu f ex j g e k) (pe_glob (K.glb _ d) i (show RelV (.ref A) (.ref A) from rfl) (YH d)) B (V0 h)) Zah
   .exact Zb c
  .exact Zb c
 .exact Zb c
def ZgJ:V->Li V->Hp->VK->Prop:=λx vs H Q=>∃ p kvs k a,x=.ref p/\vs=[kV k,a]/\H p=some (.dK kvs)/\Q ((valV kvs k).getD a) H
theorem ZeI:MtM X "dict.get" ZgJ:=by
 intro pQ s O H x vs v u Q I i j h;obtain⟨p,kvs,k,r,rfl,rfl,n,q⟩:=h;cases i;obtain⟨y,g,rfl,m,l⟩:=j.two;obtain⟨t,o,e,d,f⟩:=dk_of I.hok n;refine call_meetsIn PySem.F.slot_dict_get f.typeIs PySem.F.entry_dict_get (PySem.F.args_dict_get_3 _ _ _) (meets_dict_get_default (mixKind X.prog X.w) p (kV_is m) o g) ⟨_,f.mapOf,?_⟩;have a:=d.val k;cases b:valV kvs k with
 |none=>
  cases c:valueAt e k with
  |none=>rw[b]at q;exact⟨r,H,I.tok _,l,q⟩
  |some w=>rw[b,c]at a;exact a.elim
 |some z=>
  cases c:valueAt e k with
  |none=>rw[b,c]at a;exact a.elim
  |some w=>rw[b]at q;rw[b,c]at a;exact⟨z,H,I.tok _,a,q⟩
theorem J5{t fd:Ev}(O:L2.St)(H:Hp)(Q:VK)(h:tE X.K (XF fa t fd getD) O H Q):tBM X.K "dict" ZgJ (tE X.K fa) (tCons (tE X.K t) (tCons (tE X.K fd) tNil)) O H Q:=by
 obtain⟨ad,U,st,d,st',E,S,e,p⟩:=h;unfold XF at e;split at e
 .rename_i x c J
  split at e
  .rename_i y b I
   split at e
   .rename_i z D G
    unfold getD at e;split at e
    .rename_i ks vs k
     cases e;refine⟨ad,U,st,_,c,E,S,J,λv1 s H1 j W v=>?_⟩
     obtain⟨a,Y,rfl,L,hl,F⟩:=v.ofDct;refine⟨.inr (.inr (.inl ⟨rfl,.inl ⟨_,L⟩⟩)),s,U,c,_,b,E.mono j,W,I,λZ r H2 i V T=>⟨r,U,b,_,_,E.mono (j.trans i),V,G,λC f A g w R=>?_⟩⟩
     obtain⟨a',B,N,n,m,l⟩:=(v.mono (i.trans g)).ofDct;cases N;have M:=(T.mono g).ofStr;refine⟨a,_,Sum.inr k,C,rfl,by rw[M];rfl,n,?_⟩
     rcases XE (k:=k) l m with⟨u,d0,q,o,P⟩|⟨q,o⟩
     .rw[q]
      rw[o]at p;exact p _ f A (j.trans (i.trans g)) w P
     .rw[q]
      rw[o]at p;exact p _ f A (j.trans (i.trans g)) w R
    .exact Zb e
   .exact Zb e
  .exact Zb e
 .exact Zb e
theorem ZcJ{ks:Li (Ot Expr)}{vs:Li Expr}{x y z:CE}{f:Pos}(K:Cxt X G F sc N)(c:(ap.endLine==cp.line)=true)(e:Zi a=true)(d:Zi b=true)(D:PE X (.Dict ks vs f) (tE X.K (ev F x)))(A:PE X a (tE X.K (ev F y)))(B:PE X b (tE X.K (ev F z))) :
  PE X (.Call (.Attribute (.Dict ks vs f) "get" ap) [a,b] [] cp) (tE X.K (ev F (.dget x y z))):=by
 refine Zq (pe_bm PySem.F.plainAttrs_dict PySem.F.slot_dict_get PySem.F.type_dict_get ZeI D (pa2 e d A B) rfl ?_ c (Zd e) (ZbA d)) J5;rw[Zd e,Zd d];rfl
theorem ZaE{K:fG7}{C:Ad}{s:sH7}{R:Result->sH7->Prop}(X:K.In s.heap)(k:W.makesIn K C=true)(hi:W.findIn K (.ref C) "__init__"=some (some (.builtin "object.__init__")))(h:R (.ok (.ret (.ref (s.heap.objs.size+1)))) { s with heap:=(s.heap.push W.emptyDict).push (W.instObj C s.heap.objs.size) }):codeAny (model prog w) A (.call (.ref C) ⟨[],[]⟩) R s:=by
 obtain⟨a,g,d,t,l⟩:=s;have Y:=W.makes_of (M:=model prog w) X k;have j:((a.push W.emptyDict).push (W.instObj C a.objs.size)).get? (a.objs.size+1)=some (W.instObj C a.objs.size):=by
  have:=aY (a.push W.emptyDict) (o:=W.instObj C a.objs.size) rfl
  rwa [Heap.size_push]at this
 refine W.make_core Y (W.looks_findIn X hi) (λc=>W.Looks.of_pure (W.oi_bind c)) (.inr ⟨rfl,rfl⟩) ?_
 have i:W.Looks (model prog w) ((a.push W.emptyDict).push (W.instObj C a.objs.size)) (typeOf (.ref (a.objs.size+1))) (.ref C):=(W.Looks.ld j).andThen .now;have f:W.Looks (model prog w) ((a.push W.emptyDict).push (W.instObj C a.objs.size)) (isInstance (.ref (a.objs.size+1)) (.type "object")) true:=i.andThen (Y.top.keeps λb o e=>aO _ (aO _ e))
 refine codeAny_call_builtin W.oi_plain W.entry_oi (@W.check_slot (model prog w) _ _ _ "object.__init__" "object" "__init__" (.ref (a.objs.size+1)) [] [] _ W.oi_kind W.oi_split f (W.oi_args (.ref (a.objs.size+1))) ?_);rw[W.oi_run];exact aB (And.intro rfl h)
theorem Wr{s:sH7}(I:L2.Inv X pQ O H s)(S:StOk X.K ad H st){a:Ad}(h:s.heap.objs.size<=a):a∉ad:=λb=>by
 obtain⟨i,hi⟩:=List.getElem?_of_mem b;rcases S.has hi with⟨o,q⟩|⟨o,q⟩
 .rw[I.hok.fresh h]at q;cases q
 .exact absurd (aI (I.kIn a o q)) (cY.mpr h)
theorem Zfq{f:Str}{p:Pos}(K:Cxt X G F sc N)(c:Zy sc f=true)(l:G.lookup f=some (.cls i ms subs ds))(hi:ms.lookup ("__init__":Str)=none):PE X (.Call (.Name f p) [] [] pos) (tE X.K (ev F (.new i))):=by
 obtain⟨k,b,_,_,a⟩:=K.gl f _ l;intro pQ s O H Q I h;obtain⟨ad,U,st,d,st',E,S,e,q⟩:=h;have e:some (D.obj i,st)=some (d,st'):=e;cases e;refine wpAny_Call_Name_kw (ld_glob I (K.glb f c) k ?_ (YH c));refine W.callWith_K0 I.kIn b.kp (wpAny_call (ZaE I.kIn b.makes (a hi) ?_));have j:H s.heap.objs.size=none:=I.hok.fresh (aD _);have g:upd H s.heap.objs.size (.own (s.heap.objs.size+1)) (s.heap.objs.size+1)=none:=by
  rw[upd_ne (Nat.ne_of_gt (bS _))];exact I.hok.fresh (bV _)
 exact⟨.ref (s.heap.objs.size+1),_,I.made,rfl,q _ ad _ ((Ext.laid j).trans (Ext.laidN g (Wr I S (bV _)))) ((S.laid j).laidN g (Wr I S (bV _))) (.obj upd_same (Wr I S (bV _)))⟩
theorem Zfo{x:CE}{l:Li Nat}{p:Pos}(K:Cxt X G F sc N)(f:Zy sc "isinstance"=true)(e:X.mg "isinstance"=none)(d:Zi a=true)(A:PE X a (tE X.K (ev F x)))(c:UG G sc b=some l) :
  PE X (.Call (.Name "isinstance" p) [a,b] [] pos) (tE X.K (ev F (.isc l x))):=by cases c
theorem Zgw{α:Type}:∀ {us:Li α},us.length=1->∃ a,us=[a]
 |[a],_=>⟨a,rfl⟩
theorem WU(h:as.all Zi=true)(d:as.length < 20):((backTo pos (starEach as env)).all (λx=>!x.1)&&(backToKw pos (keywordEach [] env)).all (λx=>x.1.isSome)
  &&decide (as.length+([]:Li Keyword).length+(if ([]:Li Keyword).isEmpty then 0 else 1) < 30))=true:=by
 have a:=Yi (pos:=pos) (env:=env) h;have b:(backTo pos (starEach as env)).all (λx=>!x.1)=true:=by
  rw[cQ];intro x c;have:=List.any_eq_false.mp a x c;simpa using this
 rw[b,aG (show as.length+([]:Li Keyword).length+(if ([]:Li Keyword).isEmpty then 0 else 1) < 30 by simp;omega)]
 rfl
theorem Zcl{a:Str}{b:Pos}{args:Li Expr}{Q:vL->sH7->Prop}{s:sH7}(i:attributeBase o a X.env (eval o X.env)=eval o X.env)(m:((backTo pos (starEach args X.env)).all (λx=>!x.1)&&(backToKw pos (keywordEach [] X.env)).all (λx=>x.1.isSome)&&decide (args.length+([]:Li Keyword).length+(if ([]:Li Keyword).isEmpty then 0 else 1) < 30))=true)(f:(b.endLine==pos.line)=true)(h:wpAny (model X.prog X.w) X.A (eval o X.env) (λp d=>∀ q,wpAny (model X.prog X.w) X.A (getMethod p a q) (λn c=>wpAny (model X.prog X.w) X.A (callWith pos n.1 n.2 (backTo pos (starEach args X.env)) (backToKw pos (keywordEach [] X.env))) Q X.xe c) X.xe d) X.xe s) :
  wpAny (model X.prog X.w) X.A (eval (.Call (.Attribute o a b) args [] pos) X.env) Q X.xe s:=by
 rw[arm_eval_Call,i];refine aA (aX h (λp d k=>?_) λ_ _ e=>e)
 refine aA (wpAny_standAt ?_);have g:methodCallForm (args.length+([]:Li Keyword).length) (backTo pos (starEach args X.env)) (backToKw pos (keywordEach [] X.env))=true:=m;have l:methodCallPos true o X.env b pos=pure pos:=by unfold methodCallPos;simp[f]
 unfold methodCall;rw[g];refine aA (wpAny_holding ?_);exact aX (k _) (λn c j=>aA (wpAny_of_eq l j)) λ_ _ e=>e
theorem ZfF{k:Nat}(h:(Y8 m k G).lookup i=some j):∃ x ms subs ds,G.lookup x=some (.cls i ms subs ds)/\ms.lookup m=some (j,k+1):=by
 have g:(i,j)∈Y8 m k G:=by
  generalize Y8 m k G=l at h
  induction l with
  |nil=>exact Zb h
  |cons p l f=>
   obtain⟨a,b⟩:=p;rw[bJ]at h;split at h
   .rename_i z
    cases h;rw[beq_iff_eq.mp z];exact lQ7
   .exact lM7 _ (f h)
 obtain⟨x,_,c⟩:=List.mem_filterMap.mp g;unfold ZdB at c;split at c
 .rename_i r ms subs ds q
  split at c
  .rename_i o n d
   split at c
   .rename_i e
    subst e;cases c;exact⟨x,ms,subs,ds,q,d⟩
   .exact Zb c
  .exact Zb c
 .exact Zb c
section
open PySem.SeqAt PySem.MeetsSeq PySem.MeetsSeq2 PySem.MeetsSeq3 PySem.SeqRoads2
theorem VR{prog:Program}{w:World}{A:Around}{E:vL->sH7->Prop}{s:sH7}{items:Array vL}{x:vL}{e:vL->Bool}{j:Nat}(h:j < items.size)(c:e items[j]=true)(b:∀ m (o:m < items.size),m < j->e items[m]=false)(f:∀ y,y∈items->EqAt A s y x (e y)):∀ (k i:Nat) (Q:Ot Fin×Unit->sH7->Prop),i<=j->i+k=items.size->Q (some (.done (.ret (.int j s.toks))),()) { s with toks:=s.toks+1 }->
  wpAny (model prog w) A (forIn (List.range' i k) ((none,()):Ot Fin×Unit) λ(i:Nat) __s=>
      match items[i]? with
      |some y=>do
       let __do_lift <-eqBool y x
       if __do_lift=true then do
         let __do_lift <-retInt (i:Int)
         pure (ForInStep.done (some __do_lift,()))
        else pure (ForInStep.yield (none,()))
      |x=>pure (ForInStep.yield (none,()))) Q E s
 |0,i,Q,n,l,_=>by omega
 |k+1,i,Q,n,l,g=>by
  have a:i < items.size:=by omega
  rw[dP,List.forIn_cons];refine aA ?_;rw[eM a];refine aA (f _ (Array.getElem_mem a) prog w _ _ ?_);by_cases d:i=j
  .subst d
   rw[c]
   wp_walk
   exact g
  .rw[b i a (by omega)]
   wp_walk
   exact VR h c b f k (i+1) Q (by omega) (by omega) g
theorem WO(l:Ad)(items:Array vL)(n:Nat)(o:Obj)(x:vL)(e:vL->Bool)(j:Nat)(i:j < items.size)(b:e items[j]=true)(a:∀ m (u:m < items.size),m < j->e items[m]=false)(hd:o.data=.seq items n) :
  Meets (Builtin.«tuple.index» ⟨[.ref l,x],[]⟩)
   (λA R s=>s.heap.get? l=some o/\(∀ y,y∈items->EqAt A.in1 s y x (e y))/\R (.ok (.ret (.int j s.toks))) { s with toks:=s.toks+1 }):=by
 refine .of_wp λprog w A R s h=>?_
 obtain⟨t,g,d,p,q⟩:=s;obtain⟨f,k,h⟩:=h;obtain⟨oc,r,v,c⟩:=o;cases hd;unfold Builtin.«tuple.index»
 simp only[Std.Legacy.Range.forIn_eq_forIn_range',Std.Legacy.Range.size,Nat.sub_zero,Nat.add_sub_cancel,Nat.div_one]
 wp_walk using wpAny_loadPart' f
 refine VR i b a k (min items.size items.size - 0) 0 _ (aV _) (by simp) ?_
 exact aB ⟨_,rfl,h⟩
end
theorem J0{k:Str}{tk:Tok}{i:Nat}:∀ {ks:Li Str}{b:Li vL},Vals (ks.map V.str) b->JZ k ks=some i->∃ h:i < b.length,(λy:vL=>match y with
   |.str a _=>a==k
   |_=>false) b[i]=true/\∀ m (c:m < b.length),m < i->(λy:vL=>match y with
   |.str a _=>a==k
   |_=>false) b[m]=false:=by
 intro ks
 induction ks generalizing i with
 |nil=>intro b _ h;cases h
 |cons a ks l=>
  intro b r h;cases r with
  |@cons v u vs f j g=>
   obtain⟨t,rfl⟩:=j;have h:(if a=k then some 0 else (JZ k ks).map (·+1))=some i:=h
   split at h
   .rename_i e
    cases h;refine⟨by simp,by simpa using e,λm _ c=>absurd c (Nat.not_lt_zero m)⟩
   .rename_i e
    cases q:JZ k ks with
    |none=>rw[q]at h;cases h
    |some n=>
     rw[q]at h;cases h;obtain⟨s,p,o⟩:=l g q;refine⟨by simpa using s,by simpa using p,λm c d=>?_⟩
     cases m with
     |zero=>simpa using e
     |succ m=>
      have d:m+1 < n+1:=d;simpa using o m (by simpa using c) (by omega)
theorem Js{b:Li vL}(r:Vals (ks.map V.str) b):∀ y∈b,∃ a t,y=.str a t:=by
 induction ks generalizing b with
 |nil=>cases r;intro y hy;exact nomatch hy
 |cons a ks f=>
  cases r with
  |@cons v u vs c e d=>
   intro y hy;rcases aH.mp hy with rfl|hy
   .obtain⟨t,rfl⟩:=e;exact⟨a,t,rfl⟩
   .exact f d y hy
theorem Zfs{y:Str}{x:CE}(K:Cxt X G F sc N)(j:(ap.endLine==cp.line)=true)(r:as.length=1)(B:PE X (.Name y yp) (tE X.K (ev F x)))(A:PA X as (tA X.K (ev F cs))/\Uu cs/\as.all Zi=true/\(as=[]->cs=.aN)):PE X (.Call (.Attribute (.Name y yp) "index" ap) as [] cp) (tE X.K (ev F (.tix x cs))):=by
 obtain⟨PAs,_,M,_⟩:=A;obtain⟨e0,rfl⟩:=Zgw r;intro pQ s O H Q I h;obtain⟨ad,U,st,d,st',E,S,e,p⟩:=h;replace e:Zz (ev F x) (ev F cs) ZfH U st=some (d,st'):=e;unfold Zz at e;split at e
 .rename_i dx g q1
  split at e
  .rename_i dy st2 q2
   unfold ZfH at e;split at e
   .rename_i ks k
    split at e
    .rename_i i hi
     cases e;rw[bA,bA7]at M;refine wpAny_Call_method_late rfl (WU (by rw[bA,M.1];rfl) (by simp)) j rfl (thn (B pQ s O H (λv q=>∃ c,Ext ad H c q/\StOk X.K c q g/\Den X.K c q v (.kt ks)) I ⟨ad,U,st,.kt ks,g,E,S,q1,λv c q D Z W=>⟨c,D,Z,W⟩⟩) λu s1 ⟨v,q,I1,rv,c,D,Z,W⟩=>?_)
     obtain⟨a,o,its,n,rfl,h1,T,h3,h4,h5⟩:=W.ofKt;cases (show u=Value.ref a from rv)
     have ga:s1.heap.get? a=some o:=I1.kIn a o h1;refine⟨"tuple", "tuple.index",PySem.F.plainAttrs_tuple,PySem.F.slot_tuple_index,PySem.F.type_tuple_index,⟨o,ga,T.1⟩,λb eb=>by cases eb;exact⟨o,ga,T.2⟩,?_⟩
     have hA:=PAs cp pQ s1 O q (λvs l=>∃ f,Ext c q f l/\StOk X.K f l st'/\Dens X.K f l vs [.str k]) I1 ⟨c,U,g,[.str k],st',E.mono D,Z,q2,λvs f l J Y V=>⟨f,J,Y,V⟩⟩
     rw[Zd M.1]at hA ⊢;refine Calls.callWith_builtin rfl (Calls.evalArgs_plain (thn hA λus s2 ⟨vs,l,I2,r2,f,J,Y,V⟩=>?_))
     obtain⟨w,rfl,dw⟩:=VM V;cases dw;obtain⟨u1,rfl,L,rfl⟩:=r2.one;have C:s2.heap.get? a=some o:=I2.kIn a o h1;obtain⟨hj,R,P⟩:=J0 (k:=k) (tk:=L) h5 hi;have sz:its.toList.length=its.size:=cX;refine call_meets PySem.F.slot_tuple_index ⟨o,C,T.1⟩ PySem.F.entry_tuple_index (PySem.F.args_tuple_index_2 _ _) (WO a its n o (.str k L) (λy:vL=>match y with
      |.str a _=>a==k
      |_=>false) i (by rw[<-sz];exact hj) (by simpa using R) (λm hm hl=>by
      have z:=P m (by rw[sz];exact hm) hl
      simp only[Array.getElem_toList]at z;exact z) h3) ⟨C,λy hy=>?_,?_⟩
     .obtain⟨b,t,rfl⟩:=Js h5 y (by simpa using hy)
      exact PySem.SeqAt.EqAt.str_str b t k L
     .exact⟨.int (i:Int),l,I2.tok _,⟨_,rfl⟩,p.later (D.trans J) _ f l (Ext.refl _ _) Y (.int _)⟩
    .exact Zb e
   .exact Zb e
  .exact Zb e
 .exact Zb e
theorem ZcM{y:Str}{x:CE}(K:Cxt X G F sc N)(J:(ap.endLine==cp.line)=true)(R:as.length < 20)(B:PE X (.Name y yp) (tE X.K (ev F x)))(A:PA X as (tA X.K (ev F cs))/\Uu cs/\as.all Zi=true/\(as=[]->cs=.aN)):PE X (.Call (.Attribute (.Name y yp) m ap) as [] cp) (tE X.K (ev F (.meth (Y8 m as.length G) x cs))):=by
 obtain⟨PAs,_,hp,hn⟩:=A;intro pQ s O H Q I h;obtain⟨ad,U,st,d,st',E,S,e,p⟩:=h;replace e:X2 F (Y8 m as.length G) (ev F x) (ev F cs) U st=some (d,st'):=e;unfold X2 at e;split at e
 .rename_i o n q1
  split at e
  .rename_i j hj
   split at e
   .rename_i xs t Y
    obtain⟨c,w,hj⟩:=cL.mp hj;obtain⟨cx,ms,subs,ds,hG,hl⟩:=ZfF hj;obtain⟨_,nw,_,hms,_⟩:=K.gl cx _ hG;obtain⟨k,f,fd,pn,Fk,Z,q,hb,_⟩:=hms m j _ hl;have Z:=Z.mono (bV k);refine Zcl rfl (WU hp R) J (thn (B pQ s O H (λv C=>∃ g,Ext ad H g C/\StOk X.K g C n/\Den X.K g C v o) I ⟨ad,U,st,o,n,E,S,q1,λv g C P T L=>⟨g,P,T,L⟩⟩) λu s1 ⟨v,C,I1,rv,g,P,T,L⟩ pl=>?_)
    obtain⟨a,dx,kvs,rfl,ho,nf⟩:∃ a dx kvs,v=.ref a/\C a=some (.ins (ClsTab.ca c) dx kvs)/\kvs.lookup m=none:=by
     cases o with
     |obj i=>cases w;obtain⟨a,dx,rfl,ha⟩:=L.ofObj;exact⟨a,dx,[],rfl,ha,rfl⟩
     |dic i=>
      have w:(match n[i]? with
       |some (_,.int c :: _)=>some c.toNat
       |_=>none)=some c:=w
      split at w
      .rename_i b c' es q0
       cases w;obtain⟨a,rfl,hl1,n1⟩:=L.ofDic;obtain⟨jc,dx,kvs,rfl,r,ho,_,oc,nf⟩:=T.obj hl1 n1 q0;rw[bD]at q ⊢;have hmf:fldNames.contains m=false:=by
        cases z:fldNames.contains m with
        |false=>rfl
        |true=>have z1:=oc.na m z;have z2:=q.at_;unfold NoAttr at z1;rw[z1]at z2;cases z2
       exact⟨a,dx,kvs,rfl,ho,nf m hmf⟩
      .exact Zb w
     |_=>exact Zb w
    cases (show u=Value.ref a from rv)
    refine getmeth_ok I1 ho nw.cl q nf ?_;cases as with
    |nil=>
     have w:=hn rfl;subst w;have Y:some (D.tup [],n)=some (.tup xs,t):=Y;cases Y;exact W.callWith_K0 (first:=[.ref a]) I1.kIn q.kp (run_fn (us:=[.ref a]) (vs:=[.ref a]) (E:=E0) Fk Z hb .nil pass0 I1 (.cons rfl .nil) ⟨g,[o],n,d,st',T,.cons L .nil,e,p.later P⟩)
    |cons e0 es=>
     rw[bA,bA7]at hp;refine W.callWith_K (first:=[.ref a]) (h₀:=X.base) I.ok.mod.kin q.kp (thn (PAs cp pQ s1 O C _ I1 ⟨g,U,n,xs,t,E.mono P,T,Y,λvs l M V S2 d2=>(show(λvs M=>∃ l,Ext g C l M/\StOk X.K l M t/\Dens X.K l M vs xs) vs M from⟨l,V,S2,d2⟩)⟩) λus s2 ⟨vs,M,I2,r,l,V,S2,d2⟩=>⟨I2.kIn,?_⟩) (Zd hp.1) (Yi hp.2)
     refine run_fn (us:=.ref a :: us) (vs:=.ref a :: vs) (E:=E0) Fk Z hb .nil pass0 I2 (.cons rfl r) ?_;rw[bC];exact⟨l,o :: xs,t,d,st',S2,.cons (L.mono V) d2,e,p.later (P.trans V)⟩
   .exact Zb e
  .exact Zb e
 .exact Zb e
theorem ZgN{f:Str}{m:Nat}{p:Pos}(K:Cxt X G F sc N)(hg:Zy sc f=true)(hG:G.lookup f=some (.cls i ms subs ds))(hl:ms.lookup ("__init__":Str)=some (j,m))(hle:as.length+1<=m/\m<=as.length+1+ds.length)(A:PA X as (tA X.K (ev F cs))/\Uu cs/\as.all Zi=true/\(as=[]->cs=.aN)):PE X (.Call (.Name f p) as [] pos) (tE X.K (ev F (.mk i j cs (ds.drop (as.length+1+ds.length - m))))):=by
 obtain⟨hm,u,_,R,_⟩:=K.gl f _ hG;obtain⟨k,fa,fd,pn,Fk,hr,l,_,T⟩:=R _ j m hl;obtain⟨oc,hb⟩:=T rfl;obtain⟨Z,dus,hd,hv,B⟩:=hb (as.length+1+ds.length - m) (by omega)
 obtain⟨PAs,_,M,hn⟩:=A;intro pQ s O H Q I h;obtain⟨ad,U,st,d,st',E,S,e,q⟩:=h;replace e:Zn (ev F cs) (mkR F i j (ds.drop (as.length+1+ds.length - m))) U st=some (d,st'):=e;generalize ds.drop (as.length+1+ds.length - m)=dd at e hd;unfold Zn at e;split at e
 .rename_i x c L
  unfold mkR at e;split at e
  .rename_i xs
   split at e
   .rename_i st2 q2
    cases e;refine wpAny_Call_Name_kw (ld_glob I (K.glb f hg) hm ?_ (YH hg));have C:∀ {vs:Li V}{n:Hp}{b:Li Ad},Ext ad H b n->StOk X.K b n c->Dens X.K b n vs xs->∀ x dx,n x=none->n dx=none->dx≠x->(∀ o,X.K.lookup x≠some o)->spD X.K (F j) (.ref x :: (vs++Z)) (upd (upd n dx (.own x)) x (.ins (ClsTab.ca i) dx [])) (λv g=>v=.non/\Q (.ref x) g) E0:=λ{vs n b} x1 S1 d1 x dx hx z P hk=>by
     have y:upd n dx (.own x) x=none:=by rw[upd_ne P.symm];exact hx
     have w:=S1.laid (o:=.own x) z;have xt:=(Ext.laid (ad:=b) (o:=.own x) z).trans (w.extD (o:=.ins (ClsTab.ca i) dx []) y hk);have Y:(b++[x])[c.length]?=some x:=by rw[<-S1.len];exact ZB
     exact⟨b++[x],.dic c.length :: (xs++dd),_,.non,_,w.pushO y hk oc,.cons (.dic Y ⟨_,upd_same,rfl⟩) ((d1.mono xt).append (hd _ _)),q2,λv a g t S3 J=>⟨J.ofNon,q _ a g (x1.trans (xt.trans t)) S3 (.dic (t.pre _ _ Y) ((t.kd _ _ Y).mp ⟨_,upd_same,rfl⟩))⟩⟩
    cases as with
    |nil=>
     have hc:=hn rfl;subst hc;have L:some (D.tup [],st)=some (.tup xs,c):=L;cases L;exact W.callWith_K0 I.kIn u.kp (run_make (us:=[]) (vs:=[]) (E:=E0) ⟨u.makes,l.at_,l.fn,u.kp⟩ Fk hr B hv pass0 I .nil (C (.refl _ _) S .nil))
    |cons e0 es=>
     rw[bA,bA7]at M;refine W.callWith_K (h₀:=X.base) I.ok.mod.kin u.kp (thn (PAs pos pQ s O H _ I ⟨ad,U,st,xs,c,E,S,L,λvs a g t w J=>(show(λvs g=>∃ a,Ext ad H a g/\StOk X.K a g c/\Dens X.K a g vs xs) vs g from⟨a,t,w,J⟩)⟩) λus s2 ⟨vs,g,I2,r,a,t,w,J⟩=>⟨I2.kIn,?_⟩) (Zd M.1) (Yi M.2)
     exact run_make (E:=E0) ⟨u.makes,l.at_,l.fn,u.kp⟩ Fk hr B hv pass0 I2 r (C t w J)
   .exact Zb e
  .exact Zb e
 .exact Zb e
theorem ZbX{K:fG7}{f:Str}(y:fldNames.contains f=true)(O:L2.St)(H:Hp)(Q:VK)(h:tE K (Zn fa (Xb f)) O H Q):tFld K (tE K fa) f O H Q:=by
 obtain⟨ad,U,st,d,st',E,S,e,p⟩:=h;unfold Zn at e;split at e
 .rename_i x k q
  unfold Xb at e;split at e
  .rename_i a
   split at e
   .rename_i b c es o
    split at e
    .rename_i w m
     cases e;refine⟨ad,U,st,.dic a,_,E,S,q,λv C F i g B=>?_⟩
     obtain⟨l,rfl,t,n⟩:=B.ofDic;obtain⟨j,dx,kvs,rfl,r,s,_,oc,D⟩:=g.obj t n o;obtain⟨u,A,z⟩:=Q1 r m;exact⟨l,_,dx,kvs,u,rfl,s,oc.cl,oc.na f y,A,(p.later i).at g z⟩
    .exact Zb e
   .exact Zb e
  .exact Zb e
 .exact Zb e
theorem Zfm{f:Str}{c:Ot CE}{r:CE}(A:∀ x,c=some x->PE X o (tE X.K (ev F x)))(h:Zgk o f c=some r):PE X (.Attribute o f pos) (tE X.K (ev F r)):=by
 cases o with
 |Name y yp=>exact Yq h λb h=>WB (P:=λr=>PE X _ (tE X.K (ev F r))) h λx a=>Zq (pe_fld (A x a) rfl) (ZbX b)
 |_=>exact Zb h
theorem U1{p:Ot Expr×Ot Expr}(q:Wd b=some p):∃ a,b=.Slice p.1 p.2 none a:=by
 unfold Wd at q;split at q
 .cases q;exact⟨_,rfl⟩
 .exact Zb q
theorem ZgO{op:UnaryOp}{o:Ot CE}{c:CE}(A:∀ x,o=some x->SE X F a x)(h:unC op o=some c):SE X F (.UnaryOp op a pos) c:=by
 cases op with
 |Not=>exact WB (P:=SE X F _) (show o.map CE.not=some c from h) λx b=>⟨Zq (pe_not (A x b).pe) Zaj,WE (pt_not (A x b).pt) Zai⟩
 |USub=>exact WB (P:=SE X F _) (show o.map CE.neg=some c from h) λx b=>.of (Zq (pe_un Zdc (A x b).pe) Zet)
 |_=>exact Zb h
section
variable {X:Cx}{sc:Scope}{N:Li Str}{n:Nat}{c:CE} (K:Cxt X G F sc N) (hf:∀ e c,cE G n sc N e=some c->SE X F e c)
include K hf
theorem Zfl{d:Li CmpOp}{bs:Li Expr}(h:Zf7 G sc (cE G n sc N) (cE G n sc N a) d bs=some c):SE X F (.Compare a d bs pos) c:=by
 cases d with
 |nil=>exact Zb h
 |cons op d=>cases bs with
  |nil=>cases d with
   |nil=>exact Zb h
   |cons _ r=>cases r<;>cases h
  |cons b bs=>cases d with
   |nil=>cases bs with
    |cons _ _=>exact Zb h
    |nil=>
     replace h:(match ZN G sc b with
      |some e=>o3 CE.inR (Zeu op) (cE G n sc N a) (cE G n sc N e)
      |none=>o2 (CE.cmp op) (cE G n sc N a) (cE G n sc N b))=some c:=h
     cases i:ZN G sc b with
     |some e=>
      rw[i]at h;exact Xl (P:=SE X F _) h λl x y k g f=>Zfn K i k (Zf f) (hf a x g).pe (hf e y f).pe
     |none=>
      rw[i]at h;exact ZS (P:=SE X F _) h λx y g f=>⟨Zq (pe_cmpR (QA K.hu) (hf a x g).pe (hf b y f).pe (X1 (Zf f))) Vc,WE (pt_cmpR (QA K.hu) (hf a x g).pe (hf b y f).pe (X1 (Zf f))) λO H Q q=>Vc O H _ (Zam O H Q q)⟩
   |cons j d=>exact Zb h
omit K in
theorem ZcH{op:BoolOp}{vs:Li Expr}{pos:Pos}(h:Zdn (cE G n sc N) op pos vs=some c):SE X F (.BoolOp op vs pos) c:=by
 cases vs with
 |nil=>exact Zb h
 |cons a r=>cases r with
  |nil=>
   have A:=hf a c h;refine⟨pe_one A.pe,?_⟩;cases op with
   |And=>exact(pw_and1 A.pt).pt
   |Or=>exact(pw_or1 A.pt).pt
  |cons b r=>cases op with
   |And=>exact ZS (P:=SE X F _) (show o2 CE.and (cE G n sc N a) (cE G n sc N (.BoolOp .And (b :: r) pos))=some c from h) λx y e d=>⟨Zq (pe_and (hf a x e).pe (hf _ y d).pe) J2,WE (pw_and (hf a x e).pt (Uh (hf _ y d).pt)).pt J1⟩
   |Or=>exact ZS (P:=SE X F _) (show o2 CE.or (cE G n sc N a) (cE G n sc N (.BoolOp .Or (b :: r) pos))=some c from h) λx y e d=>⟨Zq (pe_or (hf a x e).pe (hf _ y d).pe) Zb3,WE (pw_or (hf a x e).pt (Uh (hf _ y d).pt)).pt Zb2⟩
theorem Zfr(d:W4 G F n)(h:ZfD G sc (cE G n sc N) (cO G n sc N) a b=some c):SE X F (.Subscript a b pos) c:=by
 unfold ZfD at h;cases q:Wd b with
 |some p=>
  obtain⟨lo,hi⟩:=p;rw[q]at h;obtain⟨m,rfl⟩:=U1 q;exact Xl (P:=SE X F _) h λx l u f k j=>.of (Zq (pe_slice Zh2 (hf a x f).pe (d X sc N K lo l k) (d X sc N K hi u j)) Q6)
 |none=>
  rw[q]at h;dsimp only at h;cases i:ZdK b with
  |some s=>
   cases i
  |none=>
   rw[i]at h;dsimp only at h;cases g:Qs G sc a with
   |some p=>
    obtain⟨ks,ds⟩:=p;rw[g]at h;exact WB (P:=SE X F _) h λy e=>.of (ZcK K g (Zf e) (hf b y e).pe)
   |none=>
    rw[g]at h;exact ZS (P:=SE X F _) h λx y f e=>.of (Zq (pe_ix (Zhj K.hu) (hf a x f).pe (hf b y e).pe (V0 (Zf e))) Vc)
theorem Za2{f:Str}{p:Pos}(i:Zy sc f=true)(d:X.mg f=none)(h:Jz G sc f a (cE G n sc N)=some c):SE X F (.Call (.Name f p) [a] [] pos) c:=by
 unfold Jz at h;cases j:U5 G sc f a with
 |some e=>
  rw[j]at h;exact Zft K i d j (λc l=>⟨Zf l,(hf e c l).pe⟩) h
 |none=>
  rw[j]at h;dsimp only at h;cases g:UT G sc f a with
  |some q=>
   obtain⟨u,v⟩:=q;rw[g]at h;exact ZS (P:=SE X F _) h λx y b k=>.of (ZcL K i d g (Zf b) (Zf k) (hf u x b).pe (hf v y k).pe)
  |none=>
   rw[g]at h;exact j_e h λh=>WB (P:=λo=>o=some c->SE X F _ c) h (λx b h=>.of (ZcF K i d (Zf b) (hf a x b).pe h)) rfl
theorem Za3{f:Str}{p:Pos}(i:Zy sc f=true)(e:X.mg f=none)(h:JA G sc f a b (cE G n sc N)=some c):SE X F (.Call (.Name f p) [a,b] [] pos) c:=by
 unfold JA at h;by_cases k:f = "isinstance"
 .subst k
  rw[if_pos rfl]at h;cases g:UG G sc b with
  |some l=>
   rw[g]at h;exact WB (P:=SE X F _) h λx q=>.of (Zfo K i e (Zf q) (hf a x q).pe g)
  |none=>
   rw[g]at h;exact ZS (P:=SE X F _) h λx T d m=>.of (Zfp K i e (Zf d) (hf a x d).pe m)
 .rw[if_neg k]at h
  exact j_e h λh=>ZS (P:=λo=>o=some c->SE X F _ c) h (λx y d j h=>.of (ZcG K i e (Zf d) (Zf j) (hf a x d).pe (hf b y j).pe h)) rfl
theorem Za4(k:Yw G F n){f:Str}{p:Pos}(h:JB G sc f as (cEs G n sc N as) (cE G n sc N)=some c):SE X F (.Call (.Name f p) as [] pos) c:=by
 unfold JB at h;cases d:Zy sc f with
 |false=>rw[d]at h;cases h
 |true=>
 rw[d,if_pos rfl]at h;cases j:G.lookup f with
 |none=>rw[j]at h;cases h
 |some g=>
  rw[j]at h;cases g with
  |fn i r ds=>exact Yq h λm h=>WB (P:=SE X F _) h λcs e=>.of (ZcI K d j m (k X sc N K as cs e))
  |blt=>
   have l:X.mg f=none:=K.gl f _ j;cases as with
   |nil=>exact Zb h
   |cons a as=>cases as with
    |nil=>exact Za2 K hf d l h
    |cons b as=>cases as with
     |nil=>exact Za3 K hf d l h
     |cons _ _=>exact Zb h
  |cls i ms subs ds=>
   dsimp only at h;cases hi:ms.lookup ("__init__":Str) with
   |some q=>
    rw[hi]at h;exact Yq h λo h=>WB (P:=SE X F _) h λcs e=>.of (ZgN K d j hi o (k X sc N K as cs e))
   |none=>
    rw[hi]at h;cases as with
    |cons _ _=>exact Zb h
    |nil=>cases h;exact .of (Zfq K d j hi)
  |_=>exact Zb h
theorem ZcE(f:Yw G F n){j:Expr}(h:Zdm G j m ap as pos (cEs G n sc N as) (cE G n sc N)=some c):SE X F (.Call (.Attribute j m ap) as [] pos) c:=by
 cases j with
 |Dict ks vs q=>cases as with
  |nil=>exact Zb h
  |cons a as=>cases as with
   |nil=>exact Zb h
   |cons b as=>cases as with
    |cons _ _=>exact Zb h
    |nil=>
     refine Yq h λi h=>Xl (P:=SE X F _) h λx y z g l k=>?_
     obtain⟨rfl,d⟩:=i;exact .of (ZcJ K d (Zf l) (Zf k) (hf _ x g).pe (hf a y l).pe (hf b z k).pe)
 |Name y yp=>
  refine Yq h λi h=>?_
  by_cases o:m = "index"
  .subst o
   rw[if_pos rfl]at h;exact Yq h λp h=>ZS (P:=SE X F _) h λx cs g e=>.of (Zfs K i.1 p (hf _ x g).pe (f X sc N K as cs e))
  .rw[if_neg o]at h
   exact ZS (P:=SE X F _) h λx cs g e=>.of (ZcM K i.1 i.2 (hf _ x g).pe (f X sc N K as cs e))
 |_=>exact Zb h
end
theorem U2(I:Zo G F n)(j:Yw G F n)(H:W4 G F n)(s:∀ X sc N,Cxt X G F sc N->∀ l gens i pos c,cE G (n+1) sc N (.ListComp l gens i pos)=some c->SE X F (.ListComp l gens i pos) c):Zo G F (n+1):=by
 intro X sc N K e c h;have g:=I X sc N K;have no:∀ {P:Prop},(none:Ot CE)=some c->P:=λz=>nomatch z
 cases e with
 |Constant v k pos=>exact Za5 h
 |Name x pos=>exact ZcN K h
 |BinOp a op b pos=>exact ZS (P:=SE X F _) (show o2 (CE.bin op) (cE G n sc N a) (cE G n sc N b)=some c from h) λx y w C=>.of (Zq (pe_op Zcs (g a x w).pe (g b y C).pe) Vc)
 |UnaryOp op a pos=>exact ZgO (g a) h
 |Compare a J bs pos=>exact Zfl K g h
 |BoolOp op vs pos=>exact ZcH g h
 |IfExp t a b pos=>exact Xl (P:=SE X F _) (show o3 CE.ife (cE G n sc N t) (cE G n sc N a) (cE G n sc N b)=some c from h) λz x y r w C=>⟨Zq (pe_ifExp (g t z r).pt (g a x w).pe (g b y C).pe) Zes,ZeS (g t z r).pt (g a x w).pt (g b y C).pt⟩
 |Tuple es k pos=>
  refine WB (P:=SE X F _) (show(cEs G n sc N es).map CE.tupE=some c from h) λx q=>?_
  obtain⟨A,D,_,_⟩:=j X sc N K es x q;exact .of (Zq (pe_tup A) (Zb7 (λU st ds st' e=>by obtain⟨u,z,r⟩:=W7 D e;cases z;exact r) λU st d st' e=>by obtain⟨u,z,r⟩:=W7 D e;exact⟨u,z⟩))
 |List es pos=>
  refine WB (P:=SE X F _) (show(cEs G n sc N es).map CE.lstE=some c from h) λx q=>?_
  obtain⟨A,D,_,_⟩:=j X sc N K es x q;exact .of (Zq (pe_lst A) (Zb0 λU st ds st' e=>by obtain⟨u,z,r⟩:=W7 D e;cases z;exact r))
 |Dict keys B pos=>cases keys with
  |nil=>cases B with
   |nil=>cases h;exact .of (Zq ZaU J6)
   |cons _ _=>exact Zb h
  |cons M keys=>exact Zb h
 |Attribute o f pos=>exact .of (Zfm (λx w=>(g o x w).pe) h)
 |Subscript a b pos=>exact Zfr K g H h
 |Call f as E pos=>cases E with
  |cons _ _=>exact no h
  |nil=>cases f with
   |Attribute L m ap=>exact ZcE K g j h
   |Name f p=>exact Za4 K g j h
   |_=>exact no h
 |ListComp l gens i pos=>exact s X sc N K l gens i pos c h
 |_=>exact no h
theorem Uo(a:Zo G F n)(b:Yw G F n):Yw G F (n+1):=by
 intro X sc N K es c h;cases es with
 |nil=>
  simp only[cEs]at h;cases h;exact⟨ZaS pa_nil VS,trivial,rfl,λ_=>rfl⟩
 |cons e es=>
  refine ZS (P:=λc=>PA X _ (tA X.K (ev F c))/\Uu c/\_/\(_->c=.aN)) (show o2 CE.aC (cE G n sc N e) (cEs G n sc N es)=some c from h) λx r d f=>?_
  obtain⟨A,i,g,_⟩:=b X sc N K es r f;exact⟨ZaS (pa_cons (a X sc N K e x d).pe A (Zd (Zf d))) Q4,trivial,by rw[bA,g,Zf d];rfl,λz=>nomatch z⟩
theorem Up(b:Zo G F n):W4 G F (n+1):=by
 intro X sc N K e c h;cases e with
 |none=>
  simp only[cO]at h;cases h;exact ZaV po_none Zb1
 |some e=>
  simp only[cO]at h;cases q:cE G n sc N e with
  |none=>rw[q]at h;cases h
  |some x=>
   rw[q]at h;cases h;refine ZaV (po_some (b X sc N K e x q).pe) λO H Q k=>?_
   obtain⟨ad,U,st,d,st',E,S,a,p⟩:=k;have a:Zn (ev F x) Uf U st=some (d,st'):=a;unfold Zn at a;split at a
   .rename_i y f g
    cases y with
    |int i=>
     cases a;rcases p with⟨z,_⟩|⟨j,z,p⟩
     .cases z
     .cases z
      exact⟨ad,U,st,.int i,_,E,S,g,λv ad' H' x m l=>⟨i,l.ofInt,p ad' H' x m⟩⟩
    |_=>simp[Uf]at a
   .exact Zb a
end
variable [ClsTab]
variable{α β:Type}
theorem b_e{P:Prop}{o:Ot α}{f:α->Ot β}{c:β}(h:o.bind f=some c)(k:∀ x,o=some x->f x=some c->P):P:=by
 cases o with
 |none=>exact Zb h
 |some x=>exact k x rfl h
theorem ZdI{s:Stmt}{t u:TS}(b:PS X s t)(a:PS X s u):PS X s (λD O H=>t D O H\/u D O H):=λpQ s O H D I q=>q.elim (b pQ s O H D I) (a pQ s O H D I)
variable{l:Nat}
theorem Y4{a:Ot Expr}(h:Yc e=false):swapsWith e a l env=pure false:=by
 cases e<;>first|rfl|cases h
variable{tg:Expr}
theorem Yo(h:Yc e=false):swapsWithSole [tg] e l env=pure false:=Y4 h
theorem Xe{k:Expr}{p:Pos}(h:Zi k=true):∀ v,assign (.Subscript o k p) env v=(do
   let a <-holding [v] (eval o env)
   let b <-holding [v,a] (eval k env)
   standAt p
   holding [v,a,b] (setItem a b v)
   release [v,a,b] []):=by
 cases k<;>first | (intro _;rfl)|cases h
theorem Xp{k:Expr}{p:Pos}:swappedStores [.Subscript o k p] e env=pure none:=by
 cases e<;>rfl
theorem ZC(h:Zi e=true):∀ x,foldedSetIterable e env x=pure x:=by
 cases e<;>first | (intro _;rfl)|cases h
structure CxtS(X:Cx)(G:Gs)(F:Nat->Fn)(sc:Scope)(N:List Str):Prop extends Cxt X G F sc N where
 nd:N.Nodup
 loc:∀ x∈N,Loc X.env.scope x
 fn:∀ x,X.fn x=true
variable{it elt:Expr}{gens:Li Comprehension}{sc2:Scope}{tp p2 p3 q:Pos}{ctx tk t' kk:Nat}{z:Str}{ta:TA}{h' h:Heap}{i1 i2:Ad}{elts:Li Expr}{fi:Ev}
section
def Uw(G:Gs)(F:Nat->Fn)(n:Nat):Prop:=∀ X sc N,CxtS X G F sc N->∀ s c,cS G n sc N s=some c->PS X s (tS X.K (ex F c))
def ZH(G:Gs)(F:Nat->Fn)(n:Nat):Prop:=∀ X sc N,CxtS X G F sc N->∀ s c,cSs G n sc N s=some c->PSs X s (tS X.K (ex F c))
theorem Vb{x:Str}(h:N.idxOf? x=some i):x∈N:=aZ (Xh h)
theorem Z3{x:Str}{p:Pos}(K:CxtS X G F sc N)(h:N.idxOf? x=some i):PG X (.Name x p) (gName i):=
 pg_name (by rw[K.hN];exact K.nd) (by rw[K.hN];exact Xh h) (K.loc x (Vb h)) (.inl (K.fn x))
theorem passes(K:CxtS X G F sc N):PassesOwn (model X.prog X.w) X.A X.env X.xe:=by
 rw[K.nx];exact PassesOwn.never
theorem Ug{x:Str}{p:Pos}(K:Cxt X G F sc N)(a:Y0 sc x=true)(hi:N.idxOf? x=some i):PE X (.Name x p) (tVar i):=
 pe_var (by rw[K.hN];exact Xh hi) (K.vis _ a) (Vk a).1 (Vk a).2
theorem X4{x:CE}(K:Cxt X G F sc N)(h:ZN G sc it=some a)(b:Zi a=true)(A:PE X a (tE X.K (ev F x))):Zi it=true/\PI X tg it (iRng1 (tCons (tE X.K (ev F x)) tNil)):=by
 obtain⟨_,_,rfl,d,c⟩:=WM K h;exact⟨rfl,pi_range1 d c (pa1 b A) (Zd b)⟩
def Wg(G:Gs)(F:Nat->Fn)(n:Nat):Prop:=∀ X sc N,CxtS X G F sc N->∀ (x:Str) (i:Nat) (p:Pos) elt gens sc2 epos (pos:Pos) c,N.idxOf? x=some i->cE G n sc N (.ListComp elt gens sc2 epos)=some c->
 swapsWith (.ListComp elt gens sc2 epos) (some (.Name x p)) pos.line X.env=pure true->PS X (.Assign [.Name x p] (.ListComp elt gens sc2 epos) pos) (tAsg (tE X.K (ev F c)) (gName i))
theorem U3{epos p:Pos}{x:Str}:∃ b:Bool,swapsWith (.ListComp elt gens sc2 epos) (some (.Name x p)) l env=pure b:=⟨_,rfl⟩
theorem ZaK{c:CE}(h:cE G n sc N e=some c):Yc e=false\/∃ elt gens sc2 a,e=.ListComp elt gens sc2 a:=by
 cases n with
 |zero=>exact nomatch (show(none:Ot CE)=some c from h)
 |succ n=>cases e<;>first|exact .inl rfl|exact .inr ⟨_,_,_,_,rfl⟩|exact nomatch (show(none:Ot CE)=some c from h)
theorem Zfw(a:Zo G F n)(m:Wg G F n)(K:CxtS X G F sc N){c:CS}{x:Str}{p:Pos}(h:o2 CS.set (N.idxOf? x) (cE G n sc N e)=some c):PS X (.Assign [.Name x p] e pos) (tS X.K (ex F c)):=by
 refine ZS (P:=λc=>PS X _ (tS X.K (ex F c))) h λi y hi d=>?_
 have f:∀ g,PS X (.Assign [.Name x p] e pos) (tAsg (tE X.K (ev F y)) (gName i)):=λg=>ps_set (by rw[K.hN];exact K.nd) (by rw[K.hN];exact Xh hi) (K.loc _ (Vb hi)) (a X sc N K.toCxt _ y d).pe g (.inl (K.fn _))
 rcases ZaK d with k|⟨elt,gens,sc2,epos,rfl⟩
 .exact Zs (f (Y4 k)) Vd
 .obtain⟨b,j⟩:=U3 (elt:=elt) (gens:=gens) (sc2:=sc2) (epos:=epos) (p:=p) (x:=x) (l:=pos.line) (env:=X.env)
  cases b with
  |false=>exact Zs (f j) Vd
  |true=>exact Zs (m X sc N K _ i p elt gens sc2 epos pos y hi d j) Vd
theorem WG{a:Li Expr}{k:Nat}(h:VZ e=false):swappedStores [.Tuple a k tp] e env=pure none:=by
 cases e with
 |Tuple=>cases h
 |_=>rfl
theorem Zc1(a:Zo G F n)(K:CxtS X G F sc N){c:CS}{x y:Str}{p:Pos}(h:og ((Yc e||VZ e)=false) (o3 (λi j c=>og (i≠j) (some (CS.set2 i j c))) (N.idxOf? x) (N.idxOf? y) (cE G n sc N e)).join=some c):PS X (.Assign [.Tuple [.Name x p,.Name y p2] ctx tp] e pos) (tS X.K (ex F c)):=by
 refine Yq h λb h=>j_e h λh=>Xl (P:=λo=>o=some c->PS X _ (tS X.K (ex F c))) h (λi j g hi f d h=>Yq h λ_ h=>?_) rfl
 cases h;rw[Bool.or_eq_false_iff]at b;exact Zs (ps_asg (a X sc N K.toCxt _ g d).pe (pg_tup K.calm (pgs_cons (Z3 K hi) (pgs_cons (Z3 K f) pgs_nil))) (Yo b.1) (WG b.2)) Zak
theorem Zc2(a:Zo G F n)(K:CxtS X G F sc N){c:CS}{x y:Str}{p:Pos}(h:og ((Yc e||VZ e)=false) (o3 (λi j (p:Nat×CE)=>CS.set3 i j p.1 p.2) (N.idxOf? x) (N.idxOf? y) (o2 Prod.mk (N.idxOf? z) (cE G n sc N e)))=some c):PS X (.Assign [.Tuple [.Name x p,.Name y p2,.Name z p3] ctx tp] e pos) (tS X.K (ex F c)):=by
 refine Yq h λb h=>Xl (P:=λc=>PS X _ (tS X.K (ex F c))) h λi j q hi k f=>ZS (P:=λq=>PS X _ (tS X.K (ex F (.set3 i j q.1 q.2)))) f λl m g d=>?_
 rw[Bool.or_eq_false_iff]at b;exact Zs (ps_asg (a X sc N K.toCxt _ m d).pe (pg_tup K.calm (pgs_cons (Z3 K hi) (pgs_cons (Z3 K k) (pgs_cons (Z3 K g) pgs_nil)))) (Yo b.1) (WG b.2)) Zal
theorem Zfu(a:Zo G F n)(K:CxtS X G F sc N){c:CS}{f:Str}{d:Pos}{b:Li Keyword}(h:(cE G n sc N (.Call (.Name f d) as b cp)).map CS.act=some c):PS X (.Expr (.Call (.Name f d) as b cp) pos) (tS X.K (ex F c)):=by
 obtain⟨g,e,rfl⟩:=dM.mp h;exact Zs (ps_expr (a X sc N K.toCxt _ g e).pe rfl) Qm
theorem Zfx(a:Zo G F n)(K:CxtS X G F sc N){c:CS}{x:Str}{k:Expr}{p:Pos}(h:ZgH sc N x k e (cE G n sc N)=some c):PS X (.Assign [.Subscript (.Name x p) k q] e pos) (tS X.K (ex F c)):=
 Yq h λd h=>by
 exact Xl (P:=λc=>PS X _ (tS X.K (ex F c))) h λ_ g y hi b f=>Zs (ZdI (ps_asg (a X sc N K.toCxt _ y f).pe (pg_sub (Ug K.toCxt d.2.2 hi) (a X sc N K.toCxt _ g b).pe set_list (Xe (Zf b))) (Yo d.1) Xp) (Zs (ps_asg (a X sc N K.toCxt _ y f).pe (pg_sub (Zq (Ug K.toCxt d.2.2 hi) Qn) (a X sc N K.toCxt _ g b).pe (Zbc (by have:=K.toCxt.hu;omega)) (Xe (Zf b))) (Yo d.1) Xp) VW)) Zb4
theorem ZcR(a:Zo G F n)(K:CxtS X G F sc N){c:CS}{k:Expr}(h:og (Yc e=false/\Zex k=false) (o3 (CS.dput 0) (cE G n sc N o) (cE G n sc N k) (cE G n sc N e))=some c):PS X (.Assign [.Subscript o k q] e pos) (tS X.K (ex F c)):=
 Yq h λg h=>Xl (P:=λc=>PS X _ (tS X.K (ex F c))) h λi j l d b f=>Zs (ps_asg (a X sc N K.toCxt _ l f).pe (pg_sub (a X sc N K.toCxt _ i d).pe (a X sc N K.toCxt _ j b).pe (Zbc (by have:=K.toCxt.hu;omega)) (Xe (Zf b))) (Yo g.1) Xp) VW
theorem Zc0(a:Zo G F n)(K:CxtS X G F sc N){c:CS}{x f:Str}{p:Pos}(h:og (Yc e=false/\Y0 sc x=true/\fldNames.contains f=true) (o2 (λi c=>CS.fset i f c) (N.idxOf? x) (cE G n sc N e))=some c):PS X (.Assign [.Attribute (.Name x p) f q] e pos) (tS X.K (ex F c)):=
 Yq h λb h=>ZS (P:=λc=>PS X _ (tS X.K (ex F c))) h λi g hi d=>Zs (ps_fld (Ug K.toCxt b.2.1 hi) (a X sc N K.toCxt _ g d).pe (Y4 b.1)) (Zag b.2.2)
theorem Zfy(a:Zo G F n)(K:CxtS X G F sc N){c:CS}(h:(cE G n sc N e).map CS.ret=some c):PS X (.Return (some e) pos) (tS X.K (ex F c)):=
 WB (P:=λc=>PS X _ (tS X.K (ex F c))) h λx q=>Zs (ps_ret (a X sc N K.toCxt _ x q).pe) Zb5
theorem ZgP(f:Zo G F n)(d:ZH G F n)(K:CxtS X G F sc N){c:CS}{a b:Li Stmt}(h:o3 CS.ite (cE G n sc N e) (cSs G n sc N a) (cSs G n sc N b)=some c):PS X (.If e a b pos) (tS X.K (ex F c)):=
 Xl (P:=λc=>PS X _ (tS X.K (ex F c))) h λk m l g j i=>Zs (ps_if (f X sc N K.toCxt _ k g).pt (d X sc N K _ m j) (d X sc N K _ l i)) ZbZ
theorem Ji{P:Program}{K:fG7}(it:Ad)(lo c:Int)(n:Nat):Turn P w K tg (Its lo c n) [it] it (λi h=>IsRangeIter h it (lo+(i:Nat) * c) ((n:Int) - (i:Nat)) c) where
 mem:=by simp
 obj:=λi h st b a=>by
  have e:b=it:=by simpa using a
  subst e;exact⟨_,st,λv z=>by
   have u:Data.fields _=Data.cell v:=z;cases u⟩
 keep:=λi h h' st k=>k it (by simp) _ st
 item:=by
  intro X l f m j i pQ s O H E I d st g;subst l f m;obtain⟨f0,f1,y,r,q,p⟩:=d it (by simp)
  have W:=Walks.range (prog:=X.prog) (w:=X.w) (I.ok.hd j) it lo c n;refine W.item i s _ _ g st λv h' tk x st' kk=>?_
  obtain⟨t,rfl⟩:=x;have B:L2.Inv X pQ O H { s with heap:=h',toks:=tk }:=I.turned (λb o a e=>kk b o (by simpa using a) e) f0 f1 r q p
  exact⟨_,rfl,go_of (s:={ s with heap:=h',toks:=tk }) (n := "range_iterator") st' rfl rfl (by decide) ⟨.int (lo+i * c),H,B,⟨t,rfl⟩,⟨rfl,rfl⟩,st',λb a=>(d b a).1⟩⟩
 done:=by
  intro X l f m j i pQ s O H E I d st g;subst l f m;obtain⟨f0,f1,y,r,q,p⟩:=d it (by simp)
  exact wpAny_pyNext_range_end (I.ok.hd j) st (by have:n<=i:=g;omega) λh' A=>⟨rfl,I.turned (t':=s.toks) (λb o a e=>A b o a e) f0 f1 r q p⟩
 self:=λ_ _ _ _ _ st h=>wpAny_pyIter_rangeiter st h
theorem X5{a b c:Int}(h:YM a b c=true):((Z5 a b c:Nat):Int)=Builtin.Range.rangeSize a b c/\Builtin.Range.small a b c=true/\c≠0/\c.natAbs < 1073741824:=by
 have h:=of_decide_eq_true h;obtain⟨⟨i,g⟩,⟨f,e⟩,d⟩:=h;unfold Z5 Builtin.Range.small Builtin.Range.rangeSize;rcases d with rfl|rfl|rfl|rfl|rfl
 all_goals
  simp only[Builtin.Range.rangeFitsLong,bA7,cC,decide_eq_true_eq,beq_iff_eq,gt_iff_lt,Int.neg_neg,Int.ediv_one];refine⟨?_,?_,by decide,by decide⟩
  .split
   .split<;>omega
   .split<;>omega
  .refine⟨⟨by omega,?_⟩,.inr ?_⟩
   .constructor
    .repeat' split
     all_goals omega
    .repeat' split
     all_goals omega
   .simp
    omega
theorem WX{s:sH7}{R:It->Hp->Prop}{lo hi c:Int}{t u v:Tok}(I:L2.Inv X pQ O H s)(ok:YM lo hi c=true)(q:R (Its lo c (Z5 lo hi c)) H):wpAny (model X.prog X.w) X.A (pyIter (.ref s.heap.objs.size)) (PIE X pQ O tg R) E { s with heap:=s.heap.push { cls:=.type "range",data:=.fields #[.int lo t,.int hi u,.int c v] },toks:=tk }:=by
 obtain⟨f,d,_,_⟩:=X5 ok;refine wpAny_pyIter_range (IsRange.new ..) d ?_;have a:L2.Inv X pQ O H { s with heap:=s.heap.push { cls:=.type "range",data:=.fields #[.int lo t,.int hi u,.int c v] },toks:=tk }:=I.kept λb o e=>aO _ e
 refine⟨(s.heap.push { cls:=.type "range",data:=.fields #[.int lo t,.int hi u,.int c v] }).objs.size,[(s.heap.push { cls:=.type "range",data:=.fields #[.int lo t,.int hi u,.int c v] }).objs.size],_,_,H,rfl,
  a.kept (t':=tk) λb o e=>aO _ e,Ji _ lo c (Z5 lo hi c),?_,λb g=>?_,q⟩
 .have i:lo+((0:Nat):Int) * c=lo:=by simp
  have h:((Z5 lo hi c:Nat):Int) - ((0:Nat):Int)=Builtin.Range.rangeSize lo hi c:=by rw[f];simp
  show IsRangeIter _ _ (lo+((0:Nat):Int) * c) (((Z5 lo hi c:Nat):Int) - ((0:Nat):Int)) c;rw[i,h];exact aY _ rfl
 .have e:b=(s.heap.push { cls:=.type "range",data:=.fields #[.int lo t,.int hi u,.int c v] }).objs.size:=by simpa using g
  subst e;exact a.fpOk (aD _) (a.hok.fresh (aD _))
theorem Jd{p:Pos}(D:Gl X "range")(C:X.mg "range"=none)(E:PA X as ta)(g:as.all Zi=true)(L:(∃ a b,as=[a,b])\/∃ a b c,as=[a,b,c]):PI X tg (.Call (.Name "range" p) as [] pos) (Zdw ta):=by
 intro pQ s O H R I h;have u:∀ {m:Li vL}{n:sH7}{vs:Li V}{x:Hp},L2.Inv X pQ O x n->Vals vs m->(∃ (i j c:Int),(vs=[.int i,.int j]/\c=1\/vs=[.int i,.int j,.int c])/\YM i j c=true/\R (Its i c (Z5 i j c)) x)->
   wpAny (model X.prog X.w) X.A (call (.type "range") m) (λv J=>wpAny (model X.prog X.w) X.A (pyIter v) (PIE X pQ O tg R) X.xe J) X.xe n:=λ{m n vs x} l k o=>by
  obtain⟨i,j,c,e,ok,q⟩:=o;rcases e with⟨rfl,rfl⟩|rfl
  .cases k with
   |cons r f=>
    cases f with
    |cons y f=>
     cases f;obtain⟨t,rfl⟩:=r;obtain⟨t',rfl⟩:=y;exact call_range_2 (WX l ok q)
  .cases k with
   |cons r f=>
    cases f with
    |cons y f=>
     cases f with
     |cons K f=>
      cases f;obtain⟨t,rfl⟩:=r;obtain⟨t',rfl⟩:=y;obtain⟨M,rfl⟩:=K;obtain⟨_,_,G,F⟩:=X5 ok;exact call_range_3 G (WX l ok q) (.inl (PyProof.noPylong_small F))
 rcases L with⟨a,b,rfl⟩|⟨a,b,c,rfl⟩
 .rw[bA,bA,bA7,bA7]at g
  have d:starEach [b] X.env=[(false,eval b X.env)]:=Zd g.2.1;have B:starEach [a,b] X.env=[(false,eval a X.env),(false,eval b X.env)]:=by rw[Zd g.1,d]
  exact Call_ (ld_blt I D C boot_range (PyProof.Rows.callWith_type1 (thn (E pos pQ s O H _ I h) λm n ⟨vs,x,l,k,o⟩=>u l k o) (by rw[B,d]) (by rw[d];rfl)))
 .rw[bA,bA,bA,bA7,bA7,bA7]at g
  have z:starEach [c] X.env=[(false,eval c X.env)]:=Zd g.2.2.1;have d:starEach [b,c] X.env=[(false,eval b X.env),(false,eval c X.env)]:=by rw[Zd g.2.1,z]
  have B:starEach [a,b,c] X.env=[(false,eval a X.env),(false,eval b X.env),(false,eval c X.env)]:=by rw[Zd g.1,d]
  exact Call_ (ld_blt I D C boot_range (PyProof.Rows.callWith_type1 (thn (E pos pQ s O H _ I h) λm n ⟨vs,x,l,k,o⟩=>u l k o) (by rw[B,d]) (by rw[d];rfl)))
theorem X8(K:Cxt X G F sc N)(h:Xa G sc it=some as):∃ p pos,it=.Call (.Name "range" p) as [] pos/\Gl X "range"/\X.mg "range"=none/\((∃ a b,as=[a,b])\/∃ a b c,as=[a,b,c]):=by
 obtain⟨bs,i,g⟩:=cL.mp h;obtain⟨p,pos,rfl,e,d⟩:=W9 K i;refine Yq g λhl f=>?_
 cases f;refine⟨p,pos,rfl,e,d,?_⟩;cases as with
 |nil=>rcases hl with hl|hl<;>cases hl
 |cons a as=>cases as with
  |nil=>rcases hl with hl|hl<;>cases hl
  |cons b as=>cases as with
   |nil=>exact .inl ⟨_,_,rfl⟩
   |cons c as=>cases as with
    |nil=>exact .inr ⟨_,_,_,rfl⟩
    |cons _ _=>rcases hl with hl|hl<;>cases hl
theorem ZcU(d:Yw G F n)(a:ZH G F n)(K:CxtS X G F sc N){c:CS}{x:Str}{b:Li Stmt}{p:Pos}(f:Xa G sc it=some as)(h:o3 CS.for3 (N.idxOf? x) (cEs G n sc N as) (cSs G n sc N b)=some c):PS X (.For (.Name x p) it b [] pos) (tS X.K (ex F c)):=by
 refine Xl (P:=λc=>PS X _ (tS X.K (ex F c))) h λi o q hi l m=>?_
 obtain⟨r,p2,rfl,k,g,j⟩:=X8 K.toCxt f;obtain⟨A,_,e,_⟩:=d X sc N K.toCxt as o l;exact Zs (ps_for (passes K) K.calm (Jd k g A e j) (Z3 K hi) (a X sc N K _ q m) (ZC rfl)) J7
theorem ZcS(e:Zo G F n)(d:ZH G F n)(K:CxtS X G F sc N){c:CS}{x:Str}{b:Li Stmt}{p:Pos}(h:(match ZN G sc it with
   |some a=>o3 (λi c b=>CS.for1 i true c b) (N.idxOf? x) (cE G n sc N a) (cSs G n sc N b)
   |none=>o3 (λi c b=>CS.for1 i false c b) (N.idxOf? x) (cE G n sc N it) (cSs G n sc N b))=some c):PS X (.For (.Name x p) it b [] pos) (tS X.K (ex F c)):=by
 cases j:ZN G sc it with
 |some a=>
  rw[j]at h;refine Xl (P:=λc=>PS X _ (tS X.K (ex F c))) h λi o g hi q f=>?_
  obtain⟨m,l⟩:=X4 K.toCxt j (Zf q) (e X sc N K.toCxt a _ q).pe;exact Zs (ps_for (passes K) K.calm l (Z3 K hi) (d X sc N K _ g f) (ZC m)) Zae
 |none=>
  rw[j]at h;refine Xl (P:=λc=>PS X _ (tS X.K (ex F c))) h λi o g hi q f=>?_
  have A:=(e X sc N K.toCxt _ _ q).pe;have k:=ZC (env:=X.env) (Zf q);exact Zs (ZdI (ps_for (passes K) K.calm (pi_tup A) (Z3 K hi) (d X sc N K _ g f) k) (ps_for (passes K) K.calm (pi_list A) (Z3 K hi) (d X sc N K _ g f) k)) Zac
theorem YZ{s:sH7}{wr:Li Ad}(I:L2.Inv X pQ O H s)(d:∀ b∈wr,FpOk X pQ H b)(k:∀ b o,b∉wr->s.heap.get? b=some o->h'.get? b=some o):L2.Inv X pQ O H { s with heap:=h',toks:=t' }:=by
 have g:∀ b u,H b=some u->b∉wr:=λb u e f=>by have:=(d b f).1;rw[e]at this;cases this
 refine I.step (g':=s.gens) (d':=s.drawn) (ch:=wr) (λb f=>⟨(d b f).2.2.2.1,(d b f).2.1,(d b f).2.2.2.2.1,(d b f).2.2.2.2.2⟩) (λb o _ _ a e _=>k b o a e) (λb o _ _ a e _=>⟨o.slots,k b o a e⟩)
  (λb o _ e n=>n) (λb o a e=>⟨o,k b o a e⟩) (λb ys e=>e) (λb o u e=>e) (λb l e=>⟨#[],by rw[e];simp⟩) (λm i=>?_) (λb u e=>?_) I.bare
 .obtain⟨o,es,j,h,r⟩:=i
  exact⟨o,es,j,k _ o (λz=>(d _ z).2.1 rfl) h,r⟩
 .refine(I.hok b u e).stay (λc v a q=>k c v ?_ q) (λc q=>q) λc ys q=>q
  rcases a with z|z
  .rw[z];exact g b u e
  .exact g c _ z
theorem YA{s:sH7}{wr:Li Ad}{T:Ad}{xs:Li V}(I:L2.Inv X pQ O H s)(f:∀ b∈wr,FpOk X pQ H b)(k:∀ b o,b∉wr->s.heap.get? b=some o->h'.get? b=some o)(i:s.heap.objs.size<=T)(new:ObjOk X.prog X.w (upd H T (.tup xs)) h' T (.tup xs)):L2.Inv X pQ O (upd H T (.tup xs)) { s with heap:=h',toks:=t' }:=by
 have g:H T=none:=I.hok.fresh i;have j:∀ b u,s.heap.get? b=some u->b≠T:=λb u e=>aW (aS (aI e) i)
 have h:∀ b u,H b=some u->b∉wr:=λb u e a=>by have:=(f b a).1;rw[e]at this;cases this
 refine I.step (g':=s.gens) (d':=s.drawn) (ch:=wr) (λb a=>⟨(f b a).2.2.2.1,(f b a).2.1,(f b a).2.2.2.2.1,(f b a).2.2.2.2.2⟩) (λb o _ _ d e _=>k b o d e) (λb o _ _ d e _=>⟨o.slots,k b o d e⟩)
  (λb o _ e n=>by rw[upd_ne (j b o e)];exact n) (λb o d e=>⟨o,k b o d e⟩) (λb ys e=>by rw[upd_ne (ne_of_none e g)];exact e) (λb o u e=>by rw[upd_ne (ne_of_none e g)];exact e) (λb x e=>⟨#[],by rw[upd_ne (ne_of_none e g),e];simp⟩) (λm p=>?_) (λb u e=>?_) I.bare
 .obtain⟨o,es,t,l,r⟩:=p
  exact⟨o,es,t,k _ o (λz=>(f _ z).2.1 rfl) l,r⟩
 .by_cases a:b=T
  .subst a;rw[upd_same]at e;cases e;exact new
  .rw[upd_ne a]at e
   refine(I.hok b u e).stay (λc v d q=>k c v ?_ q) (λc q=>by rw[upd_ne (ne_of_none q g)];exact q) λc ys q=>by rw[upd_ne (ne_of_none q g)];exact q
   rcases d with z|z
   .rw[z];exact h b u e
   .exact h c _ z
theorem Vv{s:sH7}{a:Ad}{xs:Li V}(I:L2.Inv X pQ O H s)(g:SqL X.K H a xs)(f:SqL X.K H a ys):ys=xs:=by
 obtain⟨i1,d,⟨i,k,g1,_,_,h⟩,_⟩:=I.list g;obtain⟨i2,c,⟨o2,j,g2,_,_,b⟩,_⟩:=I.list f;rw[g1]at g2;cases g2;rw[h]at b;have e:i1.toArray=i2.toArray:=by injection b
 have e:i1=i2:=by simpa using e
 subst e;exact Vals.inj c d
theorem XW{a b:String}{p:Prop}(h:Value.type a=Value.type b)(n:¬a=b):p:=by
 injection h with h
 exact absurd h n
structure ZD(z TI TO i1 i2:Addr):Prop where
 a:TI≠z
 b:TO≠z
 c:i1≠z
 d:i2≠z
 e:TI≠TO
 f:TI≠i1
 g:TI≠i2
 h:TO≠i1
 i:TO≠i2
 j:i1≠i2
structure ZSt(z TI TO i1 i2 a b:Addr)(i:Nat)(h:Heap):Prop where
 hz:IsZip h z TI TO .none
 hI:IsPair h TI (.ref i1) (.ref i2)
 hO:∃ u v,IsPair h TO u v
 h1:h.IsListIter i1 a i
 h2:h.IsListIter i2 b i
theorem Yu{z TI TO a b l c:Ad}{its:Array vL}(st:ZSt z TI TO i1 i2 a b i h)(n:h.IsList l its)(k:c∈[z,TO,i1,i2]):l≠c:=by
 rintro rfl
 obtain⟨o,g,f,_⟩:=n;simp only[aH,bE,or_false]at k;rcases k with rfl|rfl|rfl|rfl
 .have j:h.get? l=some _:=st.hz
  rw[g]at j;cases j;exact XW f (by decide)
 .obtain⟨u,v,e⟩:=st.hO
  have e:h.get? l=some _:=e;rw[g]at e;cases e;exact XW f (by decide)
 .obtain⟨m,g1,d,_⟩:=st.h1
  rw[g]at g1;cases g1;rw[f]at d;exact XW d (by decide)
 .obtain⟨m,g1,d,_⟩:=st.h2
  rw[g]at g1;cases g1;rw[f]at d;exact XW d (by decide)
theorem W2{z TI TO a b:Ad}{its k:Array vL}(d:ZD z TI TO i1 i2)(st:ZSt z TI TO i1 i2 a b i h)(l:h.IsList a its)(p2:h.IsList b k):ZipApart z TI TO i1 i2 a b:=
 have m:z∈[z,TO,i1,i2]/\TO∈[z,TO,i1,i2]/\i1∈[z,TO,i1,i2]/\i2∈[z,TO,i1,i2]:=⟨.head _,.tail _ (.head _),.tail _ (.tail _ (.head _)),.tail _ (.tail _ (.tail _ (.head _)))⟩
 ⟨d.a,d.b,d.c,d.d,d.e,d.f,d.g,d.h,d.i,d.j,Yu st l m.1,Yu st l m.2.1,Yu st l m.2.2.1,Yu st l m.2.2.2,Yu st p2 m.1,Yu st p2 m.2.1,Yu st p2 m.2.2.1,Yu st p2 m.2.2.2⟩
theorem QJ{z TI TO c:Ad}(h:c∈[z,TO,i1,i2]):c∈[z,TI,TO,i1,i2]:=by
 rcases aH.mp h with rfl|h
 .exact .head _
 .exact .tail _ (.tail _ h)
theorem QK{z TI TO a b c:Ad}(st:ZSt z TI TO i1 i2 a b i h)(d:c∈[z,TI,TO,i1,i2]):∃ o,h.get? c=some o/\∀ v,o.data≠.cell v:=by
 obtain⟨e,g,⟨u,v,f⟩,⟨k,g1,_,f1⟩,⟨o2,g2,_,j⟩⟩:=st;simp only[aH,bE,or_false]at d;rcases d with rfl|rfl|rfl|rfl|rfl
 .exact⟨_,e,λv q=>by cases (show Data.fields _=Data.cell v from q)⟩
 .exact⟨_,g,λv q=>by cases (show Data.seq _ _=Data.cell v from q)⟩
 .exact⟨_,f,λv q=>by cases (show Data.seq _ _=Data.cell v from q)⟩
 .exact⟨_,g1,λv q=>by rw[f1]at q;cases q⟩
 .exact⟨_,g2,λv q=>by rw[j]at q;cases q⟩
theorem Za0{xs:Li V}{its:Li vL}{x:V}(r:Vals xs its)(ex:xs[i]?=some x)(a:its.toArray[i]?=some u):RelV x u:=by
 obtain⟨d,c,b⟩:=r.get ex;rw[eP,c]at a;cases a;exact b
theorem Zbr{z TI TO a b:Ad}(d:ZD z TI TO i1 i2)(V:X.calm=true){s:sH7}(I:L2.Inv X pQ O H s)(M:∀ c∈[z,TI,TO,i1,i2],FpOk X pQ H c)(st:ZSt z TI TO i1 i2 a b i s.heap)(U:(Itz X.K a b).go i H) :
  wpAny (model X.prog X.w) X.A (pyNext (.ref z)) (λr Q=>∃ u,r=some u/\wpAny (model X.prog X.w) X.A (letOwnedTupleGo (.Tuple elts kk pos) (.ref z) u) (λ_ D=>∃ x H',L2.Inv X pQ O H' D/\RelV x u/\(Itz X.K a b).yld i H x H'/\ZSt z TI TO i1 i2 a b (i+1) D.heap/\∀ c∈[z,TI,TO,i1,i2],H' c=none) E Q) E s:=by
 obtain⟨xs,ys,x,y,j,h,ex,B⟩:=U;obtain⟨m,G,J,_⟩:=I.list j;obtain⟨l,F,p2,_⟩:=I.list h;have W:=WalksT.zip2 (prog:=X.prog) (w:=X.w) (A:=X.A) (I.ok.hd V) z TI TO i1 i2 a b (W2 d st J.isList p2.isList) m.toArray l.toArray;have l1:=G.length;have l2:=F.length;have ix:i < xs.length:=(bB.mp ex).1;have iy:i < ys.length:=(bB.mp B).1
 refine W.item i s _ _ (by rw[aL,aL];omega) ⟨st.hz,st.hI,st.hO,st.h1,st.h2,J.isList,p2.isList⟩ λT C h' tk S p tup k R=>?_
 obtain⟨u,v,Y,ev,rfl⟩:=S;refine⟨.ref T,rfl,W.go elts kk pos i T _ _ _ k λt f L=>?_⟩
 have Z:L2.Inv X pQ O (upd H T (.tup [x,y])) { s with heap:=t,toks:=tk }:=YA (wr:=[z,TO,i1,i2]) I (λc g=>M c (QJ g)) (λc o n e=>L c o n (R c o n e)) p ⟨show 2<=sizeLine by decide,[u,v],.cons (Za0 G ex Y) (.cons (Za0 F B ev) .nil),tup.at λo e=>L T o (W.apart i T h' k) e⟩
 refine⟨.ref T,upd H T (.tup [x,y]),Z,rfl,⟨T,x,y,rfl,I.hok.fresh p,rfl,λP q=>by rw[Vv I j q];exact ex,λN q=>by rw[Vv I h q];exact B⟩,⟨f.1,f.2.1,f.2.2.1,f.2.2.2.1,f.2.2.2.2.1⟩,λc g=>?_⟩
 obtain⟨o,e,_⟩:=QK st g;rw[upd_ne λq=>absurd (aI e) (cY.mpr (by rw[q];exact p))]
 exact(M c g).1
theorem Zbq{z TI TO a b:Ad}(d:ZD z TI TO i1 i2)(F:X.calm=true){s:sH7}(I:L2.Inv X pQ O H s)(D:∀ c∈[z,TI,TO,i1,i2],FpOk X pQ H c)(st:ZSt z TI TO i1 i2 a b i s.heap)(C:(Itz X.K a b).stop i H) :
  wpAny (model X.prog X.w) X.A (pyNext (.ref z)) (λr t=>r=none/\L2.Inv X pQ O H t) E s:=by
 obtain⟨xs,ys,m,l,B⟩:=C;obtain⟨h,y,p,_⟩:=I.list m;obtain⟨g,x,p2,_⟩:=I.list l;obtain⟨u,v,G⟩:=st.hO;have L:=y.length;have J:=x.length;have j:h.toArray[i]?=none\/g.toArray[i]?=none:=by
  rw[eP,eP,dQ,dQ];omega
 refine wpAny_pyNext_zip_end (I.ok.hd F) (W2 d st p.isList p2.isList) st.hz st.hI G st.h1 st.h2 p.isList p2.isList j λh' k=>⟨rfl,YZ (wr:=[z,TO,i1,i2]) I (λc n=>D c (QJ n)) λc o f e=>?_⟩
 exact k c o (λq=>f (by rw[q];exact .head _)) (λq=>f (by rw[q];exact .tail _ (.head _))) (λq=>f (by rw[q];exact .tail _ (.tail _ (.head _)))) (λq=>f (by rw[q];exact .tail _ (.tail _ (.tail _ (.head _))))) e
theorem Zbl{P:Program}{K:fG7}(z TI TO i1 i2 a b:Ad)(d:ZD z TI TO i1 i2):Turn P w K (.Tuple elts kk pos) (Itz K a b) [z,TI,TO,i1,i2] z (ZSt z TI TO i1 i2 a b) where
 mem:=.head _
 obj:=λi h st c f=>QK st f
 keep:=λi h h' st k=>by
  obtain⟨p,r,⟨u,v,q⟩,x,t⟩:=st;exact⟨k z (.head _) _ p,k TI (.tail _ (.head _)) _ r,⟨u,v,k TO (.tail _ (.tail _ (.head _))) _ q⟩,x.at λo e=>k i1 (.tail _ (.tail _ (.tail _ (.head _)))) o e,t.at λo e=>k i2 (.tail _ (.tail _ (.tail _ (.tail _ (.head _))))) o e⟩
 item:=λX m g n f i pQ s O H E I l st j=>by
  subst m g n;exact Zbr d f I l st j
 done:=λX m g n f i pQ s O H E I l st j=>by
  subst m g n;exact Zbq d f I l st j
 self:=λ_ _ _ _ _ st h=>wpAny_pyIter_zip st.hz h
theorem Zee:bootBuiltins "zip"=some (.type "zip"):=by decide +kernel
theorem ZeR{x y:Expr}{p:Pos}(L:Gl X "zip")(J:X.mg "zip"=none)(M:PA X [x,y] ta)(t:[x,y].all Zi=true):PI X (.Tuple elts kk tp) (.Call (.Name "zip" p) [x,y] [] pos) (Zgp X.K ta):=by
 intro pQ s O H R I h;rw[bA,bA,bA7,bA7]at t;have f:starEach [y] X.env=[(false,eval y X.env)]:=Zd t.2.1;have G:starEach [x,y] X.env=[(false,eval x X.env),(false,eval y X.env)]:=by rw[Zd t.1,f]
 refine Call_ (ld_blt I L J Zee (PyProof.Rows.callWith_type1 (thn (M pos pQ s O H _ I h) λU d ⟨vs,T,l,B,D⟩=>?_) (by rw[G,f]) (by rw[f];rfl)))
 obtain⟨a,b,rfl,⟨xs,n⟩,⟨ys,m⟩,q⟩:=D;cases B with
 |cons r o=>
  cases o with
  |cons C o=>
   cases o;cases r;cases C;obtain⟨v,_,E,_⟩:=l.list n;obtain⟨u,_,p2,_⟩:=l.list m;have e:∀ {i j:Nat},i≠j->(d.heap.objs.size+i:Nat)≠d.heap.objs.size+j:=λh z=>h (Nat.add_left_cancel z)
   refine call_zip_2 E.isList p2.isList λh' w P N S Q F k=>wpAny_pyIter_zip w ?_
   refine⟨d.heap.objs.size+4,[d.heap.objs.size+4,d.heap.objs.size+2,d.heap.objs.size+3,d.heap.objs.size,d.heap.objs.size+1],_,_,T,rfl,l.kept (t':=d.toks) k,Zbl _ _ _ _ _ a b ⟨e (i:=2) (j:=4) (by decide),e (i:=3) (j:=4) (by decide),e (i:=0) (j:=4) (by decide),e (i:=1) (j:=4) (by decide),e (i:=2) (j:=3) (by decide),e (i:=2) (j:=0) (by decide),e (i:=2) (j:=1) (by decide),e (i:=3) (j:=0) (by decide),e (i:=3) (j:=1) (by decide),e (i:=0) (j:=1) (by decide)⟩,⟨w,P,⟨_,_,N⟩,S,Q⟩,λc g=>?_,q⟩
   have A:d.heap.objs.size<=c:=by
    simp only[aH,bE,or_false]at g;rcases g with rfl|rfl|rfl|rfl|rfl
    .exact dR _ _
    .exact dR _ _
    .exact dR _ _
    .exact aD _
    .exact dR _ _
   exact l.fpOk A (l.hok.fresh A)
section
variable{prog:Program}{w:World}{A:Around}{E:vL->sH7->Prop}{s:sH7}
open Sem (wp)
open AutoSeq1 (wpAny_loadPart')
theorem Uc{it l:Ad}{Q:vL->sH7->Prop}(j:A.handled=none)(b:s.heap.IsTupleIter it l i)(k:s.heap.IsTuple l items)(p:∀ x h',items[i]?=some x->h'.IsTupleIter it l (i+1)->Heap.SameBut it s.heap h'->Q x { s with heap:=h' })(q:items[i]?=none->∀ h' e,Heap.ExtBut it s.heap h'->(∃ o,h'.get? e=some o/\o.cls=.type "StopIteration")->E (.ref e) { s with heap:=h' }) :
  wpAny (model prog w) A (Builtin.SmallTypes.nextOf (.ref it)) Q E s:=by
 obtain⟨o,d,n,c⟩:=id b;obtain⟨r,g,_,t,h⟩:=k;unfold Builtin.SmallTypes.nextOf;refine aA (wpAny_callSpecial?_slot (name:=Str.ofString "__next__") b.typeIs PySem.F.slot_tuple_iterator_next
  (wpAny_call_entry PySem.F.slot_tuple_iterator_next b.typeIs PySem.F.entry_tuple_iterator_next ?_ (PySem.F.args_tuple_iterator_next_1 _)))
 show wpAny _ _ (field (.ref it) 0 >>= _) _ _ s;refine aA (wpAny_field d c (x:=.ref l) rfl ?_);show wpAny _ _ (if (Value.ref l==Value.none)=true then _ else _) _ _ s
 rw[if_neg (show ¬((Value.ref l==Value.none)=true) from bF7)];show wpAny _ _ (field (.ref it) 1 >>= _) _ _ s;refine aA (wpAny_field d c (x:=.int i 0) rfl ?_);show wpAny _ _ (seqItems? (.ref l) >>= _) _ _ s;refine aA (wpAny_seqItems g h ?_);cases f:items[i]? with
 |some x=>
  simp only[bD,f];refine aA (wpAny_setField d c (by simp) (aB ⟨x,rfl,aB (p _ _ f ?_ (Heap.SameBut.update ..))⟩))
  exact⟨_,Heap.get?_update_self _ d (Obj.isFreed_of_fields (Obj.data_mapFields c _)),(Obj.cls_mapFields ..).trans n,by
   rw[Obj.data_mapFields c];simp[rawInt]⟩
 |none=>
  simp only[bD,f];refine aA (wpAny_rule (aA (wpAny_setField d c (by simp) ?_)))
  show wpAny _ _ (newExc (.type "StopIteration") [] >>= _) _ _ _;refine aA ?_;simp only[newExc,newTuple];refine aA (wpAny_newObj_type ?_ (by size_fits))
  refine aA (m:=firstArgMember _ _) (wpAny_of_eq (a:=Value.none) (by first|rfl | (simp only[firstArgMember];rfl)) ?_)
  refine wpAny_newObj_type ?_ (by size_fits)
  simp only[raiseNew];refine aA (wpAny_handled ?_)
  first|rw[show A.in1.handled=none from j]|rw[j]
  refine aA (aB (wpAny_throw ?_));exact q f _ _ (((Heap.SameBut.update ..).extBut.push _).push _) ⟨_,aY _ rfl,rfl⟩
theorem QY(f:A.handled=none)(it l:Ad)(c:l≠it)(items:Array vL) :
  Draws prog w A it [it,l] items.size (λi v=>items[i]?=some v) (λi h=>h.IsTupleIter it l i/\h.IsTuple l items) where
 live:=λ_ _ st=>let ⟨o,ho,_⟩:=st.1;⟨o,ho⟩
 frame:=λ_ _ _ st d=>⟨st.1.at λo e=>d it (by simp) o e,st.2.at λo e=>d l (by simp) o e⟩
 item:=λi s Q E hi st g=>Uc f st.1 st.2 (λx h' e b a=>g x h' s.toks e ⟨b,st.2.extBut a.extBut c⟩ a) λe=>absurd e (by simp[hi])
 done:=λs Q E st j=>Uc f st.1 st.2 (λx h' e=>absurd e (by simp)) λ_=>j
theorem WA(l:Ad)(items:Array vL)(n:Nat)(dct:Ot Ad)(sl:Array (Ot vL)) :
  Meets (Builtin.«enumerate.__new__» ⟨[.type "enumerate",.ref l],[]⟩) (λ_ R s=>s.heap.get? l=some { cls:=.type "tuple",dict:=dct,data:=.seq items n,slots:=sl } /\
   R (.ok (.ret (.ref (s.heap.push { cls:=.type "tuple_iterator",data:=.fields #[.ref l,.int 0 0] }).objs.size)))
    { s with heap:=(s.heap.push { cls:=.type "tuple_iterator",data:=.fields #[.ref l,.int 0 0] }).push { cls:=.type "enumerate",data:=.fields #[.none,.bool false,.ref s.heap.objs.size,rawInt 0,.none,.none] } }):=
 .of_wp λprog w A R s h=>by
  obtain⟨i,g,d,tk,f⟩:=s;obtain⟨a,h⟩:=h;have e:=sub_enumerate;have b:Heap.IsTuple (Shared.heap ⟨i,g,d,tk,f⟩) l items:=⟨_,a,rfl,n,rfl⟩
  wp_walk using wpAny_loadPart' a
  refine wpAny_stack_any λst=>aB ?_
  split
  .rename_i c _ _ _ _ _
   cases (c==Value.type "enumerate")
   .wp_walk using wpAny_loadPart' a,wpAny_pyIter_tuple b
    exact⟨_,rfl,h⟩
   .wp_walk using wpAny_loadPart' a,wpAny_pyIter_tuple b
    exact⟨_,rfl,h⟩
  .wp_walk using wpAny_loadPart' a,wpAny_pyIter_tuple b
   exact⟨_,rfl,h⟩
theorem WK{l:Ad}{Q:vL->sH7->Prop}(i:s.heap.IsTuple l items)(h:∀ h',IsEnum h' (s.heap.objs.size+1) s.heap.objs.size 0 .none->h'.IsTupleIter s.heap.objs.size l 0->h'.objs.size=s.heap.objs.size+2->
   (∀ b o,s.heap.get? b=some o->h'.get? b=some o)->Q (.ref (s.heap.objs.size+1)) { s with heap:=h' }) :
  wpAny (model prog w) A (call (.type "enumerate") [.ref l]) Q E s:=by
 obtain⟨⟨c,dct,j,sl⟩,g,e,n,d⟩:=i;replace e:c=.type "tuple":=e;replace d:j=.seq items n:=d;subst e d;refine callType_new PySem.F.called_enumerate (by decide) (PySem.F.typeCall_enumerate_1 _) (PySem.F.newCall_enumerate_1 _) (λobj=>PySem.F.args_object_init_2 obj _) PySem.F.entry_enumerate_new
  (WA l items n dct sl) ⟨g,?_⟩
 have a:(s.heap.push { cls:=.type "tuple_iterator",data:=.fields #[.ref l,.int 0 0] }).objs.size=s.heap.objs.size+1:=Heap.size_push ..;show _/\_;rw[a];have f:IsEnum ((s.heap.push { cls:=.type "tuple_iterator",data:=.fields #[.ref l,.int 0 0] }).push
   { cls:=.type "enumerate",data:=.fields #[.none,.bool false,.ref s.heap.objs.size,rawInt 0,.none,.none] }) (s.heap.objs.size+1) s.heap.objs.size 0 .none:=by
  have:=aY (s.heap.push { cls:=.type "tuple_iterator",data:=.fields #[.ref l,.int 0 0] })
   (o:={ cls:=.type "enumerate",data:=.fields #[.none,.bool false,.ref s.heap.objs.size,rawInt 0,.none,.none] }) rfl
  rw[a]at this;exact this
 refine⟨⟨_,f,rfl⟩,h _ f ⟨_,aO _ (aY _ rfl),rfl,rfl⟩ (by rw[Heap.size_push,a]) λb o x=>aO _ (aO _ x)⟩
end
noncomputable def Ite(sq:Hp->Li V->Prop):It:=
 ⟨λi H=>∃ xs x,sq H xs/\xs[i]?=some x,λi H v H'=>∃ T x,v=.ref T/\H T=none/\H'=upd H T (.tup [.int (i:Int),x])/\∀ xs,sq H xs->xs[i]?=some x,λi H=>∃ xs,sq H xs/\xs.length=i⟩
def JY(K:fG7)(ta:TA):TI:=λO H R=>ta O H λvs b=>∃ a,vs=[.ref a]/\(((∃ xs,SqL K b a xs)/\R (Ite λH=>SqL K H a) b)\/((∃ xs,SqT K b a xs)/\R (Ite λH=>SqT K H a) b))
theorem WZ{P:Program}{K:fG7}{sq:Hp->Li V->Prop}{it1:Nat->Heap->Prop}(e it a:Ad)(d:e≠it)(hi:∀ i h,it1 i h->∃ o,h.get? it=some o/\∀ v,o.data≠.cell v)(hk:∀ i h h',it1 i h->(∀ o,h.get? it=some o->h'.get? it=some o)->it1 i h')(hD:∀ (X:Cx),X.prog=P->X.w=w->X.K=K->X.calm=true->∀ (pQ:Li (Ad×Obj)) (s:sH7) (O:L2.St) (H:Hp) (i:Nat) (xs:Li V),L2.Inv X pQ O H s->(∃ b,IsEnum s.heap e it i b)->it1 i s.heap->sq H xs->
   (∀ ys,sq H ys->ys=xs)/\∃ (its:Li vL) (L:Heap->Prop),Vals xs its/\a≠e/\L s.heap/\Draws P w X.A.in1 it [it,a] its.toArray.size (λi v=>its.toArray[i]?=some v) (λi h=>it1 i h/\L h)) :
  Turn P w K (.Tuple elts kk pos) (Ite sq) [e,it] e (λi h=>(∃ b,IsEnum h e it i b)/\it1 i h) where
 mem:=by simp
 obj:=λi h st c m=>by
  obtain⟨⟨b,j⟩,J⟩:=st;simp only[aH,bE,or_false]at m;rcases m with rfl|rfl
  .exact⟨_,j,λv q=>by cases (show Data.fields _=Data.cell v from q)⟩
  .exact hi i h J
 keep:=λi h h' st k=>by
  obtain⟨⟨b,j⟩,J⟩:=st;exact⟨⟨b,k e (by simp) _ j⟩,hk i h h' J λo g=>k it (by simp) o g⟩
 item:=by
  intro X C z F m i pQ s O H E I M st U;obtain⟨xs,x,S,ex⟩:=U;obtain⟨f,its,L,r,R,Q,D⟩:=hD X C z F m pQ s O H i xs I st.1 st.2 S;subst C z F;have W:=WalksT.enumerateD D e d (by simp only[aH,bE,or_false];exact λq=>q.elim d λq=>R q.symm) (by simp)
  have l1:=r.length;have ix:i < xs.length:=(bB.mp ex).1;refine W.item i s _ _ (by simp;omega) ⟨st.1,st.2,Q⟩ λT Z h' tk hv Y tup y k1=>?_
  obtain⟨t,u,eu,rfl⟩:=hv;refine⟨.ref T,rfl,W.go elts kk pos i T _ _ _ y λG p k2=>?_⟩
  have nT:=W.apart i T h' y;have ru:RelV x u:=by
   obtain⟨u',N,e2⟩:=r.get ex;have:its[i]?=some u:=by simpa using eu
   rw[this]at N;cases N;exact e2
  have n:G.IsTuple T #[.int i t,u]:=tup.at λo g=>k2 T o nT g
  have I2:L2.Inv X pQ O (upd H T (.tup [.int (i:Int),x])) { s with heap:=G,toks:=tk }:=YA (wr:=[e,it]) I M (λc o B g=>k2 c o B (k1 c o B g)) Y ⟨show 2<=sizeLine by decide,[.int i t,u],.cons ⟨t,rfl⟩ (.cons ru .nil),n⟩
  refine⟨.ref T,_,I2,rfl,⟨T,x,rfl,I.hok.fresh Y,rfl,λxs' q=>by rw[f _ q];exact ex⟩,⟨p.1,p.2.1⟩,λc l=>?_⟩
  have:c≠T:=λq=>by
   have lt:∀ {o},s.heap.get? c=some o->False:=λg=>absurd (aI g) (cY.mpr (by rw[q];exact Y))
   obtain⟨⟨_,j⟩,J⟩:=st;obtain⟨_,g,_⟩:=hi _ _ J;simp only[aH,bE,or_false]at l;rcases l with rfl|rfl
   .exact lt j
   .exact lt g
  rw[upd_ne this];exact(M c l).1
 done:=by
  intro X C z F m i pQ s O H E I M st U;obtain⟨xs,S,hle⟩:=U;obtain⟨f,its,L,r,R,Q,D⟩:=hD X C z F m pQ s O H i xs I st.1 st.2 S;subst C z F;have W:=WalksT.enumerateD D e d (by simp only[aH,bE,or_false];exact λq=>q.elim d λq=>R q.symm) (by simp)
  have l1:=r.length;have N:i=its.toArray.size:=by simp;omega
  subst N;exact W.done s _ _ ⟨st.1,st.2,Q⟩ λh' tk k=>⟨rfl,YZ (wr:=[e,it]) I M k⟩
 self:=λ_ _ _ _ _ st h=>let ⟨⟨_,j⟩,_⟩:=st;wpAny_pyIter_enum j h
theorem Ud{e it:Ad}{i:Int}{d:vL}{a:Ad}{o:Obj}{n:String}(b:IsEnum h e it i d)(g:h.get? a=some o)(c:o.cls=.type n)(f:¬n = "enumerate"):a≠e:=λq=>by
 subst q;have b:h.get? a=some _:=b;rw[g]at b;cases b;exact XW c λz=>f z.symm
theorem Ue{a b:Ad}{o u:Obj}{n m:String}(g:h.get? a=some o)(c:o.cls=.type n)(g2:h.get? b=some u)(d:u.cls=.type m)(e:¬n=m):a≠b:=λq=>by
 subst q;rw[g]at g2;cases g2;rw[c]at d;exact XW d e
theorem ZbE:bootBuiltins "enumerate"=some (.type "enumerate"):=by decide +kernel
theorem Zcu{x:Expr}{p:Pos}(M:Gl X "enumerate")(L:X.mg "enumerate"=none)(N:PA X [x] ta)(J:starEach [x] X.env=[(false,eval x X.env)]):PI X (.Tuple elts kk tp) (.Call (.Name "enumerate" p) [x] [] pos) (JY X.K ta):=by
 intro pQ s O H R I h;refine Call_ (ld_blt I M L ZbE (PyProof.Rows.callWith_type1 (thn (N pos pQ s O H _ I h) λP d ⟨vs,C,l,F,G⟩=>?_) J rfl))
 obtain⟨a,rfl,q⟩:=G;have D:∀ c∈[d.heap.objs.size+1,d.heap.objs.size],FpOk X pQ C c:=λc m=>by
  have j:d.heap.objs.size<=c:=by
   simp only[aH,bE,or_false]at m;rcases m with rfl|rfl
   .exact dR _ _
   .exact aD _
  exact l.fpOk j (l.hok.fresh j)
 cases F with
 |cons r E=>
  cases E;cases r;rcases q with⟨⟨xs,sq⟩,q⟩|⟨⟨xs,sq⟩,q⟩
  .obtain⟨its,_,n,_⟩:=l.list sq
   refine call_enumerate_list n.isList λh' b e w k=>wpAny_pyIter_enum b ?_
   refine⟨d.heap.objs.size+1,[d.heap.objs.size+1,d.heap.objs.size],_,_,C,rfl,l.kept (t':=d.toks) k,WZ (it1:=λi h=>h.IsListIter _ a i) _ _ a (Nat.succ_ne_self _) (λi h st=>?_) (λi h h' st k=>st.at k) (λX y u z j pQ s O H i xs I b e sq=>?_),⟨⟨_,b⟩,e⟩,D,q⟩
   .obtain⟨o,g,_,f⟩:=st
    exact⟨o,g,λv q=>by rw[f]at q;cases q⟩
   .rw[<-y,<-u]
    rw[<-z]at sq ⊢;obtain⟨its,r,p,_⟩:=I.list sq;obtain⟨⟨_,b⟩,⟨o2,g2,B,_⟩⟩:=And.intro b e;obtain⟨o,g,c,_⟩:=p.isList;exact⟨λys t=>Vv I sq t,its,λh=>h.IsList a its.toArray,r,Ud b g c (by decide),p.isList,Draws.list (show X.A.in1.handled=none from I.ok.hd j) _ a (Ue g c g2 B (by decide)) its.toArray⟩
  .obtain⟨its,_,n,_⟩:=l.tuple sq
   refine WK (show d.heap.IsTuple a its.toArray from n) λh' b e w k=>wpAny_pyIter_enum b ?_
   refine⟨d.heap.objs.size+1,[d.heap.objs.size+1,d.heap.objs.size],_,_,C,rfl,l.kept (t':=d.toks) k,WZ (it1:=λi h=>h.IsTupleIter _ a i) _ _ a (Nat.succ_ne_self _) (λi h st=>?_) (λi h h' st k=>st.at k) (λX y u z j pQ s O H i xs I b e sq=>?_),⟨⟨_,b⟩,e⟩,D,q⟩
   .obtain⟨o,g,_,f⟩:=st
    exact⟨o,g,λv q=>by rw[f]at q;cases q⟩
   .rw[<-y,<-u]
    rw[<-z]at sq ⊢;obtain⟨its,r,p,_⟩:=I.tuple sq;have p:s.heap.IsTuple a its.toArray:=p;obtain⟨⟨_,b⟩,⟨o2,g2,B,_⟩⟩:=And.intro b e;obtain⟨o,g,c,_⟩:=id p;exact⟨λys t=>I.tuple_inj t sq,its,λh=>h.IsTuple a its.toArray,r,Ud b g c (by decide),p,QY (show X.A.in1.handled=none from I.ok.hd j) _ a (Ue g c g2 B (by decide)) its.toArray⟩
theorem WT:∀ {xs:Li D}{k i:Nat}{x:D},xs[i]?=some x->(Wp k xs)[i]?=some (.int ((k+i:Nat):Int),x)
 |[],_,_,_,h=>nomatch h
 |x :: xs,k,0,_,h=>by cases h;rfl
 |x :: xs,k,i+1,y,h=>by
  show(Wp (k+1) xs)[i]?=_;rw[WT (show xs[i]?=some y from h),show k+1+i=k+(i+1) by omega]
theorem XR:∀ {xs:Li D}{k:Nat},(Wp k xs).length=xs.length
 |[],_=>rfl
 |x :: xs,k=>congrArg (·+1) XR
theorem J9{K:fG7}{f:Ex}(E:Ends)(O:L2.St)(H:Hp)(h:tS K (JT i j fi f) E O H):tFor (JY K (tCons (tE K fi) tNil)) (gTup K 2 (gCons (gName i) (gCons (gName j) gNil))) (tS K f) E O H:=by
 obtain⟨ad,U,st,r,st',N,S,e,p⟩:=ZF h;unfold JT at e;split at e
 .rename_i x d P
  split at e
  .rename_i xs ok n
   have t:∀ {sq:Hp->Li V->Prop}{m:Li Ad}{C:Hp} (b:Li Ad->Hp->Prop),(∀ ad H ad' H',Ext ad H ad' H'->b ad H->b ad' H')->b m C->
     (∀ ad H st,b ad H->StOk K ad H st->ok st->∃ vs,Dens K ad H vs xs/\sq H vs)->Ext ad H m C->StOk K m C d->ZfX K f i j (Ite sq) E O C:=λb T g1 I y B=>
    ⟨_,⟨_,.mk (bG _) (N.mono y) B g1 e (p.later y)⟩,Xk T (λad H st g S o=>by
      obtain⟨vs,u,D⟩:=I ad H st g S o;exact⟨vs,D,by rw[u.length,XR]⟩) λk ad H st q g S o F=>by
      obtain⟨vs,u,D⟩:=I ad H st g S o;have R:k < xs.length:=by rw[<-XR (k:=0)];exact(bB.mp F).1
      have J:=lG7 R;rw[WT (k:=0) J,bG]at F;cases F;obtain⟨w,L,Z⟩:=u.get J;exact⟨_,w,⟨vs,w,D,L⟩,.int _,Z,λx H' ⟨pt,y1,Y,X,W,Q⟩=>⟨pt,Y,X,by have z:=Q vs D;rw[L]at z;cases z;exact W⟩⟩⟩
   refine⟨ad,U,st,x,d,N,S,P,λv m C y B M=>?_⟩
   cases x with
   |tup ys=>
    cases n;obtain⟨a,vs,rfl,A,u⟩:=M.ofTup;exact⟨a,rfl,.inr ⟨⟨vs,A.sq⟩,t (λad H=>TupAt K H a vs/\Dens K ad H vs xs) (λ_ _ _ _ x g=>⟨g.1.mono x,g.2.mono x⟩) ⟨A,u⟩ (λad H st g _ _=>⟨vs,g.2,g.1.sq⟩) y B⟩⟩
   |lst l=>
    have n:(match d[l]? with
     |some c=>some (c.2,λs=>s[l]?=some c)
     |none=>none)=some (xs,ok):=n
    cases G:d[l]? with
    |none=>rw[G]at n;cases n
    |some c=>
     rw[G]at n;cases n;obtain⟨a,rfl,A⟩:=M.ofLst;obtain⟨vs,u,sq⟩:=B.list A (show d[l]?=some (c.1,c.2) from G);exact⟨a,rfl,.inl ⟨⟨vs,sq⟩,t (λad H=>LA ad H l a) (λ_ _ _ _ x g=>g.mono x) A (λad H st g S e=>S.list g (show st[l]?=some (c.1,c.2) from e)) y B⟩⟩
   |_=>exact Zb n
  .exact Zb e
 .exact Zb e
theorem UK{x:CE}(K:Cxt X G F sc N)(h:Xy G sc it=some a)(b:Zi a=true)(A:PE X a (tE X.K (ev F x))):Zi it=true/\PI X (.Tuple elts kk tp) it (JY X.K (tCons (tE X.K (ev F x)) tNil)):=by
 obtain⟨as,c,f⟩:=cL.mp h;rw[Qz f]at c;obtain⟨_,_,rfl,e,d⟩:=W9 K c;exact⟨rfl,Zcu e d (pa1 b A) (Zd b)⟩
theorem WP(K:Cxt X G F sc N)(h:XG G sc it=some as):∃ p pos a b,it=.Call (.Name "zip" p) [a,b] [] pos/\as=[a,b]/\Gl X "zip"/\X.mg "zip"=none:=by
 obtain⟨bs,i,g⟩:=cL.mp h;obtain⟨p,pos,rfl,e,d⟩:=W9 K i;refine Yq g λc f=>?_
 cases f;cases as with
 |nil=>cases c
 |cons a as=>cases as with
  |nil=>cases c
  |cons b as=>cases as with
   |nil=>exact⟨p,pos,_,_,rfl,rfl,e,d⟩
   |cons _ _=>cases c
theorem Za6(d:Zo G F n)(a:ZH G F n)(K:CxtS X G F sc N){c:CS}{b:Li Stmt}(h:o2 CS.whl (cE G n sc N e) (cSs G n sc N b)=some c):PS X (.While e b [] pos) (tS X.K (ex F c)):=
 ZS (P:=λc=>PS X _ (tS X.K (ex F c))) h λi j f g=>Zs (ps_while (passes K) (d X sc N K.toCxt _ i f).pt (a X sc N K _ j g)) Q7
theorem ZcZ(e:Yw G F n)(d:ZH G F n)(K:CxtS X G F sc N){c:CS}{x y:Str}{b:Li Stmt}{p:Pos}(hi:N.idxOf? x=some i)(l:N.idxOf? y=some j)(g:XG G sc it=some as)(h:o2 (CS.forP i j) (cEs G n sc N as) (cSs G n sc N b)=some c):PS X (.For (.Tuple [.Name x p,.Name y p2] ctx tp) it b [] pos) (tS X.K (ex F c)):=by
 refine ZS (P:=λc=>PS X _ (tS X.K (ex F c))) h λr s o q=>?_
 obtain⟨t,p3,a,u,rfl,rfl,m,k⟩:=WP K.toCxt g;obtain⟨A,_,f,_⟩:=e X sc N K.toCxt _ r o;exact Zs (ps_for (passes K) K.calm (ZeR m k A f) (pg_tup K.calm (pgs_cons (Z3 K hi) (pgs_cons (Z3 K l) pgs_nil))) (d X sc N K _ s q) (ZC rfl)) Zad
noncomputable def Itd(a:Ad)(n:Nat):It:=
 ⟨λi H=>i < n/\∃ xs,H a=some (.dN (Z1 xs))/\xs.length=n,λi H v H'=>∃ T,∃ e:Ad×Ot Ad,v=.ref T/\H T=none/\H'=upd H T (.tup [.ref e.1,toV e.2])/\∀ xs:Li (D×Ad×Ot Ad),H a=some (.dN (Z1 xs))->xs.length=n->∃ k,xs[i]?=some (k,e),λi H=>i=n/\∃ xs,H a=some (.dN (Z1 xs))/\xs.length=n⟩
theorem UZ{s:sH7}{a:Ad}{xs:Li (D×Ad×Ot Ad)}(I:L2.Inv X pQ O H s)(e:H a=some (.dN (Z1 xs))):(a==sysModules)=false/\∃ es:Array DictEntry,Raw s.heap a es es.size/\es.toList=Z1 xs X.w:=by
 obtain⟨f,o,es,c,g,b,d⟩:=(show ObjOk X.prog X.w H s.heap a (.dN (Z1 xs)) from I.hok a _ e);exact⟨f,es,⟨o,c,g,b⟩,d⟩
theorem XQ{xs:Li (D×Ad×Ot Ad)}(h:es.toList=Z1 xs w):es.size=xs.length:=by
 rw[<-cX,h];unfold Z1;rw[aE]
theorem Zbk{P:Program}{K:fG7}(a it:Ad)(n:Nat):Turn P w K (.Tuple elts kk pos) (Itd a n) [it] it (λi h=>∃ ok f,IsItemIter h it a i n n ok f) where
 mem:=lQ7
 obj:=λi h st b p=>by
  rw[aJ.mp p];obtain⟨ok,f,e⟩:=st;exact⟨_,e,λv z=>by cases (show Data.fields _=Data.cell v from z)⟩
 keep:=λi h h' st k=>let ⟨ok,f,e⟩:=st;⟨ok,f,k it lQ7 _ e⟩
 item:=by
  intro X F B G R i pQ s O H E I t st D;subst F B G;obtain⟨hi,xs,r,C⟩:=D;obtain⟨hd,es,d,u⟩:=UZ I r;have Y:=XQ u;obtain rfl:es.size=n:=Y.trans C;obtain⟨ok,f,st⟩:=st;have Q:i < xs.length:=by omega
  have z:es.toList[i]?=some es[i]:=by rw[Array.getElem?_toList,eM hi]
  rw[u]at z;unfold Z1 at z;rw[aT,lG7 Q]at z;have z:=Option.some.inj z;have U:es[i].key=.ref xs[i].2.1:=by rw[<-z]
  have T:es[i].val=toW xs[i].2.2:=by rw[<-z]
  refine Zcp st d hi λh' A tup V=>?_
  refine⟨.ref s.heap.objs.size,rfl,wpAny_letOwnedTupleGo_items (s:={ s with heap:=h' }) A λh2 y L=>?_⟩
  have M:s.heap.objs.size≠it:=Nat.ne_of_gt (aI st);have I2:L2.Inv X pQ O (upd H s.heap.objs.size (.tup [.ref xs[i].2.1,toV xs[i].2.2])) { s with heap:=h2,toks:=s.toks }:=YA (wr:=[it]) I t (λc o m g=>L.extBut c o (λq=>m (aJ.mpr q)) (V c o (λq=>m (aJ.mpr q)) g)) (aD _) ⟨show 2<=sizeLine by decide,[.ref xs[i].2.1,toW xs[i].2.2],.cons rfl (.cons ZaZ .nil),⟨_,L.extBut _ _ M tup,rfl,0,by rw[U,T]⟩⟩
  refine⟨.ref s.heap.objs.size,_,I2,rfl,⟨_,xs[i].2,rfl,I.hok.fresh (aD _),rfl,λys N Z=>?_⟩,⟨_,_,y⟩,λb p=>?_⟩
  .rw[r]at N
   have z:=congrFun (HO.dN.inj (Option.some.inj N)) X.w;unfold Z1 at z;have j:i < ys.length:=by omega
   have J:=congrArg (λl=>l[i]?) z
   simp only[aT,lG7 Q,lG7 j,Option.map_some]at J
   injection Option.some.inj J with _ x S
   refine⟨ys[i].1,?_⟩;rw[lG7 j]
   injection x with x
   exact congrArg some (Prod.ext rfl (Prod.ext x.symm (Zc8 S).symm))
  .rw[aJ.mp p,upd_ne M.symm]
   exact(t it lQ7).1
 done:=by
  intro X F B G R i pQ s O H E I t st D;subst F B G;obtain⟨hi,xs,r,C⟩:=D;obtain⟨hd,es,d,u⟩:=UZ I r;obtain rfl:es.size=n:=(XQ u).trans C;subst hi;obtain⟨ok,f,st⟩:=st;exact Zem (I.ok.hd R) st d λh' eb=>⟨rfl,YZ (wr:=[it]) (t':=s.toks) I t λb o p e=>eb b o (λq=>p (aJ.mpr q)) e⟩
 self:=λ_ _ _ _ _ st h=>let ⟨_,_,e⟩:=st;W.kcp_self e h
def Zgo(c:TE):TI:=λO H R=>c O H λx b=>∃ a xs,x=.ref a/\b a=some (.dN (Z1 xs))/\R (Itd a xs.length) b
theorem ZeQ{tl:TE}(t:PE X o tl)(f:attributeBase o "items" X.env (eval o X.env)=eval o X.env)(d:(ap.endLine==cp.line)=true):PI X (.Tuple elts kk tp) (.Call (.Attribute o "items" ap) [] [] cp) (Zgo tl):=by
 intro pQ s O H R I h;refine wpAny_Call_method0_late f d (thn (t pQ s O H _ I h) λv g ⟨x,m,l,n,p⟩=>?_)
 obtain⟨a,xs,rfl,e,q⟩:=p;cases n;obtain⟨w,es,c,u⟩:=UZ l e;have r:=XQ u;obtain⟨o',k,j,A⟩:=id c;refine⟨"dict", "dict.items",PySem.F.plainAttrs_dict,PySem.F.slot_dict_items,PySem.F.type_dict_items,c.typeIs,λb z=>by cases z;exact⟨o',k,j.2.1⟩,Calls.callWith_builtin rfl (PySem.evalArgs_none ?_)⟩
 refine call_meetsIn PySem.F.slot_dict_items c.typeIs PySem.F.entry_dict_items (PySem.F.args_dict_items_1 _) (Ja a w) ⟨⟨es,es.size,c⟩,?_⟩;have i:L2.Inv X pQ O m { g with heap:=g.heap.push { cls:=.type "dict_items",data:=.fields #[.ref a] } }:=l.kept (t':=g.toks) λb o e=>aO _ e
 refine Zau (s:={ g with heap:=g.heap.push { cls:=.type "dict_items",data:=.fields #[.ref a] } }) (es:=es) (ep:=es.size) ⟨_,aY _ rfl,rfl,rfl⟩ ⟨o',aO _ k,j,A⟩ ?_
 refine⟨_,[_],_,_,m,rfl,i.kept (t':=g.toks) λb o e=>aO _ e,Zbk a _ _,⟨_,_,by rw[<-r];exact aY _ rfl⟩,λb y=>?_,q⟩
 rw[aJ.mp y];exact i.fpOk (aD _) (i.hok.fresh (aD _))
theorem EntN.its{K:fG7}{xs:Li (D×Ad×Ot Ad)}(r:EntN K ad H xs ds):(ds.filterMap itQ).length=xs.length/\∀ (k:Nat) (q:D×D),(ds.filterMap itQ)[k]?=some q->∃ x:D×Ad×Ot Ad,xs[k]?=some x/\Den K ad H (.ref x.2.1) q.1/\Den K ad H (toV x.2.2) q.2:=by
 induction r with
 |nil=>exact⟨rfl,λk q h=>nomatch h⟩
 |@cons a d g f xs ds h ok v r b=>
  have e:(D.tup [a,d] :: ds).filterMap itQ=(a,d) :: ds.filterMap itQ:=rfl;rw[e];refine⟨by rw[aQ,aQ,b.1],λk q c=>?_⟩
  cases k with
  |zero=>cases c;exact⟨_,rfl,h,v⟩
  |succ k=>exact b.2 k q c
theorem Zaa{K:fG7}{f:Ex}(E:Ends)(O:L2.St)(H:Hp)(h:tS K (JU i j fi f) E O H):tFor (Zgo (tE K fi)) (gTup K 2 (gCons (gName i) (gCons (gName j) gNil))) (tS K f) E O H:=by
 obtain⟨ad,U,st,r,st',J,S,e,p⟩:=ZF h;unfold JU at e;split at e
 .rename_i a w Q
  split at e
  .rename_i c W
   split at e
   .rename_i R
    refine⟨ad,U,st,_,w,J,S,Q,λv ad1 H1 C I Z=>?_⟩
    obtain⟨l,rfl,F,G⟩:=Z.ofDic;have dct:∀ {b:Li Ad}{n:Hp}{d:Za},(b[a]?=some l/\ZW n l)->StOk K b n d->d[a]?=some c->∃ xs,EntN K b n xs c.2/\n l=some (.dN (Z1 xs)):=λg s o=>by
     obtain⟨xs,⟨r,_⟩,A,_⟩:=s.dict g.1 g.2 (show _=some (c.1,c.2) from o) R;exact⟨xs,r,A⟩
    obtain⟨xs,y,A⟩:=dct ⟨F,G⟩ I W;refine⟨l,xs,rfl,A,_,⟨_,.mk (Good:=λad H=>ad[a]?=some l/\ZW H l) (bG _) (J.mono C) I ⟨F,G⟩ e (p.later C)⟩,Xk (λ_ _ _ _ x g=>⟨x.pre _ _ g.1,(x.kd _ _ g.1).mp g.2⟩) (λb n d g s o=>?_) λk b n d q g s o V=>?_⟩
    .obtain⟨ys,t,u⟩:=dct g s o
     exact⟨by rw[y.its.1],ys,u,by rw[<-t.its.1,y.its.1]⟩
    .obtain⟨ys,t,u⟩:=dct g s o
     have m:ys.length=xs.length:=by rw[<-t.its.1,y.its.1]
     obtain⟨x,D,Y,X⟩:=t.its.2 k q V;refine⟨_,_,⟨by rw[<-m];exact(bB.mp D).1,ys,u,m⟩,Y,X,λz H' ⟨T,e2,P,N,M,L⟩=>⟨T,P,N,?_⟩⟩
     obtain⟨k',B⟩:=L ys u m;rw[D]at B;cases B;exact M
   .exact Zb e
  .exact Zb e
 .exact Zb e
theorem ZcY(g:Zo G F n)(d:ZH G F n)(K:CxtS X G F sc N){c:CS}{x y:Str}{b:Li Stmt}{p:Pos}(hi:N.idxOf? x=some i)(s:N.idxOf? y=some j)(a:XC it=some e)(h:o2 (CS.forI i j) (cE G n sc N e) (cSs G n sc N b)=some c):PS X (.For (.Tuple [.Name x p,.Name y p2] ctx tp) it b [] pos) (tS X.K (ex F c)):=by
 refine ZS (P:=λc=>PS X _ (tS X.K (ex F c))) h λv w t u=>?_
 unfold XC at a;split at a
 .rename_i o f q m ap cp
  refine Yq a λl k=>?_
  obtain⟨rfl,r⟩:=l;cases k;exact Zs (ps_for (passes K) K.calm (ZeQ (g X sc N K.toCxt _ v t).pe rfl r) (pg_tup K.calm (pgs_cons (Z3 K hi) (pgs_cons (Z3 K s) pgs_nil))) (d X sc N K _ w u) (ZC rfl)) Zaa
 .exact Zb a
theorem ZcX(d:Zo G F n)(a:ZH G F n)(K:CxtS X G F sc N){c:CS}{x y:Str}{b:Li Stmt}{p:Pos}(hi:N.idxOf? x=some i)(l:N.idxOf? y=some j)(k:Wa G sc it=some e)(h:o2 (CS.forE i j) (cE G n sc N e) (cSs G n sc N b)=some c):PS X (.For (.Tuple [.Name x p,.Name y p2] ctx tp) it b [] pos) (tS X.K (ex F c)):=by
 refine ZS (P:=λc=>PS X _ (tS X.K (ex F c))) h λo q f m=>?_
 obtain⟨g,A⟩:=UK (elts:=[.Name x p,.Name y p2]) (kk:=ctx) (tp:=tp) K.toCxt k (Zf f) (d X sc N K.toCxt _ o f).pe;exact Zs (ps_for (passes K) K.calm A (pg_tup K.calm (pgs_cons (Z3 K hi) (pgs_cons (Z3 K l) pgs_nil))) (a X sc N K _ q m) (ZC g)) J9
theorem ZcV(d:Zo G F n)(a:ZH G F n)(K:CxtS X G F sc N){c:CS}{x y:Str}{b:Li Stmt}{p:Pos}(h:o3 (λ(p:Nat×Nat) (q:Nat×CE) b=>CS.for4 p.1 p.2 q.1 q.2 b) (o2 Prod.mk (N.idxOf? x) (N.idxOf? y)) (o2 Prod.mk (N.idxOf? z) (cE G n sc N it)) (cSs G n sc N b)=some c):PS X (.For (.Tuple [.Name x p,.Name y p2,.Name z p3] ctx tp) it b [] pos) (tS X.K (ex F c)):=
 Xl (P:=λc=>PS X _ (tS X.K (ex F c))) h λu v e k g r=>ZS (P:=λu:Nat×Nat=>PS X _ (tS X.K (ex F (.for4 u.1 u.2 v.1 v.2 e)))) k λi j hi o=>ZS (P:=λv:Nat×CE=>PS X _ (tS X.K (ex F (.for4 i j v.1 v.2 e)))) g λl s m f=>
  Zs (ps_for (passes K) K.calm (pi_tup (d X sc N K.toCxt _ s f).pe) (pg_tup K.calm (pgs_cons (Z3 K hi) (pgs_cons (Z3 K o) (pgs_cons (Z3 K m) pgs_nil)))) (a X sc N K _ e r) (ZC (Zf f))) J8
theorem ZcT(d:Zo G F n)(a:ZH G F n)(K:CxtS X G F sc N){c:CS}{x y:Str}{b:Li Stmt}{p:Pos}(hi:N.idxOf? x=some i)(f:N.idxOf? y=some j)(h:o2 (CS.for2 i j) (cE G n sc N it) (cSs G n sc N b)=some c):PS X (.For (.Tuple [.Name x p,.Name y p2] ctx tp) it b [] pos) (tS X.K (ex F c)):=by
 refine ZS (P:=λc=>PS X _ (tS X.K (ex F c))) h λl m g k=>?_
 exact λpQ s O H D I q=>by
  obtain⟨_,_,_,_,_,_,_,e,_⟩:=ZF q;cases e
theorem Zfv(b:Zo G F n)(K:CxtS X G F sc N){c:CS}{x:Str}{p:Pos}(h:Zd5 sc N x m ap cp (cE G n sc N e)=some c):PS X (.Expr (.Call (.Attribute (.Name x p) m ap) [e] [] cp) pos) (tS X.K (ex F c)):=by
 refine Yq h λd h=>?_
 by_cases g:m = "append"
 .subst g
  rw[if_pos rfl]at h;exact ZS (P:=λc=>PS X _ (tS X.K (ex F c))) h λi y hi a=>Zs (ps_expr (pe_bm PySem.F.plainAttrs_list PySem.F.slot_list_append PySem.F.type_list_append mt_append (Ug K.toCxt d.1 hi) (pa1 (Zf a) (b X sc N K.toCxt _ y a).pe) rfl (by rw[Zd (Zf a)];rfl) d.2 (Zd (Zf a)) rfl) rfl) ZbU
 .rw[if_neg g]at h
  by_cases f:m = "extend"
  .subst f
   rw[if_pos rfl]at h;exact ZS (P:=λc=>PS X _ (tS X.K (ex F c))) h λi y hi a=>Zs (ps_expr (pe_bm PySem.F.plainAttrs_list PySem.F.slot_list_extend PySem.F.type_list_extend mt_extend (Ug K.toCxt d.1 hi) (pa1 (Zf a) (b X sc N K.toCxt _ y a).pe) rfl (by rw[Zd (Zf a)];rfl) d.2 (Zd (Zf a)) rfl) rfl) ZbW
  .rw[if_neg f]at h;cases h
theorem ZcQ(d:Zo G F n)(f:Wg G F n)(K:CxtS X G F sc N){c:CS}(h:Zf3 N tg e (cE G n sc N e)=some c):PS X (.Assign [tg] e pos) (tS X.K (ex F c)):=by
 have no:∀ {P:Prop},(none:Ot CS)=some c->P:=λz=>nomatch z
 cases tg with
 |Name x p=>exact Zfw d f K h
 |Tuple es ctx tp=>cases es with
  |nil=>exact no h
  |cons a es=>cases a with
   |Name _ _=>cases es with
    |nil=>exact no h
    |cons b es=>cases b with
     |Name _ _=>cases es with
      |nil=>exact Zc1 d K h
      |cons g es=>cases g with
       |Name _ _=>cases es with
        |nil=>exact Zc2 d K h
        |cons _ _=>exact no h
       |_=>exact no h
     |_=>exact no h
   |_=>exact no h
 |_=>exact no h
theorem ZcW(f:Zo G F n)(k:Yw G F n)(d:ZH G F n)(K:CxtS X G F sc N){c:CS}{b:Li Stmt}(h:Zer G sc N (cE G n sc N) (cEs G n sc N) tg it (cSs G n sc N b)=some c):PS X (.For tg it b [] pos) (tS X.K (ex F c)):=by
 have no:∀ {P:Prop},(none:Ot CS)=some c->P:=λz=>nomatch z
 cases tg with
 |Name x p=>
  unfold Zer at h;cases r:Xa G sc it with
  |some as=>
   rw[r]at h;exact ZcU k d K r h
  |none=>
   rw[r]at h;exact ZcS f d K h
 |Tuple es ctx tp=>cases es with
  |nil=>exact no h
  |cons a es=>cases a with
   |Name x p=>cases es with
    |nil=>exact no h
    |cons v es=>cases v with
     |Name y p2=>cases es with
      |nil=>
       replace h:((o2 (λi j=>og (i≠j) (some (i,j))) (N.idxOf? x) (N.idxOf? y)).join.bind λp=>(match XG G sc it with
        |some as=>o2 (CS.forP p.1 p.2) (cEs G n sc N as) (cSs G n sc N b)
        |none=>match Wa G sc it with
         |some e=>o2 (CS.forE p.1 p.2) (cE G n sc N e) (cSs G n sc N b)
         |none=>match XC it with
          |some e=>o2 (CS.forI p.1 p.2) (cE G n sc N e) (cSs G n sc N b)
          |none=>o2 (CS.for2 p.1 p.2) (cE G n sc N it) (cSs G n sc N b)))=some c:=h
       refine b_e h λq s h=>j_e s λs=>ZS (P:=λo=>o=some q->PS X _ (tS X.K (ex F c))) s (λi j hi l e=>Yq e λ_ e=>?_) rfl
       cases e;cases m:XG G sc it with
       |some as=>
        rw[m]at h;exact ZcZ k d K hi l m h
       |none=>
        rw[m]at h;dsimp only at h;cases t:Wa G sc it with
        |some e=>
         rw[t]at h;exact ZcX f d K hi l t h
        |none=>
         rw[t]at h;dsimp only at h;cases g:XC it with
         |some e=>
          rw[g]at h;exact ZcY f d K hi l g h
         |none=>
          rw[g]at h;exact ZcT f d K hi l h
      |cons u es=>cases u with
       |Name _ _=>cases es with
        |nil=>exact ZcV f d K h
        |cons _ _=>exact no h
       |_=>exact no h
     |_=>exact no h
   |_=>exact no h
 |_=>exact no h
theorem ZcP(a:Zo G F n)(K:CxtS X G F sc N){c:CS}{k:Expr}{p:Pos}(h:og (m = "append"/\(ap.endLine==cp.line)=true) (o2 CS.app2 (cE G n sc N (.Subscript o k p)) (cE G n sc N e))=some c):PS X (.Expr (.Call (.Attribute (.Subscript o k p) m ap) [e] [] cp) pos) (tS X.K (ex F c)):=by
 refine Yq h λg h'=>?_
 obtain⟨i,f⟩:=g;subst i;exact ZS (P:=λc=>PS X _ (tS X.K (ex F c))) h' λz y d b=>Zs (ps_expr (pe_bm PySem.F.plainAttrs_list PySem.F.slot_list_append PySem.F.type_list_append mt_append (a X sc N K.toCxt _ z d).pe (pa1 (Zf b) (a X sc N K.toCxt _ y b).pe) rfl (by rw[Zd (Zf b)];rfl) f (Zd (Zf b)) rfl) rfl) J3
theorem ZcO(a:Zo G F n)(K:CxtS X G F sc N){c:CS}{v:Expr}(h:ZfZ sc N (cE G n sc N) v=some c):PS X (.Expr v pos) (tS X.K (ex F c)):=by
 have no:∀ {P:Prop},(none:Ot CS)=some c->P:=λz=>nomatch z
 cases v with
 |Call f as b cp=>cases f with
  |Attribute o m ap=>cases o with
   |Name x p=>
    replace h:(if m = "append"\/m = "extend" then (match (generalizing:=false) as,b with
     |[e],[]=>Zd5 sc N x m ap cp (cE G n sc N e)
     |_,_=>none) else (cE G n sc N (.Call (.Attribute (.Name x p) m ap) as b cp)).map CS.act)=some c:=h
    by_cases d:m = "append"\/m = "extend"
    .rw[if_pos d]at h
     cases as with
     |nil=>exact no h
     |cons e es=>cases es with
      |nil=>cases b with
       |nil=>exact Zfv a K h
       |cons _ _=>exact no h
      |cons _ _=>exact no h
    .rw[if_neg d]at h
     obtain⟨i,g,rfl⟩:=dM.mp h;exact Zs (ps_expr (a X sc N K.toCxt _ i g).pe rfl) Qm
   |Subscript o k p=>cases as with
    |nil=>exact no h
    |cons e es=>cases es with
     |nil=>cases b with
      |nil=>exact ZcP a K h
      |cons _ _=>exact no h
     |cons _ _=>exact no h
   |_=>exact no h
  |Name f j=>exact Zfu a K h
  |_=>exact no h
 |_=>exact no h
theorem Uq(d:Zo G F n)(l:Yw G F n)(g:ZH G F n)(r:Wg G F n):Uw G F (n+1):=by
 intro X sc N K s c h;have no:∀ {P:Prop},(none:Ot CS)=some c->P:=λz=>nomatch z
 cases s with
 |Assign i e pos=>cases i with
  |nil=>exact no h
  |cons t m=>cases m with
   |cons _ _=>cases t with
    |Subscript o k p=>cases o<;>exact no h
    |Attribute o k p=>cases o<;>exact no h
    |_=>exact no h
   |nil=>cases t with
    |Subscript o k p=>cases o with
     |Name x q=>exact Zfx d K h
     |Attribute o f q=>exact ZcR d K h
     |_=>exact no h
    |Attribute o k p=>cases o with
     |Name x q=>exact Zc0 d K h
     |_=>exact no h
    |_=>exact ZcQ d r K h
 |Return e pos=>cases e with
  |none=>exact no h
  |some e=>exact Zfy d K h
 |If e a b pos=>exact ZgP d g K h
 |While e b j pos=>cases j with
  |cons _ _=>exact no h
  |nil=>exact Za6 d g K h
 |For t it b j pos=>cases j with
  |cons _ _=>exact no h
  |nil=>exact ZcW d l g K h
 |Expr v pos=>exact ZcO d K h
 |Pass pos=>
  cases (show some CS.skip=some c from h)
  exact Zs ps_pass VX
 |Break pos=>
  cases (show some CS.brk=some c from h)
  exact Zs ps_break ZbV
 |Raise a b pos=>
  cases (show some CS.stop=some c from h)
  exact λpQ s O H D I q=>by
   obtain⟨_,_,_,_,_,_,_,e,_⟩:=ZF q;cases e
 |Continue pos=>
  cases (show some CS.cont=some c from h)
  exact Zs ps_continue J4
 |_=>exact no h
theorem Vu(e:Uw G F n)(d:ZH G F n):ZH G F (n+1):=by
 intro X sc N K s c h;cases s with
 |nil=>
  simp only[cSs]at h;cases h;exact QB pss_nil VX
 |cons s r=>
  exact ZS (P:=λc=>PSs X _ (tS X.K (ex F c))) (show o2 CS.seq (cS G n sc N s) (cSs G n sc N r)=some c from h) λa b g f=>QB (pss_cons (e X sc N K s a g) (d X sc N K r b f)) Zb6
end
variable [ClsTab]
def Yj(G:Gs)(F:Nat->Fn):Prop:=∀ n,Zo G F n->(∀ X sc N,Cxt X G F sc N->∀ elt gens sc2 pos c,cE G (n+1) sc N (.ListComp elt gens sc2 pos)=some c->SE X F (.ListComp elt gens sc2 pos) c)/\Wg G F (n+1)
theorem YK{G:Gs}{F:Nat->Fn}(d:Yj G F):∀ n,(Zo G F n/\Yw G F n/\W4 G F n)/\Uw G F n/\ZH G F n/\Wg G F n
 |0=>⟨⟨λX sc N K e c h=>(nomatch (show(none:Ot CE)=some c from h)),λX sc N K e c h=>(nomatch (show(none:Ot CE)=some c from h)),λX sc N K e c h=>(nomatch (show(none:Ot CE)=some c from h))⟩,λX sc N K e c h=>(nomatch (show(none:Ot CS)=some c from h)),λX sc N K e c h=>(nomatch (show(none:Ot CS)=some c from h)),λX sc N K x i p elt gens sc2 j pos c _ h=>(nomatch (show(none:Ot CE)=some c from h))⟩
 |n+1=>by
  obtain⟨⟨a,g,l⟩,k,b,f⟩:=YK d n;exact⟨⟨U2 a g l (d n a).1,Uo a g,Up a⟩,Uq a g b f,Vu k b,(d n a).2⟩
def QN(K:fG7)(G:Gs)(T:Nat->Ot FD)(x y:Str)(i:Nat)(f:Ad)(fd:FuncData)(pn N:Li Str):Prop:=∃ (st:Stmt) (oc:vL) (od:Ot Ad) (dV kV doc pm:vL) (an:Ot Ad) (cdv ct:vL) (osl:Array (Ot vL)) (code:CS),
  fd=W.fnOf x y (defArgs st) (defBody st) (defScope st) dV kV doc pm an cdv ct/\K.lookup f=some ⟨oc,od,.func fd,osl⟩/\W.codeIn K cdv y=true/\FnScope N pn (defScope st)/\(∀ y∈N,Loc (defScope st) y) /\
  cSs G 60 (defScope st) N (defBody st)=some code/\T i=some ⟨pn.length,N.length,code⟩
def QM(K:fG7)(mg:Str->Ot vL)(G:Gs)(T:Nat->Ot FD)(i:Nat)(f:Ad)(fd:FuncData)(pn:Li Str):Prop:=∀ (P:Program) (w:World) (base:Heap) (n:Nat),(∀ m,m<=n->∀ A,Room (2 * m+1) A->∀ y g,G.lookup y=some g->GOk P w K mg base A (run T m) y g)->FnOk P w K mg base CX0 (2 * (n+1)) f fd pn (spD K (run T (n+1) i))
structure DefOk(K:fG7)(mg:Str->Option Value)(G:Gs)(T:Nat->Option FD)(x:Str)(i:Nat)(ds:List D)(f:Addr)(fd:FuncData)(pn N:List Str):Prop where
 ob:QN K G T x x i f fd pn N\/QM K mg G T i f fd pn
 kp:W.keepIn K (.ref f)=true
 at_:mg x=some (.ref f)
 bn:∀ m,m<=ds.length->∃ dvs us,(∀ ad H,Dens K ad H dvs (ds.drop m))/\Vals dvs us/\Binds K fd pn us
structure MethOk(K:fG7)(G:Gs)(T:Nat->Option FD)(C:Addr)(x y:Str)(i:Nat)(f:Addr)(fd:FuncData)(pn N:List Str):Prop where
 ob:QN K G T x y i f fd pn N
 mt:Meth K C x f
 bn:Binds K fd pn []
structure Text(Pm:Params)(K:fG7)(mg:Str->Option Value)(G:Gs)(T:Nat->Option FD):Prop where
 cst:∀ x d,G.lookup x=some (.c d)->∃ v u,mg x=some u/\RelV v u/\∀ ad H,Den K ad H v d
 blt:∀ x,G.lookup x=some .blt->mg x=none
 dct:∀ x ks ds,G.lookup x=some (.dct ks ds)->U9 Pm K mg x ks ds
 fn:∀ x i ps ds,G.lookup x=some (.fn i ps ds)->∃ f fd pn N,DefOk K mg G T x i ds f fd pn N
 cls:∀ x i ms subs ds,G.lookup x=some (.cls i ms subs ds)->(mg x=some (.ref (ClsTab.ca i))/\NewOk K (ClsTab.ca i)/\∀ i',subs.contains i'=true->SubOk K (ClsTab.ca i') (ClsTab.ca i)) /\
  (∀ m j ps,ms.lookup m=some (j,ps)->∃ y f fd pn N,MethOk K G T (ClsTab.ca i) m y j f fd pn N/\(m = "__init__"->ObC K (ClsTab.ca i)/\∀ n,n<=ds.length->∃ dvs us,(∀ ad H,Dens K ad H dvs (ds.drop n))/\Vals dvs us/\Binds K fd pn us)) /\
  (ms.lookup ("__init__":Str)=none->W.findIn K (.ref (ClsTab.ca i)) "__init__"=some (some (.builtin "object.__init__")))
variable{pn:Li Str}
variable{P:Program}{w:World}{K:fG7}{mg:Str->Ot vL}{base:Heap}{T:Nat->Ot FD}
theorem WH{x:Str}(h:Y0 sc x=true):Vis sc x:=by
 unfold Y0 at h;rw[bA7]at h;have h:=h.2;split at h
 .rename_i q;exact .inl q
 .rename_i q;exact .inr (.inl q)
 .rename_i q;exact .inr (.inr q)
 .cases h
theorem XB{x:Str}(h:Zy sc x=true):sc.names.lookup x=some .globalImplicit:=by
 unfold Zy at h;rw[bA7]at h;have h:=h.2;split at h
 .rename_i q;exact q
 .cases h
theorem Xu{x:Str}(h:Wv sc x=true):sc.names.lookup x=some .cell\/sc.names.lookup x=some .free:=by
 unfold Wv at h;split at h
 .rename_i q;exact .inl q
 .rename_i q;exact .inr q
 .cases h
theorem Y6(h:Dens K ad H vs ds)(f:ds.length<=N.length):EnvOk K ad H (L2.start N vs) (ds.map some++List.replicate (N.length - ds.length) none):=by
 have e:=h.length;refine⟨by unfold L2.start;simp[e],λi d q=>?_⟩
 by_cases hi:i < ds.length
 .rw[bU (by simpa using hi),aT,lG7 hi]at q
  have a:ds[i]=d:=by simpa using q
  have g:ds[i]?=some d:=by rw[lG7 hi,a]
  obtain⟨v,c,b⟩:=h.get g;refine⟨v,?_,b⟩;unfold L2.start;rw[bU (by simpa[e] using hi),aT,c]
  rfl
 .rw[bX (by simpa using hi),dX]at q
  split at q<;>cases q
theorem ZeO{n:Nat}(V:∀ n,Yj G (run T n))(gl:∀ A,Room (2 * n+1) A->∀ y g,G.lookup y=some g->GOk P w K mg base A (run T n) y g){x y:Str}{f:Ad}{fd:FuncData}(O:QN K G T x y i f fd pn N):FnOk P w K mg base CX0 (2 * (n+1)) f fd pn (spD K (run T (n+1) i)):=by
 obtain⟨st,oc,od,dV,kV,X,pm,an,D,ct,M,m,rfl,R,z,S,l,c,W⟩:=O;have a:run T (n+1) i=fnD (run T n) ⟨pn.length,N.length,m⟩:=by
  show(match T i with|some f=>fnD (run T n) f|none=>λ_ _=>none)=_
  rw[W]
 refine fn_of (k:=2 * n+1) R z S (λvs H Q E h=>?_) (λA b s H vs Q E F h=>?_)
 .obtain⟨ad,es,st,d,st',_,v,e,_⟩:=h
  rw[a]at e;unfold fnD at e;split at e
  .rename_i u
   rw[v.length];exact u
  .exact Zb e
 .obtain⟨ad,es,s0,d,st',I,v,e,p⟩:=h
  rw[a]at e;unfold fnD at e;split at e
  .rename_i u
   have C:CxtS (cxOf CX0 P w K mg base N y (defScope st) f D A b s H E).nox G (run T n) (defScope st) N:={
    hN:=rfl
    vis:=λy j=>WH j
    glb:=λy j=>XB j
    calm:=rfl
    hu:=F.units
    gl:=gl _ F
    cel:=λy j=>Xu j
    nx:=rfl
    nd:=S.nd
    loc:=l
    fn:=λ_=>rfl }
   have B:=(YK (V n) 60).2.2.1 _ _ _ C _ _ c;have t:pn.length<=N.length:=by have:=congrArg List.length S.pre;rw[bT]at this;omega
   have o:=Y6 (N:=N) v (by rw[show es.length=pn.length from u];exact t)
   refine⟨_,B.nox,?_⟩;split at e
   .rename_i d' r q
    cases e;exact ZJ o I q p
   .rename_i U r q
    cases e;exact ZJ o I q λJ Y H1 L Z E1=>(p.later L).at Z .non
   .exact Zb e
  .exact Zb e
theorem Zdd{f:Ad}{fd:FuncData}:FnOk P w K mg base CX0 0 f fd pn (spD K (run T 0 i)):=by
 refine⟨λvs H Q E h=>?_,λA a s H b c vs Q E _ _ _ _ h=>?_⟩
 .obtain⟨_,_,_,_,_,_,_,e,_⟩:=h;cases e
 .obtain⟨_,_,_,_,_,_,_,e,_⟩:=h;cases e
theorem Zdt(X:Text w.params K mg G T)(h:∀ {x y:Str}{i:Nat}{f:Ad}{fd:FuncData}{pn N:Li Str},QN K G T x y i f fd pn N\/QM K mg G T i f fd pn->FnOk P w K mg base CX0 (2 * n) f fd pn (spD K (run T n i)))(A:Around)(e:Room (2 * n+1) A):∀ y g,G.lookup y=some g->GOk P w K mg base A (run T n) y g:=λy g a=>by
 cases g with
 |c d=>exact X.cst y d a
 |blt=>exact X.blt y a
 |dct ks ds=>exact X.dct y ks ds a
 |fn j k es=>
  obtain⟨f,fd,pn,N,b⟩:=X.fn y j k es a;exact⟨2 * n,f,fd,pn,h b.ob,e.mono (bV _),b.at_,b.kp,b.bn⟩
 |cls i ms subs ds=>
  obtain⟨⟨u,t,s⟩,r,q⟩:=X.cls y i ms subs ds a;refine⟨u,t,s,λm j l o=>?_,q⟩
  obtain⟨z,f,fd,pn,N,Mk,p⟩:=r m j l o;exact⟨2 * n,f,fd,pn,h (.inl Mk.ob),e,Mk.mt,Mk.bn,p⟩
theorem Uz(c:∀ n,Yj G (run T n))(X:Text w.params K mg G T):∀ (n m:Nat),m<=n->∀ {x y:Str}{i:Nat}{f:Ad}{fd:FuncData}{pn N:Li Str},QN K G T x y i f fd pn N\/QM K mg G T i f fd pn->FnOk P w K mg base CX0 (2 * m) f fd pn (spD K (run T m i))
 |n,0,_,_,_,_,_,_,_,_,_=>Zdd
 |n+1,m+1,h,_,_,_,_,_,_,_,.inl a=>ZeO c (λA b=>Zdt X (λa=>Uz c X n m (Nat.le_of_succ_le_succ h) a) A b) a
 |n+1,m+1,h,_,_,_,_,_,_,_,.inr e=>e P w base m λl d A b=>Zdt X (λa=>Uz c X n l (aP d (Nat.le_of_succ_le_succ h)) a) A b
theorem Zd4(a:∀ n,Yj G (run T n))(X:Text w.params K mg G T)(n:Nat){x y:Str}{f:Ad}{fd:FuncData}(h:QN K G T x y i f fd pn N\/QM K mg G T i f fd pn):FnOk P w K mg base CX0 (2 * n) f fd pn (spD K (run T n i)):=Uz a X n n (aD _) h
variable [ClsTab]
variable{ad:Li Ad}{H:Hp}{ys:Li V}
section
variable{p:Ad}{xs:Li V}
theorem UU(b:H p=some (.lst xs)){a:Ad}:ZW H a↔ZW (upd H p (.lst ys)) a:=U6 (Vp b rfl) rfl
theorem UQ{K:fG7}(a:H p=some (.lst xs)):Keeps K ad ad H (upd H p (.lst ys)):=⟨λh=>h.upd a (by intro xs z;cases z),λh=>⟨h,UU a⟩,λh n=>⟨by rw[upd_ne (ne_of h a (by intro z;cases z))];exact h,n⟩⟩
theorem Den.wr{K:fG7}(a:H p=some (.lst xs)){v:V}(h:Den K ad H v d):Den K ad (upd H p (.lst ys)) v d:=h.map (UQ a)
theorem Dens.wr{K:fG7}(a:H p=some (.lst xs))(h:Dens K ad H vs ds):Dens K ad (upd H p (.lst ys)) vs ds:=h.map (UQ a)
theorem EnvOk.wr{K:fG7}(a:H p=some (.lst xs))(h:EnvOk K ad H O U):EnvOk K ad (upd H p (.lst ys)) O U:=⟨h.len,λi d e=>let ⟨v,e1,e2⟩:=h.at_ i d e;⟨v,e1,e2.wr a⟩⟩
theorem StOk.wr{K:fG7}(S:StOk K ad H st)(a:H p=some (.lst xs))(b:p∉ad):StOk K ad (upd H p (.lst ys)) st:=
 S.wrG (UQ a) b
theorem Ext.wr{c:Li Ad}{d:Hp}(x:Ext c d ad H)(g:H p=some (.lst xs))(e:d p=none):Ext c d ad (upd H p (.lst ys)):=by
 refine⟨x.pre,λb f h=>?_,λb o h n=>?_,x.new,λi a h=>(x.kd i a h).trans (UU g)⟩
 .rw[upd_ne (ne_of_none h e)];exact x.tup b f h
 .rw[upd_ne (ne_of_none h e)];exact x.keep b o h n
end
theorem Wy{c:Str->NameKind->Bool}:∀ {l:Li (Str×NameKind)}{y:Str},(l.map λ(n,k)=>if c n k=true then (n,NameKind.cell) else (n,k)).lookup y=(l.lookup y).map λk=>if c y k=true then NameKind.cell else k
 |[],_=>rfl
 | (n,k) :: r,y=>by
  have a:=@Wy c r y;rw[aM];have e:(if c n k=true then (n,NameKind.cell) else (n,k))=(n,if c n k=true then NameKind.cell else k):=by split<;>rfl
  show List.lookup y ((if c n k=true then (n,NameKind.cell) else (n,k)) :: _)=_
  rw[e,bJ,bJ];cases q:y==n with
  |true=>rw[beq_iff_eq.mp q];rfl
  |false=>exact a
theorem Yn{env:PySem.Env}{y:Str}:(relabel sc env).names.lookup y=(sc.names.lookup y).map λk=>if (k==NameKind.free&&env.scope.kind==.function&&env.kindOf y==some .cell)=true then NameKind.cell else k:=
 Wy (c:=λn k=>k==NameKind.free&&env.scope.kind==.function&&env.kindOf n==some .cell)
theorem YC{y:Str}{k:NameKind}(h:sc.names.lookup y=some k)(a:k≠.free):(relabel sc env).names.lookup y=some k:=by
 rw[Yn,h];have:(k==NameKind.free)=false:=by simpa using a
 show some (if (k==NameKind.free&&_&&_)=true then NameKind.cell else k)=some k
 rw[this,Bool.false_and,Bool.false_and,if_neg bF7]
theorem YN{y:Str}(h:sc.names.lookup y=some .free):(relabel sc env).names.lookup y=some .cell\/(relabel sc env).names.lookup y=some .free:=by
 rw[Yn,h];show(some (if _ then NameKind.cell else NameKind.free))=_\/(some (if _ then NameKind.cell else NameKind.free))=_
 split
 .exact .inl rfl
 .exact .inr rfl
theorem Vq{sc:Scope}{y:Str}(d:∀ p∈sc.names,p.2≠.cell)(h:(relabel sc env).names.lookup y=some .cell\/(relabel sc env).names.lookup y=some .free):sc.names.lookup y=some .free:=by
 rw[Yn]at h;cases q:sc.names.lookup y with
 |none=>rw[q]at h;rcases h with h|h<;>cases h
 |some k=>
  rw[q]at h;cases k with
  |free=>rfl
  |cell=>
   have:∀ {l:Li (Str×NameKind)},l.lookup y=some .cell->∃ p∈l,p.2=.cell:=λ{l} e=>by
    induction l with
    |nil=>exact Zb e
    |cons a l c=>
     obtain⟨n,k⟩:=a;rw[bJ]at e;split at e
     .cases e;exact⟨_,lQ7,rfl⟩
     .obtain⟨p,b,f⟩:=c e;exact⟨p,lM7 _ b,f⟩
   obtain⟨p,b,e⟩:=this q;exact absurd e (d p b)
  |_=>rcases h with h|h<;>simp at h
theorem Xg{env:PySem.Env}:∀ (l:Li (Str×NameKind)) (b:Li (Str×Ad)),(∀ p∈l,p.2=.free->∃ c,env.cells.lookup p.1=some c)->
  ∃ d,(forIn l b λ(x:Str×NameKind) (r:Li (Str×Ad))=>(do
   if (x.2==NameKind.free)=true then
    let a <-cellOf env x.1
    pure (ForInStep.yield ((x.1,a) :: r))
   else pure (ForInStep.yield r):Sem (ForInStep (Li (Str×Ad)))))=pure d /\
   (∀ y c,d.lookup y=some c->b.lookup y=some c\/((y,NameKind.free)∈l/\env.cells.lookup y=some c))/\(∀ y,(y,NameKind.free)∈l\/(b.lookup y).isSome->(d.lookup y).isSome)
 |[],b,_=>⟨b,by simp only[List.forIn_nil],λy c h=>.inl h,λy h=>by simpa using h⟩
 | (n,k) :: l,b,h=>by
  by_cases m:k=.free
  .subst m
   obtain⟨t,f⟩:=h (n,.free) lQ7 rfl;obtain⟨d,e,s,o⟩:=Xg (env:=env) l ((n,t) :: b) λp j=>h p (lM7 _ j)
   refine⟨d,?_,λy c q=>?_,λy q=>?_⟩
   .rw[List.forIn_cons]
    simp only[beq_self_eq_true,if_true];have:cellOf env n=pure t:=by unfold cellOf;rw[f]
    simp only[this,pure_bind];exact e
   .rcases s y c q with z|⟨i,g⟩
    .rw[bJ]at z
     split at z
     .rename_i u
      cases z;rw[beq_iff_eq.mp u];exact .inr ⟨lQ7,f⟩
     .exact .inl z
    .exact .inr ⟨lM7 _ i,g⟩
   .refine o y ?_
    rcases q with q|q
    .rcases aH.mp q with z|z
     .cases z
      exact .inr (by rw[bJ];simp)
     .exact .inl z
    .refine .inr ?_
     rw[bJ];split
     .rfl
     .exact q
  .obtain⟨d,e,s,o⟩:=Xg (env:=env) l b λp j=>h p (lM7 _ j)
   refine⟨d,?_,λy c q=>?_,λy q=>?_⟩
   .rw[List.forIn_cons]
    have:(k==NameKind.free)=false:=by simpa using m
    simp only[this,dB,if_false,pure_bind];exact e
   .rcases s y c q with z|⟨i,g⟩
    .exact .inl z
    .exact .inr ⟨lM7 _ i,g⟩
   .refine o y ?_
    rcases q with q|q
    .rcases aH.mp q with z|z
     .cases z;exact absurd rfl m
     .exact .inl z
    .exact .inr q
theorem VI{sc:Scope}(h:∀ p∈sc.names,p.2=.free->∃ c,env.cells.lookup p.1=some c):∃ a,closureFor sc env=pure a/\(∀ y c,a.lookup y=some c->env.cells.lookup y=some c)/\∀ y,(y,NameKind.free)∈sc.names->(a.lookup y).isSome:=by
 obtain⟨a,e,d,b⟩:=Xg (env:=env) sc.names [] h;refine⟨a,?_,λy c q=>?_,λy q=>b y (.inl q)⟩
 .unfold closureFor
  rw[show(λ(x:Str×NameKind) (r:Li (Str×Ad))=>_)=_ from rfl]at e
  first|exact(by simp only[e,pure_bind]) | (simp only[bind_pure]at *;exact e)|exact e
 .rcases d y c q with z|⟨_,z⟩
  .exact Zb z
  .exact z
variable [ClsTab]
variable{iter:Expr}{ifs:Li Expr}
theorem VL{R:Result->sH7->Prop}{s:sH7}{a:Expr}{scope:Scope}{it p:vL}(I:Nat->sH7->Prop)(turn:∀ n s,I n s->wpAny (model prog w) A (pyNext it) (λr g=>match r with
   |none=>R (.ok .next) g
   |some v=>wpAny (model prog w) A (letOwnedTupleGo a it v) (λ_ f=>wpAny (model prog w) A (assign a env v) (λ_ l=>
     wpAny (model prog w) A (forIn ifs true λc r=>if r=true then do let ok <-isTrue c env (eval c env);pure (ForInStep.yield ok) else pure (ForInStep.yield r)) (λok d=>
      if ok=true then wpAny (model prog w) A (eval elt env) (λx k=>
       wpAny (model prog w) A (call (.builtin "list.append") [p,x]) (λ_ j=>∃ m,m < n/\I m j) (notedBy (model prog w) A env λe i=>R (.error e) i) k) (notedBy (model prog w) A env λe i=>R (.error e) i) d
      else ∃ m,m < n/\I m d) (notedBy (model prog w) A env λe i=>R (.error e) i) l) (notedBy (model prog w) A env λe i=>R (.error e) i) f) (notedBy (model prog w) A env λe i=>R (.error e) i) g) (notedBy (model prog w) A env λe i=>R (.error e) i) s)(n:Nat)(h:I n s):codeAny (model prog w) A (.compLoop (.ListComp elt [⟨a,iter,ifs,0⟩] scope pos) 0 it p env) R s:=by
 refine codeAny_loop rfl I (λn s y=>?_) n h
 show wpAny _ A ((compTurn (.ListComp elt [⟨a,iter,ifs,0⟩] scope pos) 0 it p env).onRaise (λx=>do noteFrame x env;theTreesLotGoes x)) _ _ s
 refine wpAny_noted ?_;rw[compTurn_list];refine aA (wpAny_standAt (aA (aX (turn n s y) (λr g b=>?_) λ_ _ h'=>h')))
 cases r with
 |none=>exact aB b
 |some v=>
  refine aA (aX b (λ_ f b=>?_) λ_ _ h'=>h')
  refine aA (aX b (λ_ l u=>aA (aX u (λok d o=>?_) λ_ _ h'=>h')) λ_ _ h'=>h')
  cases ok with
  |false=>exact aB ⟨rfl,o⟩
  |true=>
   exact aA (aA (aX o (λx k t=>aA (aX t (λ_ j q=>aB (aB ⟨rfl,q⟩)) λ_ _ h'=>h')) λ_ _ h'=>h'))
noncomputable def cxC(X:Cx)(N:Li Str)(env:PySem.Env)(a:sH7)(c:Hp)(b:Li Ad)(pQ:Li (Ad×Obj)):Cx:=
 { X with N:=N,s₀:=a,H₀:=c,env:=env,outer:=X.stack,ex:=b,fn:=λ_=>false,pn:=X.pn++pQ,xe:=λ_ _=>False }
variable{m0:Str->Ot vL}{O':L2.St}
variable{pQ:Li (Ad×Obj)}{O:L2.St}{s3:sH7}{sc2:Scope}{cl:Li (Str×Ad)}{N:Li Str}
section
variable{H3:Hp}{fp:Li Ad}
theorem Zaq(a:L2.Inv X pQ O H3 s3){G:Heap}(R:sc2.kind=.function)(f:∀ p∈sc2.names,p.2≠.cell)(E:G.Ns s3.heap.objs.size m0)(up:∀ b u,s3.heap.get? b=some u->G.get? b=some u)(k:∀ y c,cl.lookup y=some c->X.env.cells.lookup y=some c)(J:∀ y,sc2.names.lookup y=some .free->(cl.lookup y).isSome)(s:∀ b∈fp,FpOk X pQ H3 b)(S:∀ b∈fp,b < s3.heap.objs.size)(A:∀ (i:Nat) (y:Str) (v:V),N[i]?=some y->O'[i]?=some (some v)->∃ j:Nat,X.N[j]?=some y/\O[j]?=some (some v)/\sc2.names.lookup y=some .free/\(X.env.scope.names.lookup y=some .cell\/X.env.scope.names.lookup y=some .free))(Q:O'.length=N.length) :
  L2.Inv (cxC X N (compEnvC sc2 cl s3.heap.objs.size X.env) s3 H3 fp pQ) [] O' H3 { s3 with heap:=G,toks:=tk } where
 ok:={
  mod:=a.ok.mod
  kind:=R
  glob:=a.ok.glob
  blt:=a.ok.blt
  above:=aD _
  inj:=λx y c e W=>a.ok.inj x y c (k _ _ e) (k _ _ W)
  has:=λx h=>by
   have e:=Vq (env:=X.env) f h;have:=J x e;cases q:cl.lookup x with
   |none=>rw[q]at this;cases this
   |some c=>exact⟨c,q⟩
  cab:=λx c h=>nomatch h
  hd:=a.ok.hd
  frames:=a.ok.frames
  stk:=.inl rfl
  exf:=λb g=>⟨aW (S b g),λx c e=>(s b g).2.2.2.2.1 x c (k _ _ e)⟩
  bs:=a.bs
  bsz:=aP a.ok.bsz a.sz
  noex:=λb o e g=>by
   rcases (s b g).2.2.2.1 with z|z
   .exact a.ok.noex b o e z
   .exact absurd (aS (aI e) (aP a.ok.bsz z)) (bL _)
  exfs:=λb g B=>by
   rcases aH.mp (a.stkSub b B) with z|z
   .exact(s b g).2.1 z
   .exact(s b g).2.2.1 z
  funs:=a.stack
  frf:=a.stkFree }
 os:=rfl
 bare:=a.bare
 base:=Un.kept up
 loc:=⟨m0,E,λi y v U T Z=>by
  obtain⟨j,g1,g2,I,H⟩:=A i y v U T;obtain⟨m,Y,F⟩:=a.loc;obtain⟨u,r,l⟩:=F j y v g1 g2 (.inr H);refine⟨u,r,.inr ⟨YN I,?_⟩⟩;rcases l with⟨z,_⟩|⟨_,c,e,z⟩
  .have K:X.env.scope.names.lookup y=some .local:=z
   rcases H with w|w<;>(rw[K]at w;cases w)
  .have q:=J y I
   cases t:cl.lookup y with
   |none=>rw[t]at q;cases q
   |some c'=>
    have:=k _ _ t;rw[e]at this;cases this
    obtain⟨o,D,hd⟩:=z;exact⟨c,t,o,up c o D,hd⟩⟩
 cell:=λy c e=>by
  obtain⟨v,o,D,hd⟩:=a.cell y c (k _ _ e);exact⟨v,o,up c o D,hd⟩
 free:=a.hok.fresh (aD _)
 freeC:=λy c e=>a.freeC y c (k _ _ e)
 pin:=λp P=>by
  have C:p∈X.pn++pQ:=by simpa[cxC] using P
  obtain⟨e,n,M,L,d⟩:=a.pin p C;refine⟨up _ _ e,n,aW (aI e),λB=>?_,d⟩
  rcases aH.mp (a.stkSub _ B) with z|z
  .exact M z
  .exact L z
 hok:=a.hok.kept up
 len:=Q
theorem Zap(r:L2.Inv X pQ O H3 s3){d:Li (Ad×Obj)}{H':Hp}{s':sH7}(p:env.locals=s3.heap.objs.size)(g:L2.Inv (cxC X N env s3 H3 fp pQ) d O' H' s')(h:Heap.SameBut s3.heap.objs.size s'.heap h')(i:∀ b∈fp,FpOk X pQ H3 b):L2.Inv X pQ O H' { s' with heap:=h' }:=by
 have u:Un (frs X.stack) fp H3 H' s3.heap s'.heap:=g.base;have j:∀ b o,s3.heap.get? b=some o->b≠s3.heap.objs.size:=λb o e=>aW (aI e)
 have l:H' s3.heap.objs.size=none:=by have:=g.free;rw[show(cxC X N env s3 H3 fp pQ).env.locals=s3.heap.objs.size from p]at this;exact this
 refine r.call' (s':={ s' with heap:=h' }) (ch:=fp) g.os ⟨λb o e n a f=>?_,λb o e n a f=>?_,u.free,λb o e f=>?_,u.tups,u.frzs,u.tbls⟩ (λb m e=>?_) g.bare (λb a=>?_)
 .exact(h.2 b (j b o e)).trans (u.keep b o e n a f)
 .obtain⟨sl,k⟩:=u.slot b o e n a f
  exact⟨sl,(h.2 b (j b o e)).trans k⟩
 .obtain⟨o',k⟩:=u.there b o e f
  exact⟨o',(h.2 b (j b o e)).trans k⟩
 .refine(g.hok b m e).stay (λc s hc q=>(h.2 c ?_).trans q) (λ_ q=>q) λ_ _ q=>q
  rintro rfl
  rcases hc with rfl|hc
  .rw[l]at e;cases e
  .rw[l]at hc;cases hc
 .exact⟨(i b a).2.2.2.1,(i b a).2.1,(i b a).2.2.2.2.1,(i b a).2.2.2.2.2⟩
end
variable [ClsTab]
theorem WD{N:Li Str}:∀ {l:Li Str}{b:Li Nat},Y2 N l=some b->b.length=l.length/\∀ (i:Nat) (k:Nat),b[i]?=some k->∃ y,l[i]?=some y/\N[k]?=some y
 |[],b,h=>by cases h;exact⟨rfl,λi k e=>by simp at e⟩
 |x :: r,b,h=>by
  unfold Y2 at h;split at h
  .rename_i a as g f
   cases h;obtain⟨d,c⟩:=WD f;refine⟨by simp[d],λi k e=>?_⟩
   cases i with
   |zero=>simp at e;subst e;exact⟨x,rfl,Xh g⟩
   |succ i=>exact c i k (by simpa using e)
  .exact Zb h
theorem StOk.lt{s:sH7}{a:Ad}(I:L2.Inv X pQ O H s)(S:StOk X.K ad H st)(h:a∈ad):a < s.heap.objs.size:=by
 obtain⟨i,hi,e⟩:=List.getElem_of_mem h;rcases S.has (show ad[i]?=some a by rw[lG7 hi,e]) with⟨o,q⟩|⟨o,q⟩
 .exact I.hok.lt q
 .exact aI (I.kIn a o q)
variable{fr:Li Nat}
theorem JP{K:fG7}{bs:L2.St}{b:D->Li (Ot D)}(E:EnvOk K ad H O U)(hd:EnvOk K ad H bs (b d)):EnvOk K ad H (bs++fr.map λi=>(O[i]?).join) (ZQ b U fr d):=by
 refine⟨by simp[ZQ,hd.len],λi e h=>?_⟩
 unfold ZQ at h;by_cases hi:i < (b d).length
 .rw[bU hi]at h
  rw[bU (by rw[hd.len];exact hi)]
  exact hd.at_ i e h
 .have hi:(b d).length<=i:=dZ hi
  rw[bX hi,aT]at h;rw[bX (by rw[hd.len];exact hi),aT,hd.len]
  cases q:fr[i - (b d).length]? with
  |none=>rw[q]at h;cases h
  |some k=>
   rw[q]at h;have h:(U[k]?).join=some e:=by simpa using h
   have a:U[k]?=some (some e):=by
    cases z:U[k]? with
    |none=>rw[z]at h;cases h
    |some o=>rw[z]at h;rw[show o=some e from h]
   obtain⟨w,f,c⟩:=E.at_ k e a;exact⟨w,by simp[f],c⟩
def XH(K:fG7)(tg:Expr)(xs:Li Str)(b:D->Li (Ot D))(ds:Li D):Prop:=
 ∀ X:Cx,X.K=K->X.calm=true->X.N.Nodup->(∀ (i:Nat) x,xs[i]?=some x->X.N[i]?=some x)->(∀ y∈xs,X.env.scope.names.lookup y=some .local)->∀ (pQ:Li (Ad×Obj)) (s:sH7) (os fv:L2.St) (H:Hp) (ad:Li Ad) (v:V) (u:vL) (d:D),os.length=xs.length->L2.Inv X pQ (os++fv) H s->RelV v u->Den K ad H v d->d∈ds->
  wpAny (model X.prog X.w) X.A (assign tg X.env u) (λ_ a=>∃ bs,bs.length=xs.length/\EnvOk K ad H bs (b d)/\L2.Inv X pQ (bs++fv) H a) X.xe s
variable{px:Pos}
theorem VD{K:fG7}{x:Str}:XH K (.Name x px) [x] one ds:=by
 intro X w t k f j pQ s a l H ad v u d g I r n _;obtain⟨o,rfl⟩:∃ o,a=[o]:=by match a,g with|[o],_=>exact⟨o,rfl⟩
 have b:=j x lQ7;have c:PG X (.Name x px) (gName 0):=pg_name k (f 0 x rfl) (.inl b) (.inr b);refine thn (c pQ s _ H v u (λO' H'=>O'=[some v]++l/\H'=H) I r ⟨rfl,rfl⟩) λ_ q ⟨O',H',p,e,m⟩=>?_
 subst e;subst m
 exact⟨[some v],rfl,⟨rfl,λi e h=>by
  cases i with
  |zero=>cases h;exact⟨v,rfl,n⟩
  |succ i=>exact nomatch (show(none:Ot (Ot D))=some (some e) from h)⟩,p⟩
theorem UE{K:fG7}{x y:Str}{n m:Pos}{k:Nat}{ds:Li D}(w:∀ d∈ds,∃ a b c,d=.tup [a,b,c]):XH K (.Tuple [.Name x px,.Name y n,.Name z m] k tp) [x,y,z] QE ds:=by
 intro X O M A q t pQ s B Q H ad v u d J I r S L;obtain⟨o,o',o2,rfl⟩:∃ o o' o2,B=[o,o',o2]:=by match B,J with|[o,o',o2],_=>exact⟨o,o',o2,rfl⟩
 obtain⟨a,b,c,rfl⟩:=w d L;have F:=t x lQ7;have E:=t y (lM7 _ lQ7);have C:=t z (lM7 _ (lM7 _ lQ7));have g1:PG X (.Name x px) (gName 0):=pg_name A (q 0 x rfl) (.inl F) (.inr F);have g2:PG X (.Name y n) (gName 1):=pg_name A (q 1 y rfl) (.inl E) (.inr E);have P:PG X (.Name z m) (gName 2):=pg_name A (q 2 z rfl) (.inl C) (.inr C)
 have G:PG X (.Tuple [.Name x px,.Name y n,.Name z m] k tp) _:=pg_tup M (pgs_cons g1 (pgs_cons g2 (pgs_cons P pgs_nil)));obtain⟨p,vs,rfl,N,g⟩:=S.ofTup;cases g with
 |cons V g=>cases g with
  |cons U g=>cases g with
   |cons T g=>
    cases g;rename_i l j f;refine thn (G pQ s _ H _ u (λO' H'=>O'=[some l,some j,some f]++Q/\H'=H) I r ⟨p,[l,j,f],rfl,by rw[O];exact N.sq,rfl,l,[j,f],rfl,j,[f],rfl,f,[],rfl,rfl,rfl,rfl⟩) λ_ Y ⟨O',H',W,e,R⟩=>?_
    subst e;subst R
    exact⟨[some l,some j,some f],rfl,⟨rfl,λi e h=>by
     cases i with
     |zero=>cases h;exact⟨l,rfl,V⟩
     |succ i=>cases i with
      |zero=>cases h;exact⟨j,rfl,U⟩
      |succ i=>cases i with
       |zero=>cases h;exact⟨f,rfl,T⟩
       |succ i=>exact nomatch (show(none:Ot (Ot D))=some (some e) from h)⟩,W⟩
variable{cl:Li (Str×Ad)}{s3 s2:sH7}{ce cc:CE}{bd:D->Li (Ot D)}{J:It}{tn:Nat->Heap->Prop}{Good:Li Ad->Hp->Prop}{ad2:Li Ad}{H2:Hp}{use:Ot (vL->Sem Unit)}{R0:vL->sH7->Prop}{st1:Za}
variable{sc:Scope}
section
variable{xs:Li Str}
theorem Yf(h:YV sc sc2 xs=true):sc2.kind=.function/\(∀ p∈sc2.names,p.2≠.cell)/\(∀ x∈xs,sc2.names.lookup x=some .local)/\(∀ p∈sc2.names,p.2=.local->sc2.names.lookup p.1=some .local)/\(xs++ZG sc2).Nodup/\∀ y∈ZG sc2,Wv sc y=true/\sc2.names.lookup y=some .free:=by
 unfold YV at h;simp only[bA7,decide_eq_true_eq,cQ,cC,dO,decide_eq_false_iff_not]at h;obtain⟨⟨⟨⟨⟨i,g⟩,f⟩,d⟩,c⟩,b⟩:=h;exact⟨i,g,f,λp a e=>(d p a).elim (λz=>absurd e z) id,c,b⟩
theorem mem_frees{y:Str}:y∈ZG sc2↔(y,NameKind.free)∈sc2.names:=by
 unfold ZG;rw[aR];constructor
 .rintro⟨⟨n,k⟩,h,rfl⟩
  rw[dU]at h;have:k=.free:=of_decide_eq_true h.2;rw[<-this];exact h.1
 .intro h
  exact⟨(y,.free),dU.mpr ⟨h,by simp⟩,rfl⟩
theorem mem_of_lookup{y:Str}{k:NameKind}:∀ {l:Li (Str×NameKind)},l.lookup y=some k->(y,k)∈l
 |[],h=>by cases h
 | (n,q) :: l,h=>by
  rw[bJ]at h;split at h
  .rename_i e
   cases h;rw[beq_iff_eq.mp e];exact lQ7
  .exact lM7 _ (mem_of_lookup h)
theorem JK(Kx:Cxt X G F sc N)(b:YV sc sc2 xs=true){C:Ad}{H3:Hp}{fp:Li Ad}:Cxt (cxC X (xs++ZG sc2) (compEnvC sc2 cl C X.env) s3 H3 fp pQ) G F sc2 (xs++ZG sc2):=by
 obtain⟨h,c,g,f,e,d⟩:=Yf b;exact {
  hN:=rfl
  vis:=λy a=>by
   rcases WH a with z|z|z
   .exact .inl (YC z (by intro q;cases q))
   .exact absurd rfl (c _ (mem_of_lookup z))
   .rcases YN (env:=X.env) z with w|w
    .exact .inr (.inl w)
    .exact .inr (.inr w)
  glb:=λy a=>YC (XB a) (by intro q;cases q)
  calm:=Kx.calm
  hu:=Kx.hu
  gl:=Kx.gl
  cel:=λy a=>by
   rcases Xu a with z|z
   .exact absurd rfl (c _ (mem_of_lookup z))
   .exact YN z
  nx:=rfl }
theorem JH{ok:Za->Prop}{f c:D->Za->Res}{xs:Li D}{r:Li D×Za}(h:ZI ok f c xs st=some r):ok st:=by
 unfold ZI at h;split at h
 .split at h
  .assumption
  .exact Zb h
 .split at h
  .assumption
  .exact Zb h
noncomputable def evB(F:Nat->Fn)(c:CE)(b:D->Li (Ot D))(U:Env)(fr:Li Nat):D->Za->Res:=λd s=>ev F c (ZQ b U fr d) s
inductive CI(X:Cx)(tn:Nat->Heap->Prop)(fp:List Addr)(fv O:L2.St)(U:Env)(w:Nat)(ds:List D)(go:List D->Za->Option (List D×Za))(Good:List Addr->Hp->Prop)(dd:Addr)(ad2:List Addr)(H2:Hp)(st':Za)(ys:List D)(m:Nat)(s:Shared):Prop
 |mk (i:Nat) (o0:L2.St) (H:Hp) (ad:List Addr) (st:Za) (vs:List V) (es zs:List D) (him:i+m=ds.length) (hol:o0.length=w) (I:L2.Inv X [] (o0++fv) H s) (ti:tn i s.heap) (fi:∀ b∈fp,H b=none) (En:EnvOk X.K ad H O U) (S:StOk X.K ad H st) (Gd:Good ad H) (nd:dd∉ad) (hv:H dd=some (.lst vs)) (rv:Dens X.K ad H vs es) (hel:es.length<=i)
  (hcp:go (ds.drop i) st=some (zs,st')) (hys:es++zs=ys) (ex:Ext ad2 H2 ad H):CI X tn fp fv O U w ds go Good dd ad2 H2 st' ys m s
theorem QV(Kx:Cxt X G F sc2 N)(ihE:Zo G F n)(hce:cE G n sc2 N elt=some ce)(hcc:(ifs=[]/\cc=.c (.bl true))\/∃ e,ifs=[e]/\cE G n sc2 N e=some cc){fp:Li Ad}{it:Ad}{ok:Za->Prop}(gm:∀ ad H ad' H',Ext ad H ad' H'->Good ad H->Good ad' H')(gw:∀ ad H p xs ys,H p=some (.lst xs)->Good ad H->Good ad (upd H p (.lst ys)))(go:∀ i ad H st,Good ad H->StOk X.K ad H st->ok st->i < ds.length->J.go i H)(stop:∀ i ad H st,Good ad H->StOk X.K ad H st->ok st->ds.length=i->J.stop i H)(yl:∀ i ad H st v H',Good ad H->StOk X.K ad H st->ok st->J.yld i H v H'->i < ds.length->Ext ad H ad H'/\StOk X.K ad H' st/\∃ d,ds[i]?=some d/\Den X.K ad H' v d)(T:Turn X.prog X.w X.K tg J fp it tn)(B:XH X.K tg xs bd ds)(hN:X.N.Nodup)(hx:∀ (i:Nat) x,xs[i]?=some x->X.N[i]?=some x)(hl:∀ y∈xs,X.env.scope.names.lookup y=some .local)(exx:X.xe=λ_ _=>False)(fpk:∀ {H:Hp},(∀ b∈fp,H b=none)->∀ b∈fp,FpOk X [] H b){fv:L2.St}(ec:∀ {ad H bs d},EnvOk X.K ad H O U->EnvOk X.K ad H bs (bd d)->EnvOk X.K ad H (bs++fv) (ZQ bd U fr d)){dd:Ad}{ys:Li D}(D0:H2 dd=none)(hz:ds.length<=1000){R:Result->sH7->Prop}(done:∀ s5 σ5 H ad vs,L2.Inv X [] σ5 H s5->StOk X.K ad H st'->dd∉ad->H dd=some (.lst vs)->Dens X.K ad H vs ys->Ext ad2 H2 ad H->R (.ok .next) s5){s:sH7}{m:Nat}(h0:CI X tn fp fv O U xs.length ds (ZI ok (evB F ce bd U fr) (evB F cc bd U fr)) Good dd ad2 H2 st' ys m s) :
  codeAny (model X.prog X.w) X.A (.compLoop (.ListComp elt [⟨tg,iter,ifs,0⟩] sc2 pos) 0 (.ref it) (.ref dd) X.env) R s:=by
 refine VL _ (λm s h=>?_) m h0
 cases h with
 |mk i o0 H ad st vs es zs him hol I ti fi En S Gd nd hv rv hel a Z ex=>
 have W:=JH a;have none_of:∀ {E:vL->sH7->Prop}{α:Type}{t:Sem α}{R:α->sH7->Prop}{s0:sH7},wpAny (model X.prog X.w) X.A t R X.xe s0->wpAny (model X.prog X.w) X.A t R E s0:=λh=>by
  rw[exx]at h;exact aX h (λ_ _ q=>q) λ_ _ q=>q.elim
 by_cases hi:i < ds.length
 .refine thn (T.item X rfl rfl rfl Kx.calm i [] s _ H _ I (fpk fi) ti (go i ad H st Gd S W hi)) λr s5 ⟨u,hr,h5'⟩=>?_
  subst hr;refine thn h5' λ_ s6 ⟨v,H',I6,r6,y6,t6,f6⟩=>?_
  obtain⟨x6,S6,d,ed,dv⟩:=yl i ad H st v H' Gd S W y6 hi;have hd:ds.drop i=d :: ds.drop (i+1):=by
   rw[bZ hi];rw[lG7 hi]at ed;cases ed;rfl
  refine thn (none_of (B X rfl Kx.calm hN hx hl _ s6 o0 _ H' ad v u _ hol (I6.pinned (fpk f6) (T.obj _ _ t6)) r6 dv (aZ ed))) λ_ s7 ⟨bs,lb,Eb,I7⟩=>?_
  have En6:=En.mono x6;have En7:=ec En6 Eb
  -- behind the item's turn
  have Y:∀ {M:Hp}{s9:sH7}{g:Li Ad}{st9:Za}{vs9:Li V}{es9 zs9:Li D},L2.Inv X ([]++pinsAt fp s6.heap) (bs++fv) M s9->StOk X.K g M st9->Good g M->dd∉g->M dd=some (.lst vs9)->Dens X.K g M vs9 es9->es9.length<=i+1->
    ZI ok (evB F ce bd U fr) (evB F cc bd U fr) (ds.drop (i+1)) st9=some (zs9,st')->es9++zs9=ys->Ext ad2 H2 g M->EnvOk X.K g M O U->
    ∃ m',m' < m/\CI X tn fp fv O U xs.length ds (ZI ok (evB F ce bd U fr) (evB F cc bd U fr)) Good dd ad2 H2 st' ys m' s9:=
   λI9 S9 G9 n9 v9 r9 l9 c9 y9 x9 e9=>
    have pk:=λb hb o e=>I9.pin (b,o) (cH _ (cH _ (mem_pinsAt hb e)))
    ⟨m - 1,by omega,.mk (i+1) bs _ _ _ _ _ _ (by omega) lb I9.unpinned (T.keep _ _ _ t6 λb hb o e=>(pk b hb o e).1) (λb hb=>let ⟨o,e,_⟩:=T.obj _ _ t6 b hb;(pk b hb o e).2.1) e9 S9 G9 n9 v9 r9 l9 c9 y9 x9⟩
  -- the L
  have L:∀ {k:Bool}{j:Za},evB F cc bd U fr d st=some (.bl k,j)->∀ {R:Bool->sH7->Prop}{E:vL->sH7->Prop},(∀ s8 l f,L2.Inv X ([]++pinsAt fp s6.heap) (bs++fv) l s8->Ext ad H' f l->StOk X.K f l j->R k s8)->
    wpAny (model X.prog X.w) X.A (forIn ifs true λc r=>if r=true then do let ok <-isTrue c X.env (eval c X.env);pure (ForInStep.yield ok) else pure (ForInStep.yield r)) R E s7:=λ{k j} q {R E} hR=>by
   rcases hcc with⟨rfl,rfl⟩|⟨e,rfl,he⟩
   .cases q
    exact wpAny_tests_nil (hR s7 H' ad I7 (Ext.refl _ _) S6)
   .refine wpAny_tests_one (thn (none_of ((ihE X sc2 _ Kx e cc he).pt _ s7 _ H' (λk' l=>k'=k/\∃ f,Ext ad H' f l/\StOk X.K f l j) I7 ⟨ad,ZQ bd U fr d,st,k,j,En7,S6,q,λad' H' x S'=>⟨rfl,ad',x,S'⟩⟩)) λk' s8 ⟨l,I8,e8,f,C,S8⟩=>?_)
    subst e8;exact hR s8 l f I8 C S8
  have n8:∀ {f l},Ext ad H' f l->dd∉f:=λC z=>((x6.trans C).new dd z).elim nd λw=>by rw[hv]at w;cases w
  have v8:∀ {f l},Ext ad H' f l->l dd=some (.lst vs):=λC=>(x6.trans C).keep dd _ hv nd
  have rv6:=rv.mono x6;have ex6:=ex.trans x6;have G6:=gm _ _ _ _ x6 Gd;clear x6 En Eb ex Gd S I hv rv;rw[hd]at a;unfold ZI at a;rw[if_pos W]at a;split at a
  .rename_i j q1
   split at a
   .rename_i y st3 q2
    split at a
    .rename_i zs' st4 q3
     cases a;refine L q1 λs8 l f I8 C S8=>?_
     rw[if_pos rfl];refine thn (none_of ((ihE X sc2 _ Kx elt ce hce).pe _ s8 _ l (λv8 M=>∃ g,Ext f l g M/\StOk X.K g M st3/\Den X.K g M v8 y) I8 ⟨f,ZQ bd U fr d,j,y,st3,En7.mono C,S8,q2,λv8 ad' H' x S' dn=>⟨ad',x,S',dn⟩⟩)) λu9 s9 ⟨v9,M,I9,r9,g,x9,S9,d9⟩=>?_
     have P:=C.trans x9;have Q:=v8 P;have hlen:vs.length=es.length:=rv6.length;refine thn (none_of (mt_append (X:=X) _ s9 _ M (.ref dd) [v9] (.ref dd) [u9] (λ_ H10=>H10=upd M dd (.lst (vs++[v9]))) I9 rfl (.cons r9 .nil) ⟨dd,vs,v9,rfl,rfl,Q,Nat.lt_of_le_of_lt (show vs.length<=1000 by omega) (by decide),rfl⟩)) λu10 s10 ⟨v10,H10,I10,r10,e10⟩=>?_
     subst e10;have nd9:=n8 P;exact Y (vs9:=vs++[v9]) (es9:=es++[y]) (zs9:=zs') I10 (S9.wr Q nd9) (gw _ _ _ _ _ Q (gm _ _ _ _ P G6)) nd9 upd_same (((rv6.mono P).append (.cons d9 .nil)).wr Q) (by rw[aK,eL];omega) q3 (by rw[<-Z,bP];rfl) ((ex6.trans P).wr Q D0) ((En6.mono P).wr Q)
    .exact Zb a
   .exact Zb a
  .rename_i j q1
   refine L q1 λs8 l f I8 C S8=>?_
   rw[if_neg bF7];exact Y I8 S8 (gm _ _ _ _ C G6) (n8 C) (v8 C) (rv6.mono C) (by omega) a Z (ex6.trans C) (En6.mono C)
  .exact Zb a
 .refine thn (T.done X rfl rfl rfl Kx.calm i [] s _ H _ I (fpk fi) ti (stop i ad H st Gd S W (by omega))) λr s5 ⟨hr,I5⟩=>?_
  subst hr;rw[eN (dZ hi)]at a;unfold ZI at a;rw[if_pos W]at a;cases a;rw[bC]at Z;subst Z;exact done s5 _ H ad vs I5 S nd hv rv ex
theorem UI(Kx:Cxt X G F sc N)(Z:Zo G F n)(M:YV sc sc2 xs=true)(hfr:Y2 N (ZG sc2)=some fr)(hce:cE G n sc2 (xs++ZG sc2) elt=some ce)(hcc:(ifs=[]/\cc=.c (.bl true))\/∃ e,ifs=[e]/\cE G n sc2 (xs++ZG sc2) e=some cc)(c1:∀ y c,cl.lookup y=some c->X.env.cells.lookup y=some c)(c2:∀ y,(y,NameKind.free)∈sc2.names->(cl.lookup y).isSome){fp:Li Ad}{it:Ad}{ok:Za->Prop}(gm:∀ ad H ad' H',Ext ad H ad' H'->Good ad H->Good ad' H')(gw:∀ ad H p xs ys,H p=some (.lst xs)->Good ad H->Good ad (upd H p (.lst ys)))(go:∀ i ad H st,Good ad H->StOk X.K ad H st->ok st->i < ds.length->J.go i H)(stop:∀ i ad H st,Good ad H->StOk X.K ad H st->ok st->ds.length=i->J.stop i H)(yl:∀ i ad H st v H',Good ad H->StOk X.K ad H st->ok st->J.yld i H v H'->i < ds.length->Ext ad H ad H'/\StOk X.K ad H' st/\∃ d,ds[i]?=some d/\Den X.K ad H' v d){dd:Ad}{h:Heap}{ys:Li D}(B:XH X.K tg xs bd ds)(T:Turn X.prog X.w X.K tg J fp it tn)(t2:tn 0 s2.heap)(E:∀ b∈fp,FpOk X pQ H2 b)(fb:∀ b∈fp,b < dd)(E2:EnvOk X.K ad2 H2 O U)(S2:StOk X.K ad2 H2 st1)(g2:Good ad2 H2)(r:ZI ok (λd s=>ev F ce (ZQ bd U fr d) s) (λd s=>ev F cc (ZQ bd U fr d) s) ds st1=some (ys,st'))(hz:ds.length<=1000)(hp:Post X.K ad2 H2 (.lst st'.length) (st'++[(true,ys)]) Q)(P:∀ C dd t H5 Y,t.heap.Ns C Y->(∀ h',Heap.SameBut C t.heap h'->L2.Inv X pQ O H5 { t with heap:=h' })->FpOk X pQ H5 C->Q (.ref dd) H5->compPost (model X.prog X.w) X.A X.xe use R0 (.ref dd) C (.ok .next) t)  (I:H2 dd=none) (V:L2.Inv X pQ O (upd H2 dd (.lst [])) s3) (z3:s3.heap.objs.size=dd+1) (W:dd∉ad2) (l:h.Ns s3.heap.objs.size m0) (up:∀ b u,s3.heap.get? b=some u->h.get? b=some u) (L:∀ b u,s2.heap.get? b=some u->s3.heap.get? b=some u) :
  codeAny (model X.prog X.w) X.A (.compStart (.ListComp elt [⟨tg,iter,ifs,0⟩] sc2 pos) 0 (.ref it) (.ref dd) (compEnvC sc2 cl s3.heap.objs.size X.env)) (compPost (model X.prog X.w) X.A X.xe use R0 (.ref dd) s3.heap.objs.size) { s3 with heap:=h,toks:=tk }:=by
 obtain⟨h1,h2,h3,h4,h5,h6⟩:=Yf M;have f3:∀ b∈fp,FpOk X pQ (upd H2 dd (.lst [])) b:=λb f=>⟨by rw[upd_ne (aW (fb b f))];exact(E b f).1,(E b f).2⟩
 obtain⟨fl,fg⟩:=WD hfr;have I4:=Zaq (N:=xs++ZG sc2) (cl:=cl) (fp:=fp) (tk:=tk) (O':=List.replicate xs.length none++fr.map λi=>(O[i]?).join) V h1 h2 l up c1 (λy e=>c2 y (mem_of_lookup e)) f3 (λb f=>by rw[z3];exact Nat.lt_succ_of_lt (fb b f)) (λi y v e1 g=>by
  by_cases hi:i < xs.length
  .rw[bU (by simpa using hi),dX,if_pos hi]at g;cases g
  .have hi:xs.length<=i:=dZ hi
   rw[bX (by simpa using hi),aT,cJ]at g
   rw[bX hi]at e1;cases q:fr[i - xs.length]? with
   |none=>rw[q]at g;cases g
   |some k=>
    rw[q]at g;have g:(O[k]?).join=some v:=by simpa using g
    have e3:O[k]?=some (some v):=by
     cases w:O[k]? with
     |none=>rw[w]at g;cases g
     |some o=>rw[w]at g;rw[show o=some v from g]
    obtain⟨y',g1,g2⟩:=fg _ k q;rw[e1]at g1;cases g1
    obtain⟨k1,k2⟩:=h6 y (aZ e1);exact⟨k,by rw[Kx.hN];exact g2,e3,k2,Kx.cel y k1⟩) (by simp[fl])
 have K':=JK (cl:=cl) (C:=s3.heap.objs.size) (s3:=s3) (H3:=upd H2 dd (.lst [])) (fp:=fp) (pQ:=pQ) Kx M;have m:=QV (R:=compPost (model X.prog X.w) X.A X.xe use R0 (.ref dd) s3.heap.objs.size) (pos:=pos) (iter:=iter) K' Z hce hcc gm gw go stop yl T B h5 (λi x e=>by show(xs++ZG sc2)[i]?=some x;rw[bU (bB.mp e).1];exact e) (λy hy=>YC (h3 y hy) (by intro q;cases q)) rfl (λ{H} hn b f=>⟨hn b f,by
  show b≠s3.heap.objs.size;rw[z3];exact aW (Nat.lt_succ_of_lt (fb b f)),λhs=>(aH.mp (V.stkSub b hs)).elim (E b f).2.1 (E b f).2.2.1,.inl f,λy c e=>(E b f).2.2.2.2.1 y c (c1 _ _ e),λp hp=>(E b f).2.2.2.2.2 p (by simpa[cxC] using hp)⟩) (O:=O) (U:=U) (fr:=fr) (λa b=>JP a b) (dd:=dd) (ad2:=ad2) (H2:=H2) (st':=st') (ys:=ys) I hz (λt σ5 H ad vs I5 S nd hv rv ex=>by
   obtain⟨Y,hn,_⟩:=I5.loc;refine P s3.heap.objs.size dd t H Y hn (λh' sb=>Zap V rfl I5 sb f3) (V.fpOk (aD _) I5.free) (hp (.ref dd) (ad++[dd]) H ⟨λj a e=>Y3 (ex.pre j a e),ex.tup,ex.keep,λb f=>?_,ex.kd⟩ (S.adopt hv nd rv) (.lst ⟨by rw[<-S.len];exact ZB,Vp hv rfl⟩))
   rcases aU.mp f with z|z
   .exact ex.new b z
   .rw[aJ.mp z];exact .inr I)
  (.mk 0 (List.replicate xs.length none) (upd H2 dd (.lst [])) ad2 st1 [] [] ys (bG _) (cJ ..) I4 (T.keep _ _ _ t2 λb _ o e=>up b o (L b o e)) (λb f=>(f3 b f).1) (E2.mono (Ext.laid I)) (S2.laid I) (gm _ _ _ _ (Ext.laid I) g2) W upd_same .nil (aD _) r rfl (Ext.laid I))
 exact codeAny_compStart_list m (T.self X.A 0 _ _ _ (T.keep _ _ _ t2 λb _ o e=>up b o (L b o e)) m)
theorem QU(Kx:Cxt X G F sc N)(t:Zo G F n)(l:YV sc sc2 xs=true)(x:Y2 N (ZG sc2)=some fr)(E:cE G n sc2 (xs++ZG sc2) elt=some ce)(I:(ifs=[]/\cc=.c (.bl true))\/∃ e,ifs=[e]/\cE G n sc2 (xs++ZG sc2) e=some cc)(c1:∀ y c,cl.lookup y=some c->X.env.cells.lookup y=some c)(c2:∀ y,(y,NameKind.free)∈sc2.names->(cl.lookup y).isSome){L:Li Ad}{it:Ad}{ok:Za->Prop}(Good:Li Ad->Hp->Prop)(gm:∀ ad H ad' H',Ext ad H ad' H'->Good ad H->Good ad' H')(gw:∀ ad H p xs ys,H p=some (.lst xs)->Good ad H->Good ad (upd H p (.lst ys)))(go:∀ i ad H st,Good ad H->StOk X.K ad H st->ok st->i < ds.length->J.go i H)(stop:∀ i ad H st,Good ad H->StOk X.K ad H st->ok st->ds.length=i->J.stop i H)(Y:∀ i ad H st v H',Good ad H->StOk X.K ad H st->ok st->J.yld i H v H'->i < ds.length->Ext ad H ad H'/\StOk X.K ad H' st/\∃ d,ds[i]?=some d/\Den X.K ad H' v d){ys:Li D}(M:L2.Inv X pQ O H2 s2)(B:XH X.K tg xs bd ds)(T:Turn X.prog X.w X.K tg J L it tn)(R:tn 0 s2.heap)(f2:∀ b∈L,FpOk X pQ H2 b)(E2:EnvOk X.K ad2 H2 O U)(W:StOk X.K ad2 H2 st1)(g2:Good ad2 H2)(h:ZI ok (λd s=>ev F ce (ZQ bd U fr d) s) (λd s=>ev F cc (ZQ bd U fr d) s) ds st1=some (ys,st'))(hz:ds.length<=1000)(hp:Post X.K ad2 H2 (.lst st'.length) (st'++[(true,ys)]) Q)(m:∀ C V r P Z,r.heap.Ns C Z->(∀ h',Heap.SameBut C r.heap h'->L2.Inv X pQ O P { r with heap:=h' })->FpOk X pQ P C->Q (.ref V) P->compPost (model X.prog X.w) X.A X.xe use R0 (.ref V) C (.ok .next) r) :
  wpAny (model X.prog X.w) X.A (newList []) (λq k=>wpAny (model X.prog X.w) X.A (newFunctionEnv sc2 X.env.globals cl [] X.env.qual none .none (some X.env)) (λg j=>
   codeAny (model X.prog X.w) X.A (.compStart (.ListComp elt [⟨tg,iter,ifs,0⟩] sc2 pos) 0 (.ref it) q { g with scope:=relabel sc2 X.env }) (compPost (model X.prog X.w) X.A X.xe use R0 q g.locals) j) X.xe k) X.xe s2:=by
 obtain⟨h1,h2,h3,h4,h5,h6⟩:=Yf l;have fb:∀ b∈L,b < s2.heap.objs.size:=λb hb=>let ⟨o,e,_⟩:=T.obj 0 _ R b hb;aI e
 refine wpAny_newObj_type (wpAny_newFunctionEnv h2 (by intro y hy;simp at hy) (λS f a=>?_) h1)
 dsimp only at f a ⊢;have I3:L2.Inv X pQ O (upd H2 s2.heap.objs.size (.lst [])) { s2 with heap:=s2.heap.push { cls:=.type "list",dict:=none,data:=.seq ([]:Li vL).toArray } }:=M.lnew (its:=[]) (t':=s2.toks) .nil (aV _)
 have e3:s2.heap.push { cls:=.type "list",dict:=none,data:=.seq ([]:Li vL).toArray }=({ s2 with heap:=s2.heap.push { cls:=.type "list",dict:=none,data:=.seq ([]:Li vL).toArray } }:sH7).heap:=rfl
 exact UI Kx t l x E I c1 c2 gm gw go stop Y B T R f2 fb E2 W g2 h hz hp m (M.hok.fresh (aD _)) I3 (Heap.size_push ..) (λz=>absurd (W.lt M z) (bL _)) f (λb u e=>a.extBut b u (aW (aI e)) (aO _ e)) (λb u e=>aO _ e)
end
variable [ClsTab]
def Zbs(X:Cx)(O:L2.St)(U:Env)(ds:Li D)(ok:Za->Prop)(st1 a:Za)(ys:Li D)(Q:VK)(J:It)(b:Hp):Prop:=
 ∃ (ad1:Li Ad) (Good:Li Ad->Hp->Prop),(∀ ad H ad' H',Ext ad H ad' H'->Good ad H->Good ad' H')/\(∀ ad H p xs ys,H p=some (.lst xs)->Good ad H->Good ad (upd H p (.lst ys))) /\
  (∀ i ad H st,Good ad H->StOk X.K ad H st->ok st->i < ds.length->J.go i H)/\(∀ i ad H st,Good ad H->StOk X.K ad H st->ok st->ds.length=i->J.stop i H)/\(∀ i ad H st v H',Good ad H->StOk X.K ad H st->ok st->J.yld i H v H'->i < ds.length->Ext ad H ad H'/\StOk X.K ad H' st/\∃ d,ds[i]?=some d/\Den X.K ad H' v d) /\
  EnvOk X.K ad1 b O U/\StOk X.K ad1 b st1/\Good ad1 b/\Post X.K ad1 b (.lst a.length) (a++[(true,ys)]) Q
variable{st2:Za}
theorem VH{ys:Li D}{f:Ev}(E:EnvOk X.K ad H O U)(S:StOk X.K ad H st)(q:f U st=some (.tup ds,st1))(p:Post X.K ad H (.lst st2.length) (st2++[(true,ys)]) Q) :
  iTup X.K (tE X.K f) O H (Zbs X O U ds (λ_=>True) st1 st2 ys Q):=by
 refine⟨ad,U,st,.tup ds,st1,E,S,q,λv b n c m l=>?_⟩
 obtain⟨a,vs,rfl,h,j⟩:=l.ofTup;refine⟨a,rfl,⟨vs,(h).sq⟩,b,λad H=>TupAt X.K H a vs/\Dens X.K ad H vs ds,λ_ _ _ _ x g=>⟨g.1.mono x,g.2.mono x⟩,λ_ H p xs ys d g=>⟨g.1.upd d (by intro xs z;cases z),g.2.wr d⟩,λi ad H st g _ _ hi=>?_,λi ad H st g _ _ hi=>⟨vs,(g.1).sq,by rw[g.2.length];exact cN hi⟩,
  λi ad H st v H' g S _ y hi=>?_,E.mono c,m,⟨h,j⟩,p.later c⟩
 .obtain⟨v,e,_⟩:=g.2.get (lG7 hi)
  exact⟨vs,v,(g.1).sq,e⟩
 .obtain⟨w,e,k⟩:=g.2.get (lG7 hi)
  have:=y.2 vs ((g.1).sq);rw[e]at this;cases this
  cases y.1;exact⟨Ext.refl _ _,S,_,lG7 hi,k⟩
theorem JE{n:Int}{ys:Li D}{f:Ev}(d:n < 2 ^ 62/\-(2 ^ 62)<=n)(E:EnvOk X.K ad H O U)(S:StOk X.K ad H st)(q:f U st=some (.int n,st1))(p:Post X.K ad H (.lst st2.length) (st2++[(true,ys)]) Q) :
  iRng1 (tCons (tE X.K f) tNil) O H (Zbs X O U ((List.range n.toNat).map λ(k:Nat)=>D.int (k:Int)) (λ_=>True) st1 st2 ys Q):=by
 refine⟨ad,U,st,.int n,st1,E,S,q,λv b h c g e=>?_⟩
 cases e.ofInt;refine⟨n,rfl,d.2,d.1,b,λ_ _=>True,λ_ _ _ _ _ _=>trivial,λ_ _ _ _ _ _ _=>trivial,λi ad H st _ _ _ hi=>(show i < n.toNat by simpa using hi),λi ad H st _ _ _ hi=>(show n.toNat<=i by simpa using cN hi),λi ad H st v H' _ S _ y hi=>?_,E.mono c,g,trivial,p.later c⟩
 cases y.1;have a:i < n.toNat:=by simpa using hi
 refine⟨Ext.refl _ _,S,.int (i:Int),?_,?_⟩
 .rw[aT,List.getElem?_range a];rfl
 .rw[y.2,Int.zero_add];exact .int _
theorem JD{c:Z8}{ys:Li D}{f:Ev}(E:EnvOk X.K ad H O U)(S:StOk X.K ad H st)(q:f U st=some (.lst l,st1))(m:st1[l]?=some c)(p:Post X.K ad H (.lst st2.length) (st2++[(true,ys)]) Q) :
  iList X.K (tE X.K f) O H (Zbs X O U c.2 (λs=>s[l]?=some c) st1 st2 ys Q):=by
 refine⟨ad,U,st,.lst l,st1,E,S,q,λv d r h k o=>?_⟩
 obtain⟨a,rfl,j⟩:=o.ofLst;obtain⟨vs,b,sq⟩:=k.list j (show st1[l]?=some (c.1,c.2) from m);refine⟨a,rfl,⟨vs,sq⟩,d,λad H=>LA ad H l a,λ_ _ _ _ x g=>g.mono x,λ_ _ _ _ _ e g=>⟨g.1,λz=>g.2 ((UU e).mpr z)⟩,λi ad H st g S e hi=>?_,λi ad H st g S e hi=>?_,λi ad H st v H' g S e y hi=>?_,E.mono h,k,j,p.later h⟩
 .obtain⟨vs,b,sq⟩:=S.list g (show st[l]?=some (c.1,c.2) from e)
  obtain⟨v,e,_⟩:=b.get (lG7 hi);exact⟨vs,v,sq,e⟩
 .obtain⟨vs,b,sq⟩:=S.list g (show st[l]?=some (c.1,c.2) from e)
  exact⟨vs,sq,by rw[b.length];exact cN hi⟩
 .obtain⟨vs,b,sq⟩:=S.list g (show st[l]?=some (c.1,c.2) from e)
  obtain⟨w,e,n⟩:=b.get (lG7 hi);have:=y.2 vs sq;rw[e]at this;cases this
  cases y.1;exact⟨Ext.refl _ _,S,_,lG7 hi,n⟩
theorem Jh{xs:Li Str}(h:tgN tg=some xs):(∃ x px,tg=.Name x px/\xs=[x])\/∃ x y z px f d k tp,tg=.Tuple [.Name x px,.Name y f,.Name z d] k tp/\xs=[x,y,z]:=by
 unfold tgN at h;split at h
 .cases h;exact .inl ⟨_,_,rfl,rfl⟩
 .rename_i es k tp
  have nm:∀ {e:Expr}{x:Str},nmE e=some x->∃ p,e=.Name x p:=λ{e x} h=>by
   unfold nmE at h;split at h
   .cases h;exact⟨_,rfl⟩
   .exact Zb h
  cases es with
  |nil=>exact Zb h
  |cons a es=>cases es with
   |nil=>exact Zb h
   |cons b es=>cases es with
    |cons c es=>cases es with
     |cons _ _=>exact Zb h
     |nil=>
      refine Xl (P:=λxs=>_\/∃ x y z px f d i g,Expr.Tuple [a,b,c] k tp=.Tuple [.Name x px,.Name y f,.Name z d] i g/\xs=[x,y,z]) h λx y z m l j=>?_
      obtain⟨px,rfl⟩:=nm m;obtain⟨f,rfl⟩:=nm l;obtain⟨d,rfl⟩:=nm j;exact .inr ⟨x,y,z,px,f,d,k,tp,rfl,rfl⟩
    |nil=>exact Zb h
 .exact Zb h
inductive CSh(G:Gs)(n:Nat)(sc:Scope)(N:List Str)(elt:Expr)(sc2:Scope):List Comprehension->CE->Prop
 |mk {tg it:Expr}{ifs:List Expr}{xs:List Str}{fr:List Nat}{r:Option (Option Bool)}{ci ce cc:CE} (htg:tgN tg=some xs) (hsc:YV sc sc2 xs=true) (hfr:Y2 N (ZG sc2)=some fr) (hi:itC G sc it (cE G n sc N) xs=some (r,ci)) (hce:cE G n sc2 (xs++ZG sc2) elt=some ce) (hcc:(ifs=[]/\cc=.c (.bl true))\/∃ e,ifs=[e]/\cE G n sc2 (xs++ZG sc2) e=some cc):CSh G n sc N elt sc2 [⟨tg,it,ifs,0⟩] (mkC xs.length r fr ci ce cc)
theorem ZbK{G:Gs}{c:CE}(h:cE G (n+1) sc N (.ListComp elt gens sc2 pos)=some c):CSh G n sc N elt sc2 gens c:=by
 replace h:Zdp G sc sc2 N (cE G n sc N) (cE G n sc2) elt gens=some c:=h;have no:∀ {P:Prop},(none:Ot CE)=some c->P:=λz=>nomatch z
 cases gens with
 |nil=>exact no h
 |cons g gs=>
  obtain⟨tg,it,ifs,k⟩:=g;cases k with
  |negSucc _=>cases gs<;>exact no h
  |ofNat m=>cases m with
   |succ _=>cases gs<;>exact no h
   |zero=>cases gs with
    |cons _ _=>exact no h
    |nil=>
     replace h:(match tgN tg with
      |none=>none
      |some xs=>og (YV sc sc2 xs=true) (o3 (λfr p (q:CE×CE)=>mkC xs.length p.1 fr p.2 q.1 q.2) (Y2 N (ZG sc2)) (itC G sc it (cE G n sc N) xs) (o2 Prod.mk (cE G n sc2 (xs++ZG sc2) elt) (ifC (cE G n sc2 (xs++ZG sc2)) ifs))))=some c:=h
     cases b:tgN tg with
     |none=>rw[b]at h;cases h
     |some xs=>
      rw[b]at h;refine Yq h λe h=>Xl (P:=CSh G n sc N elt sc2 _) h λfr p q f hi j=>ZS (P:=λq:CE×CE=>CSh G n sc N elt sc2 _ (mkC xs.length p.1 fr p.2 q.1 q.2)) j λce cc i d=>.mk b e f hi i ?_
      cases ifs with
      |nil=>cases d;exact .inl ⟨rfl,rfl⟩
      |cons a l=>cases l with
       |nil=>exact .inr ⟨a,rfl,d⟩
       |cons _ _=>exact Zb d
inductive CR(b:D->List (Option D))(w:D->Za->Option (List D×(Za->Prop)))(fr:List Nat)(fi fe fc:Ev)(U:Env)(st:Za):D->Za->Prop
 |mk {x:D}{st1 st2:Za}{ds ys:List D}{ok:Za->Prop} (q1:fi U st=some (x,st1)) (q2:w x st1=some (ds,ok)) (hz:ds.length<=1000) (q3:ZI ok (λd s=>fe (ZQ b U fr d) s) (λd s=>fc (ZQ b U fr d) s) ds st1=some (ys,st2)):CR b w fr fi fe fc U st (.lst st2.length) (st2++[(true,ys)])
theorem XN{b:D->Li (Ot D)}{w:D->Za->Ot (Li D×(Za->Prop))}{a c:Ev}(e:Ye b w fr fi a c U st=some (d,st')):CR b w fr fi a c U st d st':=by
 unfold Ye at e;split at e
 .split at e
  .split at e
   .split at e
    .cases e;exact .mk ‹_› ‹_› ‹_› ‹_›
    .exact Zb e
   .exact Zb e
  .exact Zb e
 .exact Zb e
inductive CIt(X:Cx)(pQ:List (Addr×Obj))(s:Shared)(O:L2.St)(U:Env)(tg it:Expr)(xs:List Str)(F:Nat->Fn)(fr:List Nat)(ce cc:CE)(Q:VK):Prop
 |mk {bd:D->List (Option D)}{ds:List D}{ok:Za->Prop}{st1 st2:Za}{ys:List D} (B:XH X.K tg xs bd ds) (hz:ds.length<=1000) (q3:ZI ok (λd s=>ev F ce (ZQ bd U fr d) s) (λd s=>ev F cc (ZQ bd U fr d) s) ds st1=some (ys,st2)) (hp:Zi it=true) (pi:wpAny (model X.prog X.w) X.A (eval it X.env) (λv s1=>wpAny (model X.prog X.w) X.A (pyIter v) (PIE X pQ O tg (Zbs X O U ds ok st1 st2 ys Q)) X.xe s1) X.xe s):CIt X pQ s O U tg it xs F fr ce cc Q
theorem Vm{f:α->β}{o:Ot α}{b:β}(h:o.map f=some b):∃ a,o=some a/\f a=b:=by
 cases o with
 |none=>exact Zb h
 |some a=>exact⟨a,rfl,by cases h;rfl⟩
variable{F:Nat->Fn}
theorem ZbI{G:Gs}(g:Zo G F n)(Kx:Cxt X G F sc N){xs:Li Str}{r:Ot (Ot Bool)}{t:CE}(B:tgN tg=some xs)(hi:itC G sc it (cE G n sc N) xs=some (r,t)){s:sH7}(I:L2.Inv X pQ O H s)(E:EnvOk X.K ad H O U)(S:StOk X.K ad H st)(e:ev F (mkC xs.length r fr t ce cc) U st=some (d,st'))(p:Post X.K ad H d st' Q):CIt X pQ s O U tg it xs F fr ce cc Q:=by
 rcases Jh B with⟨x,px,rfl,rfl⟩|⟨x,y,z,px,py,pz,k,tp,rfl,rfl⟩
 .replace hi:(match ZN G sc it with
   |some a=>(cE G n sc N a).map λc=>(some (some true),c)
   |none=>(cE G n sc N it).map λc=>(some (some false),c))=some (r,t):=hi
  split at hi
  .rename_i a Z
   obtain⟨L,q,hi⟩:=Vm hi;cases hi;obtain⟨T,P⟩:=X4 (tg:=.Name x px) Kx Z (Zf q) (g X sc N Kx a _ q).pe;cases XN e with
   |@mk j st1 st2 ds ys ok h f o m=>
    refine .mk VD o m T (P pQ s O H _ I ?_);cases j with
    |int k=>
     have f:(match (if k < 2 ^ 62/\-(2 ^ 62)<=k then some ((List.range k.toNat).map λ(k:Nat)=>D.int (k:Int)) else none) with
      |some xs=>some (xs,λ_=>True)
      |none=>none)=some (ds,ok):=f
     by_cases C:k < 2 ^ 62/\-(2 ^ 62)<=k
     .rw[if_pos C]at f
      cases f;exact JE C E S h p
     .rw[if_neg C]at f
      cases f
    |_=>exact Zb f
  .obtain⟨L,q,hi⟩:=Vm hi
   cases hi;cases XN e with
   |@mk j st1 st2 ds ys ok h f o m=>
    refine .mk VD o m (Zf q) ?_;cases j with
    |tup xs=>cases f;exact pi_tup (g X sc N Kx it _ q).pe pQ s O H _ I (VH E S h p)
    |lst l=>
     have f:(match st1[l]? with
      |some c=>some (c.2,λs=>s[l]?=some c)
      |none=>none)=some (ds,ok):=f
     cases A:st1[l]? with
     |none=>rw[A]at f;cases f
     |some c0=>
      rw[A]at f;cases f;exact pi_list (g X sc N Kx it _ q).pe pQ s O H _ I (JD E S h A p)
    |str z=>exact Zb f
    |dct ks vs=>
     have no:∀ {v:V}{i:Li Ad}{u:Hp},Den X.K i u v (.dct ks vs)->False:=λ{v i u} J=>by
      obtain⟨a,M,_,_,W,r⟩:=J.ofDct;cases ks with
      |cons _ _=>exact Zb f
      |nil=>
       cases M with
       |cons _ _=>cases W
       |nil=>cases r;cases f
     exact thn ((g X sc N Kx it _ q).pe pQ s O H (λ_ _=>False) I ⟨ad,U,st,_,st1,E,S,h,λv i u x1 S1 J=>no J⟩) λv s1 ⟨x,u,I1,r1,z⟩=>z.elim
    |_=>exact Zb f
 .replace hi:(match Xy G sc it with
   |some _=>none
   |none=>(cE G n sc N it).map λc=>(none,c))=some (r,t):=hi
  split at hi
  .exact Zb hi
  .obtain⟨L,q,hi⟩:=Vm hi
   cases hi;cases XN (b:=QE) (w:=Zbp) e with
   |@mk j st1 st2 ds ys ok h f o m=>
    cases j with
    |tup xs=>
     have f:(if xs.all Zcc=true then some (xs,λ(_:Za)=>True) else none)=some (ds,ok):=f
     split at f
     .rename_i R
      cases f;exact .mk (UE λd Y=>by
       have:=cQ.mp R d Y;unfold Zcc at this;split at this
       .exact⟨_,_,_,rfl⟩
       .cases this) o m (Zf q) (pi_tup (g X sc N Kx it _ q).pe pQ s O H _ I (VH E S h p))
     .exact Zb f
    |_=>exact Zb f
theorem Qh{G:Gs}(b:Zo G F n)(Kx:Cxt X G F sc N){c:CE}(h:cE G (n+1) sc N (.ListComp elt gens sc2 pos)=some c){s:sH7}(I:L2.Inv X pQ O H s)(Y:tE X.K (ev F c) O H Q)(g:∀ C u i t M,i.heap.Ns C M->(∀ h',Heap.SameBut C i.heap h'->L2.Inv X pQ O t { i with heap:=h' })->FpOk X pQ t C->Q (.ref u) t->compPost (model X.prog X.w) X.A X.xe use R0 (.ref u) C (.ok .next) i) :
  ∃ tg it ifs,gens=[⟨tg,it,ifs,0⟩]/\∀ a,wpAny (model X.prog X.w) X.A (comprehension (.ListComp elt [⟨tg,it,ifs,0⟩] sc2 pos) sc2 X.env a (newList []) false (eval it X.env) use) R0 X.xe s:=by
 cases ZbK h with
 |@mk tg it ifs xs fr r ci ce cc j f k hi l m=>
  obtain⟨h1,h2,h3,h4,h5,h6⟩:=Yf f;obtain⟨ad,U,st,d,st',E,S,e,p⟩:=Y;obtain⟨cl,ec,c1,c2⟩:=VI (env:=X.env) (sc:=sc2) (λy W hf=>by
   have hm:(y.1,NameKind.free)∈sc2.names:=by rw[<-hf];exact W
   exact I.ok.has y.1 (Kx.cel y.1 (h6 y.1 (mem_frees.mpr hm)).1))
  refine⟨tg,it,ifs,rfl,λa=>?_⟩
  cases ZbI b Kx j hi I E S e p with
  |mk B V D Z L=>
   refine wpAny_comprehension_free (use:=use) rfl (ZC Z) ec h1 h4 (thn L λv s1 q=>thn q λP s2 o=>?_)
   obtain⟨R,fp,tn,J,H2,rfl,I2,T,z,f2,ad1,Good,gm,gw,go,stop,x,E2,S2,g2,p2⟩:=o;exact QU Kx b f k l m c1 c2 Good gm gw go stop x I2 B T z f2 E2 S2 g2 D V p2 g
theorem ZbJ{G:Gs}:Yj G F:=by
 intro n f;refine⟨λX sc N Kx elt gens sc2 pos c h=>SE.of ?_,λX sc N K y i p elt gens sc2 j pos c hi h u=>?_⟩
 .intro pQ s O H Q I g
  obtain⟨tg,it,ifs,rfl,go⟩:=Qh f Kx h I g (use:=none) (R0:=EP X pQ O Q) λC k r E t x B _ q=>⟨t,x,λh' m=>⟨.ref k,E,B h' m,rfl,q⟩⟩
  rw[eval_ListComp];exact go _
 .intro pQ s O H D I g
  obtain⟨tg,it,ifs,rfl,go⟩:=Qh f K.toCxt h I g (use:=some (assign (.Name y p) X.env)) (R0:=λ_ J=>SP X pQ D .next J) λC k r E t x B d q=>by
   have T:=B r.heap (Heap.SameBut.refl _ _);show wpAny _ X.A (assign (.Name y p) X.env (.ref k)) _ _ r;refine wpAny_assign_Name (store_ok2 (v:=.ref k) T (by rw[K.hN];exact K.nd) (by rw[K.hN];exact Xh hi) (K.loc _ (Vb hi)) rfl (λL S ⟨a,m,R⟩=>?_) (.inl (K.fn _)))
   have M:C≠a:=by
    rcases R with z|z
    .rw[z];exact d.2.1
    .exact λw=>d.2.2.2.2.1 _ _ z w.symm
   exact⟨t,x.sameBut m M,λU l=>⟨_,E,S.turned (t':=L.toks) (λb o P e=>l.extBut b o P e) d.1 d.2.1 d.2.2.2.1 d.2.2.2.2.1 d.2.2.2.2.2,q⟩⟩
  rw[exec_Assign_Name_used _ _ _ _ u];refine aA (wpAny_standAt (aA ?_));show wpAny _ X.A (do let _ <-comprehension (.ListComp elt [⟨tg,it,ifs,0⟩] sc2 j) sc2 X.env _ (newList []) false (eval it X.env) (some (assign (.Name y p) X.env))) _ _ s
  exact aA (aX (go _) (λ_ J g=>aB (aB g)) λ_ _ e=>e)
variable [ClsTab]
theorem Zhk{α:Type}:∀ {us:Li α},us.length=0->us=[]
 |[],_=>rfl
theorem Zgv{α:Type}:∀ {us:Li α},us.length=1->∃ a,us=[a]
 |[a],_=>⟨a,rfl⟩
theorem Zgx{α:Type}:∀ {us:Li α},us.length=2->∃ a b,us=[a,b]
 |[a,b],_=>⟨a,b,rfl⟩
theorem ZeE{α:Type}:∀ {us:Li α},us.length=3->∃ a b c,us=[a,b,c]
 |[a,b,c],_=>⟨a,b,c,rfl⟩
theorem Zgy{α:Type}:∀ {us:Li α},us.length=4->∃ a b c d,us=[a,b,c,d]
 |[a,b,c,d],_=>⟨a,b,c,d,rfl⟩
theorem Zhl{α:Type}:∀ {us:Li α},us.length=5->∃ a b c d e,us=[a,b,c,d,e]
 |[a,b,c,d,e],_=>⟨a,b,c,d,e,rfl⟩
theorem Zhm{α:Type}:∀ {us:Li α},us.length=6->∃ a b c d e f,us=[a,b,c,d,e,f]
 |[a,b,c,d,e,f],_=>⟨a,b,c,d,e,f,rfl⟩
def Zdj(K:fG7)(C:Ad)(fd:FuncData)(pn:Li Str)(ds:Li D):Prop:=ObC K C/\∀ n,n<=ds.length->∃ a b,(∀ ad H,Dens K ad H a (ds.drop n))/\Vals a b/\Binds K fd pn b
def Yv(K:fG7)(G:Gs)(T:Nat->Ot FD)(C:Ad)(ds:Li D):Li (Str×Nat×Nat)->Prop
 |[]=>True
 | (m,j,_) :: r=>(∃ y f fd pn N,MethOk K G T C m y j f fd pn N/\(m = "__init__"->Zdj K C fd pn ds))/\Yv K G T C ds r
def Zdl(K:fG7)(C:Ad)(ms:Li (Str×Nat×Nat)):Prop:=ms.lookup ("__init__":Str)=none->W.findIn K (.ref C) "__init__"=some (some (.builtin "object.__init__"))
def XJ(K:fG7)(B:Ad):Li Nat->Prop
 |[]=>True
 |i :: r=>SubOk K (ClsTab.ca i) B/\XJ K B r
def Yp(a:Params)(K:fG7)(mg:Str->Ot vL)(G:Gs)(T:Nat->Ot FD):Gs->Prop
 |[]=>True
 | (x,.c d) :: r=>(∃ v u,mg x=some u/\RelV v u/\∀ ad H,Den K ad H v d)/\Yp a K mg G T r
 | (x,.blt) :: r=>mg x=none/\Yp a K mg G T r
 | (x,.dct ks ds) :: r=>U9 a K mg x ks ds/\Yp a K mg G T r
 | (x,.fn i _ ds) :: r=>(∃ f fd pn N,DefOk K mg G T x i ds f fd pn N)/\Yp a K mg G T r
 | (x,.cls i ms subs ds) :: r=>((mg x=some (.ref (ClsTab.ca i))/\NewOk K (ClsTab.ca i)/\XJ K (ClsTab.ca i) subs)/\Yv K G T (ClsTab.ca i) ds ms/\Zdl K (ClsTab.ca i) ms)/\Yp a K mg G T r
def Zd1(a:Params)(K:fG7)(mg:Str->Ot vL)(G:Gs)(T:Nat->Ot FD)(x:Str):GV->Prop
 |.c d=>∃ v u,mg x=some u/\RelV v u/\∀ ad H,Den K ad H v d
 |.blt=>mg x=none
 |.dct ks ds=>U9 a K mg x ks ds
 |.fn i _ ds=>∃ f fd pn N,DefOk K mg G T x i ds f fd pn N
 |.cls i ms subs ds=>(mg x=some (.ref (ClsTab.ca i))/\NewOk K (ClsTab.ca i)/\XJ K (ClsTab.ca i) subs)/\Yv K G T (ClsTab.ca i) ds ms/\Zdl K (ClsTab.ca i) ms
theorem YG{b:Params}:∀ {l:Gs}{x:Str}{g:GV},Yp b K mg G T l->l.lookup x=some g->Zd1 b K mg G T x g
 |[],_,_,_,h=>by cases h
 | (y,v) :: r,x,g,a,h=>by
  have tl:Yp b K mg G T r/\Zd1 b K mg G T y v:=by
   cases v with
   |c d=>exact⟨a.2,a.1⟩
   |blt=>exact⟨a.2,a.1⟩
   |dct ks ds=>exact⟨a.2,a.1⟩
   |fn i f ds=>exact⟨a.2,a.1⟩
   |cls i ms subs ds=>exact⟨a.2,a.1⟩
  rw[bJ]at h;cases e:x==y with
  |true=>
   rw[e]at h;cases h;rw[beq_iff_eq.mp e];exact tl.2
  |false=>
   rw[e]at h;exact YG tl.1 h
theorem QD{B:Ad}:∀ {l:Li Nat},XJ K B l->∀ i,l.contains i=true->SubOk K (ClsTab.ca i) B
 |[],_,_,h=>by cases h
 |j :: r,a,i,h=>by
  rw[eE,cC]at h;rcases h with h|h
  .rw[beq_iff_eq.mp h];exact a.1
  .exact QD a.2 i h
theorem Ub{C:Ad}{ds:Li D}:∀ {l:Li (Str×Nat×Nat)},Yv K G T C ds l->∀ m j b,l.lookup m=some (j,b)->∃ y f fd pn N,MethOk K G T C m y j f fd pn N/\(m = "__init__"->Zdj K C fd pn ds)
 |[],_,_,_,_,h=>by cases h
 | (d,g,c) :: r,a,m,j,b,h=>by
  rw[bJ]at h;cases e:m==d with
  |true=>
   rw[e]at h;cases h;rw[beq_iff_eq.mp e];exact a.1
  |false=>
   rw[e]at h;exact Ub a.2 m j b h
theorem Zc7{a:Params}(h:Yp a K mg G T G):Text a K mg G T:=
 ⟨λ_ _ e=>YG h e,λ_ e=>YG h e,λ_ _ _ e=>YG h e,λ_ _ _ _ e=>YG h e,λx i ms subs ds e=>by
  have g:Zd1 a K mg G T x (.cls i ms subs ds):=YG h e;exact⟨⟨g.1.1,g.1.2.1,QD g.1.2.2⟩,Ub g.2.1,g.2.2⟩⟩
theorem Zej(a:∀ n,Yj G (run T n))(X:Text w.params K mg G T)(n:Nat){x:Str}{f:Ad}{fd:FuncData}(b:DefOk K mg G T x i ds f fd pn N):FnOk P w K mg base CX0 (2 * n) f fd pn (spD K (run T n i)):=Zd4 a X n b.ob
theorem ZfB{a:Ad}{f:Li Int}(r:Only H)(t:SqL K H a (f.map V.int))(h:∃ st',run T n i [.lst 0] [(false,f.map .int)]=some (.bl true,st')):spD K (run T n i) [.ref a] H (λv _=>v=.bl true) λ_ _ _=>False:=by
 obtain⟨st',e⟩:=h;have ds:∀ f:Li Int,Dens K [a] H (f.map V.int) (f.map D.int):=λf=>by
  induction f with
  |nil=>exact .nil
  |cons n l s=>exact .cons (.int n) s
 have p:¬ZW H a:=λ⟨o',q,m⟩=>by
  rcases r a with z|⟨o,xs,z⟩<;>(rw[q]at z;cases z)
  cases m
 refine⟨[a],[.lst 0],[(false,f.map .int)],.bl true,st',⟨rfl,λi j b c d _ _ k _=>?_,λi c g=>?_⟩,.cons (.lst ⟨rfl,p⟩) .nil,e,λv ad' H' x S h=>h.ofBl⟩
 .cases i with
  |zero=>simp at k
  |succ i=>simp at k
 .cases i with
  |succ i=>simp at g
  |zero=>
   have g:(false,f.map D.int)=c:=by simpa using g
   subst g;refine⟨a,rfl,.l p (ds f) (.inr ⟨rfl,?_⟩)⟩;rcases t with(h|⟨o,h⟩)|⟨o,its,n,B,A,k,y,w,u⟩
   .rcases r a with z|⟨o,xs,z⟩
    .rw[h]at z;cases z
    .rw[h]at z;cases z
   .exact .inl ⟨o,h⟩
   .exact .inr ⟨o,its,n,⟨B,A⟩,⟨k,y⟩,w,u⟩
noncomputable abbrev fnS(x y:Str)(s:Stmt)(c kV b a:vL)(e:Ot Ad)(d ct:vL):FuncData:=W.fnOf x y (defArgs s) (defBody s) (defScope s) c kV b a e d ct
inductive FnAt(K:fG7)(x:Str)(s:Stmt):Prop
 |mk {f:Addr}{oc kV dc pm cd ct:Value}{od an:Option Addr}{sl:Array (Option Value)} (a:W.nsIn K mainGlobals x=some (some (.ref f))) (l:K.lookup f=some ⟨oc,od,.func (W.fnOf x x (defArgs s) (defBody s) (defScope s) .none kV dc pm an cd ct),sl⟩) (e:W.codeIn K cd x=true) (k:W.keepIn K (.ref f)=true):FnAt K x s
inductive FnAtE(K:fG7)(x:Str)(s:Stmt)(v:Int):Prop
 |mk {f E:Addr}{eo:Obj}{en:Nat}{et:Tok}{oc kV dc pm cd ct:Value}{od an:Option Addr}{sl:Array (Option Value)} (a:W.nsIn K mainGlobals x=some (some (.ref f))) (l:K.lookup f=some ⟨oc,od,.func (W.fnOf x x (defArgs s) (defBody s) (defScope s) (.ref E) kV dc pm an cd ct),sl⟩) (e:W.codeIn K cd x=true) (k:W.keepIn K (.ref f)=true) (d:K.lookup E=some eo) (g:eo.data=.seq #[.int v et] en):FnAtE K x s v
inductive MtAt(K:fG7)(C:Addr)(x y:Str)(s:Stmt):Prop
 |mk {f:Addr}{oc kV dc pm cd ct:Value}{od an:Option Addr}{sl:Array (Option Value)} (m:W.findIn K (.ref C) x=some (some (.ref f))) (l:K.lookup f=some ⟨oc,od,.func (W.fnOf x y (defArgs s) (defBody s) (defScope s) .none kV dc pm an cd ct),sl⟩) (e:W.codeIn K cd y=true) (k:W.keepIn K (.ref f)=true) (i:W.isFn K (.ref f)=true):MtAt K C x y s
structure ClsAt(K:fG7)(x:Str)(C:Addr):Prop where
 ya:W.nsIn K mainGlobals x=some (some (.ref C))
 yb:W.makesIn K C=true
 yc:W.findIn K (.ref C) "__init__"=some (some (.builtin "object.__init__"))
 yd:W.keepIn K (.ref C)=true
 ye:W.plainGet K C Str.empty=true
 yf:W.hasDictIn K C=true
 yg:W.plainOver K C=true
 yh:W.findIn K (.ref C) "__setattr__"=some (some (.builtin "object.__setattr__"))
 yi:W.findIn K (.ref C) "__class__"=some (some (.builtin "object.__class__"))
 yj:W.mroIn K C (.type "object")=some true
 yk:W.specialIn K (.builtin "object.__class__") "__get__"=some (some (.builtin "getset_descriptor.__get__"))
 yl:W.takesIn K (.builtin "object.__class__")=some true
inductive MtAtE(K:fG7)(C:Addr)(x y:Str)(s:Stmt)(v:Int):Prop
 |mk {f E:Addr}{eo:Obj}{en:Nat}{et:Tok}{oc kV dc pm cd ct:Value}{od an:Option Addr}{sl:Array (Option Value)} (m:W.findIn K (.ref C) x=some (some (.ref f))) (l:K.lookup f=some ⟨oc,od,.func (W.fnOf x y (defArgs s) (defBody s) (defScope s) (.ref E) kV dc pm an cd ct),sl⟩) (e:W.codeIn K cd y=true) (k:W.keepIn K (.ref f)=true) (i:W.isFn K (.ref f)=true) (d:K.lookup E=some eo) (g:eo.data=.seq #[.int v et] en):MtAtE K C x y s v
structure ClsAtB(K:fG7)(x:Str)(C:Addr):Prop where
 ya:W.nsIn K mainGlobals x=some (some (.ref C))
 yb:W.makesIn K C=true
 yd:W.keepIn K (.ref C)=true
 ye:W.plainGet K C Str.empty=true
 yf:W.hasDictIn K C=true
 yg:W.plainOver K C=true
 yh:W.findIn K (.ref C) "__setattr__"=some (some (.builtin "object.__setattr__"))
 n1:W.findIn K (.ref C) "program"=some none
 n2:W.findIn K (.ref C) "trials"=some none
 n3:W.findIn K (.ref C) "limit"=some none
 n4:W.findIn K (.ref C) "kept"=some none
 n5:W.findIn K (.ref C) "done"=some none
theorem ClsAtB.oc{K:fG7}{x:Str}{C:Ad}(F:ClsAtB K x C):ObC K C:=⟨⟨F.ye,F.yf,F.yg,F.yh⟩,λf a=>by
 have a:((f == "program")||((f == "trials")||((f == "limit")||((f == "kept")||((f == "done")||false)))))=true:=a;rw[Bool.or_false,cC,cC,cC,cC,beq_iff_eq,beq_iff_eq,beq_iff_eq,beq_iff_eq,beq_iff_eq]at a;rcases a with rfl|rfl|rfl|rfl|rfl
 .exact F.n1
 .exact F.n2
 .exact F.n3
 .exact F.n4
 .exact F.n5⟩
abbrev ZV(G:Gs)(s:Stmt)(N a:Li Str)(c:CS):Prop:=FnScope N a (defScope s)/\(∀ y∈N,L2.Loc (defScope s) y)/\cSs G 60 (defScope s) N (defBody s)=some c
variable{ps:Li Str}
section
variable{fd:FuncData}
theorem bd1(b:ps.length=1)(h:∀ a,bindArgs fd ⟨[a],[]⟩=pure (ps.zip [a])):Binds K fd ps []:=.all λc e=>by obtain⟨_,rfl⟩:=Zgv (e.trans b);exact h _
theorem bd2(c:ps.length=2)(h:∀ a b,bindArgs fd ⟨[a,b],[]⟩=pure (ps.zip [a,b])):Binds K fd ps []:=.all λd e=>by obtain⟨_,_,rfl⟩:=Zgx (e.trans c);exact h _ _
theorem bd3(d:ps.length=3)(h:∀ a b c,bindArgs fd ⟨[a,b,c],[]⟩=pure (ps.zip [a,b,c])):Binds K fd ps []:=.all λf e=>by obtain⟨_,_,_,rfl⟩:=ZeE (e.trans d);exact h _ _ _
theorem bd4(f:ps.length=4)(h:∀ a b c d,bindArgs fd ⟨[a,b,c,d],[]⟩=pure (ps.zip [a,b,c,d])):Binds K fd ps []:=.all λg e=>by obtain⟨_,_,_,_,rfl⟩:=Zgy (e.trans f);exact h _ _ _ _
theorem bd5(f:ps.length=5)(h:∀ a b c d k,bindArgs fd ⟨[a,b,c,d,k],[]⟩=pure (ps.zip [a,b,c,d,k])):Binds K fd ps []:=.all λg e=>by obtain⟨_,_,_,_,_,rfl⟩:=Zhl (e.trans f);exact h _ _ _ _ _
theorem bd6(f:ps.length=6)(h:∀ a b c d k l,bindArgs fd ⟨[a,b,c,d,k,l],[]⟩=pure (ps.zip [a,b,c,d,k,l])):Binds K fd ps []:=.all λg e=>by obtain⟨_,_,_,_,_,_,rfl⟩:=Zhm (e.trans f);exact h _ _ _ _ _ _
theorem bd0(a:ps.length=0)(h:bindArgs fd ⟨[],[]⟩=pure []):Binds K fd ps []:=.all λb e=>by rw[Zhk (e.trans a),List.zip_nil_right];exact h
end
variable{h:Heap}{i:Nat}
section
variable{Pm:Params}{x y:Str}{p:Nat}{s:Stmt}{c:CS}{r:Gs}
theorem gD(X:K.In h)(o:h.Ns mainGlobals mg)(F:FnAt K x s)(q:ZV G s N ps c)(f:T i=some ⟨ps.length,N.length,c⟩)(t:Yp Pm K mg G T r)(d:∀ kV g b n j ct,Binds K (fnS x x s .none kV g b n j ct) ps []:=by first|exact λ_ _ _ _ _ _=>bd1 rfl λ_=>rfl|exact λ_ _ _ _ _ _=>bd2 rfl λ_ _=>rfl|exact λ_ _ _ _ _ _=>bd3 rfl λ_ _ _=>rfl|exact λ_ _ _ _ _ _=>bd4 rfl λ_ _ _ _=>rfl|exact λ_ _ _ _ _ _=>bd5 rfl λ_ _ _ _ _=>rfl|exact λ_ _ _ _ _ _=>bd6 rfl λ_ _ _ _ _ _=>rfl|exact λ_ _ _ _ _ _=>bd0 rfl rfl):Yp Pm K mg G T ((x,.fn i p []) :: r):=by
 cases F with
 |mk a l e k=>exact⟨⟨_,_,ps,N,.inl ⟨s,_,_,_,_,_,_,_,_,_,_,c,rfl,l,e,q.1,q.2.1,q.2.2,f⟩,k,W.mg_of X o a,λm u=>⟨[],[],λ_ _=>by rw[List.drop_nil];exact .nil,.nil,d _ _ _ _ _ _⟩⟩,t⟩
theorem gH(X:K.In h)(o:h.Ns mainGlobals mg)(F:FnAt K x s)(q:∀ {f:Ad}{oc kV d c b ct:vL}{j g:Ot Ad}{sl:Array (Ot vL)},K.lookup f=some ⟨oc,j,.func (fnS x x s .none kV d c g b ct),sl⟩->W.codeIn K b x=true->QM K mg G T i f (fnS x x s .none kV d c g b ct) ps)(n:∀ kV d c g b ct,Binds K (fnS x x s .none kV d c g b ct) ps [])(t:Yp Pm K mg G T r):Yp Pm K mg G T ((x,.fn i p []) :: r):=by
 cases F with
 |mk a l e k=>exact⟨⟨_,_,ps,[],.inr (q l e),k,W.mg_of X o a,λm u=>⟨[],[],λ_ _=>by rw[List.drop_nil];exact .nil,.nil,n _ _ _ _ _ _⟩⟩,t⟩
theorem gE{v:Int}(X:K.In h)(B:h.Ns mainGlobals mg)(F:FnAtE K x s v)(q:ZV G s N ps c)(z:T i=some ⟨ps.length,N.length,c⟩)(f:∀ E kV o b w u ct n j A,K.lookup E=some n->n.data=.seq #[.int v j] A->Binds K (fnS x x s (.ref E) kV o b w u ct) ps []/\Binds K (fnS x x s (.ref E) kV o b w u ct) ps [.int v j])(t:Yp Pm K mg G T r):Yp Pm K mg G T ((x,.fn i p [.int v]) :: r):=by
 cases F with
 |mk a l e k d g=>
  refine⟨⟨_,_,ps,N,.inl ⟨s,_,_,_,_,_,_,_,_,_,_,c,rfl,l,e,q.1,q.2.1,q.2.2,z⟩,k,W.mg_of X B a,λm y=>?_⟩,t⟩
  match m,y with
  |0,_=>exact⟨[.int v],[.int v _],λ_ _=>.cons (.int _) .nil,.cons ⟨_,rfl⟩ .nil,(f _ _ _ _ _ _ _ _ _ _ d g).2⟩
  |1,_=>exact⟨[],[],λ_ _=>.nil,.nil,(f _ _ _ _ _ _ _ _ _ _ d g).1⟩
theorem gM{C:Ad}{r:Li (Str×Nat×Nat)}(b:x ≠ "__init__")(F:MtAt K C x y s)(q:ZV G s N ps c)(f:T i=some ⟨ps.length,N.length,c⟩)(t:Yv K G T C ds r)(d:∀ kV g a n h ct,Binds K (fnS x y s .none kV g a n h ct) ps []:=by first|exact λ_ _ _ _ _ _=>bd1 rfl λ_=>rfl|exact λ_ _ _ _ _ _=>bd2 rfl λ_ _=>rfl|exact λ_ _ _ _ _ _=>bd3 rfl λ_ _ _=>rfl|exact λ_ _ _ _ _ _=>bd4 rfl λ_ _ _ _=>rfl|exact λ_ _ _ _ _ _=>bd5 rfl λ_ _ _ _ _=>rfl|exact λ_ _ _ _ _ _=>bd6 rfl λ_ _ _ _ _ _=>rfl|exact λ_ _ _ _ _ _=>bd0 rfl rfl):Yv K G T C ds ((x,i,p) :: r):=by
 cases F with
 |mk m l e k j=>exact⟨⟨y,_,_,ps,N,⟨⟨s,_,_,_,_,_,_,_,_,_,_,c,rfl,l,e,q.1,q.2.1,q.2.2,f⟩,⟨m,j,k⟩,d _ _ _ _ _ _⟩,λz=>absurd z b⟩,t⟩
theorem gMI{C:Ad}{v:Int}{r:Li (Str×Nat×Nat)}(B:ClsAtB K z C)(F:MtAtE K C x y s v)(q:ZV G s N ps c)(D:T i=some ⟨ps.length,N.length,c⟩)(t:Yv K G T C [.int v] r)(a:∀ E kV o b w u ct h f H,K.lookup E=some h->h.data=.seq #[.int v f] H->Binds K (fnS x y s (.ref E) kV o b w u ct) ps []/\Binds K (fnS x y s (.ref E) kV o b w u ct) ps [.int v f]):Yv K G T C [.int v] ((x,i,p) :: r):=by
 cases F with
 |mk m l e k j d g=>
  refine⟨⟨y,_,_,ps,N,⟨⟨s,_,_,_,_,_,_,_,_,_,_,c,rfl,l,e,q.1,q.2.1,q.2.2,D⟩,⟨m,j,k⟩,(a _ _ _ _ _ _ _ _ _ _ d g).1⟩,λ_=>⟨B.oc,λn A=>?_⟩⟩,t⟩
  match n,A with
  |0,_=>exact⟨[.int v],[.int v _],λ_ _=>.cons (.int _) .nil,.cons ⟨_,rfl⟩ .nil,(a _ _ _ _ _ _ _ _ _ _ d g).2⟩
  |1,_=>exact⟨[],[],λ_ _=>.nil,.nil,(a _ _ _ _ _ _ _ _ _ _ d g).1⟩
theorem gC{C:Ad}(X:K.In h)(d:h.Ns mainGlobals mg)(c:ClsTab.ca i=C)(F:ClsAt K x C)(a:XJ K C subs)(b:Yv K G T C ds ms)(t:Yp Pm K mg G T r):Yp Pm K mg G T ((x,.cls i ms subs ds) :: r):=by
 subst c;exact⟨⟨⟨W.mg_of X d F.ya,⟨F.yb,F.yd,⟨F.ye,F.yf,F.yg,F.yh⟩⟩,a⟩,b,λ_=>F.yc⟩,t⟩
theorem gCB{C:Ad}(X:K.In h)(d:h.Ns mainGlobals mg)(c:ClsTab.ca i=C)(F:ClsAtB K x C)(a:XJ K C subs)(b:Yv K G T C ds ms)(hi:ms.lookup ("__init__":Str)≠none)(t:Yp Pm K mg G T r):Yp Pm K mg G T ((x,.cls i ms subs ds) :: r):=by
 subst c;exact⟨⟨⟨W.mg_of X d F.ya,⟨F.yb,F.yd,⟨F.ye,F.yf,F.yg,F.yh⟩⟩,a⟩,b,λz=>absurd z hi⟩,t⟩
theorem gB(X:K.In h)(a:h.Ns mainGlobals mg)(z:W.nsIn K mainGlobals x=some none)(t:Yp Pm K mg G T r):Yp Pm K mg G T ((x,.blt) :: r):=⟨W.mg_none_of X a z,t⟩
theorem gI{v:Int}{k:Tok}(X:K.In h)(a:h.Ns mainGlobals mg)(g:W.nsIn K mainGlobals x=some (some (.int v k)))(t:Yp Pm K mg G T r):Yp Pm K mg G T ((x,.c (.int v)) :: r):=⟨⟨.int v,_,W.mg_of X a g,⟨_,rfl⟩,λ_ _=>.int _⟩,t⟩
theorem gL{fa:Ad}(X:K.In h)(j:h.Ns mainGlobals mg)(b:mg x=some (.ref fa))(F:FnAt K x s)(q:ZV G s N [z] c)(p:T i=some ⟨1,N.length,c⟩)(g:∀ kV r n v t ct u,bindArgs (fnS x x s .none kV r n v t ct) ⟨[u],[]⟩=pure [(z,u)]):∃ (fd:FuncData) (N:Li Str),(∀ (s:sH7) (u:vL),BindsTo s fd ⟨[u],[]⟩ [(z,u)])/\DefOk K mg G T x i [] fa fd [z] N:=by
 cases F with
 |@mk f _ _ _ _ _ _ _ _ _ a l e k=>
  have d:=b.symm.trans (W.mg_of X j a);have d:fa=f:=by cases d;rfl
  rw[d];exact⟨_,N,λ_ u=>.of_eq (g _ _ _ _ _ _ u),.inl ⟨s,_,_,_,_,_,_,_,_,_,_,c,rfl,l,e,q.1,q.2.1,q.2.2,p⟩,k,W.mg_of X j a,λm y=>⟨[],[],λ_ _=>by rw[List.drop_nil];exact .nil,.nil,.all λw o=>by obtain⟨u,rfl⟩:=Zgv o;exact g _ _ _ _ _ _ u⟩⟩
end
omit [ClsTab] in
theorem Q9{l:W.OpenLaw}{q:Program}{e:Li Str}{V:(Str->Ot vL)->Heap->Prop}{r:World->Heap->Prop}{d:DefRec}{K:Params->fG7}{G:Gs}{T:Nat->Ot FD}{n i:Nat}{x:Str}(y:l.most=some 63)(o:d.params.defaults=[])(v:Room (2 * n) callerA)(I:∀ (w:World) (h:Heap),r w h->(K w.params).In h)(C:∀ [ClsTab] n,Yj G (run T n))(F:∀ (w:World) (mg:Str->Ot vL) (fa:Ad) (h:Heap),(K w.params).In h->h.Ns mainGlobals mg->mg d.name=some (.ref fa)->
   ∃ _:ClsTab,Text w.params (K w.params) mg G T/\∃ (fd:FuncData) (N:Li Str),(∀ (s:sH7) (u:vL),BindsTo s fd ⟨[u],[]⟩ [(x,u)])/\DefOk (K w.params) mg G T d.name i [] fa fd [x] N)(L:∀ j:Li Int,j.length<=63->∃ st',run T n i [.lst 0] [(false,j.map .int)]=some (.bl true,st')) :
  W.WalkO q e V r l.row.toRowW d [] (λf vs=>PySem.call f vs):=
 L2.walk_of (n:=63) (k:=2 * n) (x:=x) (CX:=λ_=>CX0) (sp:=λw vs H Q E=>∀ c:ClsTab,@spD c (K w.params) (run T n i) vs H Q E) y (by decide) o v I
  (λw mg fa h Y Z m=>by
   obtain⟨c,X,fd,N,D,Dk⟩:=F w mg fa h Y Z m;refine⟨fd,D,λbase _ _=>?_⟩
   have p:=Zej (P:=l.prog) (w:=w) (base:=base) (λn=>C n) X n Dk
   exact⟨λvs H Q E z=>p.len vs H Q E (z c),λA b s H g t vs Q E U S R O z=>p.run A b s H g t vs Q E U S R O (z c)⟩)
  (λw H a j B M J c=>ZfB M J (L j B)) λ_ _ _ _ _ z=>z
end Dp
namespace L2
open PySem PySem.Spec PyProof.Rows
structure Xo(h:Heap)(e C dx:Addr)(t:Option Addr):Prop where
 ob:∃ sl vs,h.get? e=some ⟨.ref C,some dx,.fields vs,sl⟩/\vs.size=6/\vs[1]?=some (t.elim .none .ref)
 tb:∀ a,t=some a->a≠e/\∃ o ts,h.get? a=some o/\o.data=.fields ts/\3 < ts.size/\ts[3]?=some .none
def Kx(fs:Li Ad)(e:Ad)(t:Ot Ad)(h c:Heap):Prop:=
 ∀ b o,h.get? b=some o->b≠e->(∀ a,t=some a->b≠a)->(b∉fs->c.get? b=some o)/\∃ sl,c.get? b=some { o with slots:=sl }
theorem Ql{base h:Heap}:∀ {l:Li Env},h.FunFrames base l->∀ b∈frs l,∃ o,h.get? b=some o/\∀ vs,o.data≠.fields vs
 |[],_,b,a=>by simp[frs]at a
 |env :: l,c,b,a=>by
  obtain⟨_,⟨L,o,f,_,e,d⟩,r⟩:=c;rw[frs,dW,f]at a;rcases aH.mp a with z|z
  .subst z;exact⟨o,e,d⟩
  .exact Ql r b z
variable{base h:Heap}{vs:Array vL}
theorem nofr{l:Li Env}{e:Ad}{o:Obj}(b:h.FunFrames base l)(c:h.get? e=some o)(hd:o.data=.fields vs):e∉frs l:=λz=>by
 obtain⟨o',a,d⟩:=Ql b e z;rw[c]at a;cases a;exact d vs hd
theorem Wf{a:Ad}{o:Obj}{i:Nat}{x:vL}(e:h.get? a=some o)(d:o.data=.fields vs):(h.update a (Obj.mapFields λy=>y.setIfInBounds i x)).get? a=some { o with data:=.fields (vs.setIfInBounds i x) }:=by
 obtain⟨c,f,b,sl⟩:=o;have d:b=.fields vs:=d;subst d;exact Heap.get?_update_self _ e rfl
variable{M:Model}{A:Around}{E:vL->sH7->Prop}{s:sH7}{base:Heap}{env:Env}{e C dx:Ad}
section
variable{outer:Li Env}{L:Ad}{t:Ot Ad}{Q:Unit->sH7->Prop}
theorem ZeK{l:Li vL}{Q:vL->sH7->Prop}(a:l.length<=100)(h:Q (.ref s.heap.objs.size) { s with heap:=s.heap.push { cls:=.type "traceback",data:=.fields l.toArray } }):wpAny M A (newFields "traceback" l) Q E s:=by
 unfold newFields newObj;have z:¬l.toArray.size > sizeLine+2:=by rw[aL];unfold sizeLine;omega
 show wpAny M A (if l.toArray.size > sizeLine+2 then _ else newObjAsIs _ _ _) Q E s
 rw[if_neg z];unfold newObjAsIs;exact aA (wpAny_alloc (aB h))
theorem Qk{g:vL}{b:Bool}(t:A.frames=some (env :: outer))(G:s.heap.FunFrames base (env :: outer))(S:env.frame=some L){sl:Array (Ot vL)}(v:s.heap.get? e=some ⟨.ref C,some dx,.fields vs,sl⟩)(n:vs.size=6)(h:∀ B a,s.heap.objs.size<=a->Xo B e C dx (some a)->Kx (frs (env :: outer)) e none s.heap B->Q () { s with heap:=B }) :
  wpAny M A (do
   let a <-frameOf env
   let j <-entryPlaceOf L b
   let b <-EntryCells.newEntry g a .none (rawInt L) .none j
   setField (.ref e) 1 b) (λ_ J=>wpAny M A (setFlight (.ref e) none) Q E J) E s:=by
 refine aA (wpAny_frameOf_fun t G S λf ⟨I,D,H⟩=>aA (wpAny_entryPlaceOf λj O=>aA ?_))
 have N:e∉frs (env :: outer):=nofr G v rfl;have u:f.get? e=some ⟨.ref C,some dx,.fields vs,sl⟩:=(D e N).trans v;have m:5<=([g,Value.ref L,.none,rawInt L,.none]++if j.isEmpty=true then List.replicate 6 Value.none else j).length/\([g,Value.ref L,.none,rawInt L,.none]++if j.isEmpty=true then List.replicate 6 Value.none else j).length<=100:=by
  rcases O with rfl|⟨a,b,c,d,U,T,_,rfl⟩
  .exact⟨show 5<=11 by decide,show 11<=100 by decide⟩
  .exact⟨show 5<=11 by decide,show 11<=100 by decide⟩
 unfold EntryCells.newEntry;generalize [g,Value.ref L,.none,rawInt L,.none]++(if j.isEmpty=true then List.replicate 6 Value.none else j)=l at m
 refine ZeK m.2 ?_;have sz:f.objs.size=s.heap.objs.size:=I;have new:s.heap.get? f.objs.size=none:=by
  cases q:s.heap.get? f.objs.size with
  |none=>rfl
  |some o=>
   have:=aI q;rw[sz]at this;exact absurd this (bL _)
 have i:f.objs.size≠e:=λz=>by rw[z,v]at new;cases new
 have k:=aO { cls:=.type "traceback",data:=.fields l.toArray } u;refine wpAny_setField k rfl (by rw[n];decide) ?_
 have F:(f.push { cls:=.type "traceback",data:=.fields l.toArray }).get? f.objs.size=some { cls:=.type "traceback",data:=.fields l.toArray }:=aY _ rfl;refine wpAny_setFlight_none (e:=e) (tb:=f.objs.size) (Wf k rfl) rfl (by show(vs.setIfInBounds 1 _)[1]?=_;rw[eF];simp[n]) ((Heap.get?_update_other _ _ (Ne.symm i)).trans F) rfl (by rw[aL];omega) ?_
 refine h _ f.objs.size (cN sz.symm) ⟨⟨sl,vs.setIfInBounds 1 (.ref f.objs.size),?_,by simp[n],by rw[eF];simp[n]⟩,λa q=>?_⟩ λb o p y R=>?_
 .exact(Heap.get?_update_other _ _ i).trans (Wf k rfl)
 .cases q
  refine⟨i,_,_,Wf ((Heap.get?_update_other _ _ (Ne.symm i)).trans F) rfl,rfl,?_,?_⟩
  .simp;omega
  .rw[eF];simp;omega
 .have w:b≠f.objs.size:=λz=>by rw[z,new]at p;cases p
  have go:∀ {o'},f.get? b=some o'->(((f.push { cls:=.type "traceback",data:=.fields l.toArray }).update e (Obj.mapFields λx=>x.setIfInBounds 1 (.ref f.objs.size))).update f.objs.size (Obj.mapFields λx=>x.setIfInBounds 3 .none)).get? b=some o':=λq=>
   (Heap.get?_update_other _ _ (Ne.symm w)).trans ((Heap.get?_update_other _ _ (Ne.symm y)).trans (aO _ q))
  obtain⟨r,K⟩:=H b o p;exact⟨λP=>go ((D b P).trans p),r,go K⟩
theorem ZaL(d:A.frames=some (env :: outer))(r:s.heap.FunFrames base (env :: outer))(p:env.frame=some L)(x:Xo s.heap e C dx t)(h:∀ f a,s.heap.objs.size<=a->Xo f e C dx (some a)->Kx (frs (env :: outer)) e t s.heap f->Q () { s with heap:=f }) :
  wpAny M A (noteFrame (.ref e) env) (λ_ B=>wpAny M A (setFlight (.ref e) none) Q E B) E s:=by
 obtain⟨sl,vs,i,q,u⟩:=x.ob;unfold noteFrame;rw[p];cases t with
 |none=>
  refine aA (wpAny_field i rfl u ?_);rw[if_neg (by decide)]
  exact Qk d r p i q h
 |some a=>
  obtain⟨I,o,y,k,j,F,D⟩:=x.tb a rfl;refine aA (wpAny_field i rfl u ?_);rw[if_pos (by rfl)]
  refine aA (wpAny_field k j D ?_);rw[if_neg (λz=>by have:=beq_iff_eq.mp z;unfold rawInt at this;cases this)]
  refine aA (wpAny_setField k j F ?_);have l:∀ b,b≠a->(s.heap.update a (Obj.mapFields λx=>x.setIfInBounds 3 .none)).get? b=s.heap.get? b:=λb c=>Heap.get?_update_other _ _ (Ne.symm c)
  refine Qk (s:={ s with heap:=s.heap.update a (Obj.mapFields λx=>x.setIfInBounds 3 .none) }) (base:=base) d (Heap.FunFrames.of_keeps (λb o' c H=>⟨o',(l b λz=>?_).trans c,rfl⟩) r) p ((l e (Ne.symm I)).trans i) q λf v g w G=>h f v ?_ w λb o' c n m=>G b o' ((l b (m a rfl)).trans c) n λ_ z=>nomatch z
  .rw[z,k]at c
   cases c;exact H y j
  .have g:(s.heap.update a (Obj.mapFields λx=>x.setIfInBounds 3 .none)).objs.size<=v:=g
   rw[Heap.size_update]at g;exact g
theorem Zcf(b:A.frames=some (env :: outer))(f:s.heap.FunFrames base (env :: outer))(d:env.frame=some L)(x:Xo s.heap e C dx t)(h:∀ c a,s.heap.objs.size<=a->Xo c e C dx (some a)->Kx (frs (env :: outer)) e t s.heap c->Q () { s with heap:=c }) :
  wpAny M A (leaving env (.ref e)) Q E s:=by
 unfold leaving;exact aA (ZaL b f d x h)
end
variable{prog:Program}{w:World}{h:Heap}{g:Array GenState}{d:Drawn}{t:Nat}{os:OsState}{nm q:Str}{N fI:Ad}{bs bm bmB sub:Li vL}{hdct ab:Bool}{sn:Li Str}{col:Ot Bool}{dd:Ot Ad}{k0 k1 k2 k3 k5:Ot vL}{B newId:String}
section
variable{initId:String}{rest:Li vL}{oI:Obj}
theorem Zc6{Q:Fin->sH7->Prop}(F:ExcBaseFacts B newId initId bmB)(T:OwnTail h bmB bm)(c:h.get? C=some (excClassObj nm q C N bs bm hdct sn sub ab col dd k0 k1 k2 k3 k5 newId))(D:W.Looks (model prog w) h (typeLookup (.ref C) "__init__") (some (.ref fI)))(G:h.get? fI=some oI)(H:oI.cls=.type "function")(v:rest.length<=sizeLine)(x:∀ m e,h.objs.size<=e->h.MadeExcOf m e (.ref C) rest->wpAny (model prog w) A (call (.ref fI) (.ref e :: rest)) (λr k=>r=.none/\Q (.done (.ret (.ref e))) k) E ⟨m,g,d,t,os⟩) :
  wpAny (model prog w) A (Builtin.«type.__call__» { pos:=.ref C :: rest }) Q E ⟨h,g,d,t,os⟩:=by
 unfold Builtin.«type.__call__»
 simp only;have s:¬(Value.ref C==Value.type "type")=true:=λz=>nomatch beq_iff_eq.mp z
 rw[if_neg s];refine aA (wpAny_mroOf_exc c ?_);rw[if_neg (by simp)]
 refine aA (wpAny_madeBy_exc c (aA (aB (aA (wpAny_holding (wpAny_call (codeAny_call_builtin_code (Code.quiet_builtin _ F.quiet) (wpAny_check_new_subT F T c (codeAny_exc_new_subT F T c ?_ v)))))))));have f:∀ b o,h.get? b=some o->((h.push { cls:=.type "tuple",data:=.seq rest.toArray }).push { cls:=.ref C,data:=.fields #[.ref h.objs.size,.none,.none,.none,.bool false,.none] }).get? b=some o:=λb o z=>aO _ (aO _ z)
 have l:∀ a,h.objs.size<=a->h.get? a=none:=λa I=>by
  cases z:h.get? a with
  |none=>rfl
  |some o=>exact absurd (aI z) (cY.mpr I)
 have u:(h.push { cls:=.type "tuple",data:=.seq rest.toArray }).objs.size=h.objs.size+1:=Heap.size_push _ _;have i:((h.push { cls:=.type "tuple",data:=.seq rest.toArray }).push { cls:=.ref C,data:=.fields #[.ref h.objs.size,.none,.none,.none,.bool false,.none] }).get? (h.objs.size+1)=some { cls:=.ref C,data:=.fields #[.ref h.objs.size,.none,.none,.none,.bool false,.none] }:=Heap.get?_push_at u.symm rfl
 have y:h.MadeExcOf ((h.push { cls:=.type "tuple",data:=.seq rest.toArray }).push { cls:=.ref C,data:=.fields #[.ref h.objs.size,.none,.none,.none,.bool false,.none] }) (h.objs.size+1) (.ref C) rest:=⟨f,l _ (bV _),h.objs.size,i,l _ (aD _),aO _ (aY _ rfl)⟩;have j:=f C _ c;generalize J:(h.push { cls:=.type "tuple",data:=.seq rest.toArray }).push { cls:=.ref C,data:=.fields #[.ref h.objs.size,.none,.none,.none,.bool false,.none] }=h2 at *
 refine aA ?_;unfold isInstance typeOf;refine aA (aA (wpAny_loadPart_at i (aB (wpAny_isSubtype_exc j ?_))));rw[show(Value.ref C :: bm).contains (.ref C)=true by simp]
 rw[if_neg (by decide)]
 refine aA (wpAny_holding ?_);unfold callSpecial? specialOf typeOf
 refine aA (aA (aA (wpAny_loadPart_at i (aB (D _ _ _ _ f ?_)))));refine wpAny_holding (aA (wpAny_bindSpecial_def (f fI _ G) H (aA ?_)));refine aX (x h2 (h.objs.size+1) (bV _) y) (λr k ⟨p,n⟩=>?_) λ_ _ z=>z
 subst p;exact aB (aB n)
theorem Zef{Q:vL->sH7->Prop}(F:ExcBaseFacts B newId initId bmB)(T:OwnTail h bmB bm)(a:h.get? C=some (excClassObj nm q C N bs bm hdct sn sub ab col dd k0 k1 k2 k3 k5 newId))(l:W.Looks (model prog w) h (typeLookup (.ref C) "__init__") (some (.ref fI)))(m:h.get? fI=some oI)(n:oI.cls=.type "function")(i:rest.length<=sizeLine)(j:∀ b e,h.objs.size<=e->h.MadeExcOf b e (.ref C) rest->wpAny (model prog w) (A.under (Code.builtin "type.__call__" { pos:=.ref C :: rest })) (call (.ref fI) (.ref e :: rest)) (λr c=>r=.none/\Q (.ref e) c) E ⟨b,g,d,t,os⟩) :
  wpAny (model prog w) A (call (.ref C) rest) Q E ⟨h,g,d,t,os⟩:=by
 refine wpAny_call (codeAny_of_tree (aA (wpAny_load' a ?_)));refine aA (wpAny_specialOf ⟨_,a,rfl⟩ tc_lookup (aA (wpAny_of_eq (tc_bind (.ref C)) (aA (aB ?_)))));refine wpAny_ite_true (by rfl) (aB ⟨rfl,codeAny_call_builtin_at (Code.quiet_builtin _ (by decide +kernel)) entry_typeCall (wpAny_check_type_call_sub a (Zc6 F T a l m n i λb e f k=>j b e f k))⟩)
end
variable{H0:Ad}{sa owner:String}{vs:Array vL}{name:Str}{v:vL}{tk:Tok}
theorem Uj{self:vL}{a:Str}{P:Heap}(T:OwnTail P bmB bm)(h:refuseLoop self a bmB=pure ()):refuseLoop self a bm=pure ():=by
 induction T with
 |base=>exact h
 |own _ _ _ _ b=>rw[refuseLoop_ref];exact b
theorem Zc5{Q:Fin->sH7->Prop}(M:StoreFacts B bmB sa owner)(T:OwnTail h bmB bm)(G:h.get? C=some (excClassObj nm q C N bs bm true sn sub ab col dd k0 k1 k2 k3 k5 newId))(K:W.Looks (model prog w) h (typeLookup (.ref C) name) none)(c:h.get? e=some { cls:=.ref C,data:=.fields vs })(J:∀ f j,f.get? e=some ⟨.ref C,some h.objs.size,.fields vs,#[]⟩->f.Ns1 h.objs.size (λy=>if y=name then some v else none)->(∀ b o,b≠e->h.get? b=some o->f.get? b=some o)->Q (.done (.ret .none)) ⟨f,g,d,j,os⟩) :
  wpAny (model prog w) A (Builtin.«object.__setattr__» { pos:=[.ref e,.str name tk,v] }) Q E ⟨h,g,d,t,os⟩:=by
 unfold Builtin.«object.__setattr__»
 simp only;rw[if_neg (by decide),refuse_eq]
 have I:¬(Value.ref C==Value.type "module")=true:=λz=>nomatch beq_iff_eq.mp z
 unfold typeOf;refine aA (aA (aA (wpAny_loadPart_at c (aB (aA (wpAny_mroOf_exc G ?_))))));rw[refuseLoop_ref,Uj T (M.passes _)];refine aB ?_;unfold Builtin.ObjectAttr.attrName;refine aA (aB (aA (aA (wpAny_loadPart_at c (aB (aA (K _ _ _ _ (λ_ _ z=>z) ?_)))))))
 unfold Builtin.ObjectAttr.storeTaker?
 refine aA (aB ?_);unfold Builtin.ObjectAttr.storeInOwnDict ownStreamTells;refine aA (aB ?_);rw[if_neg I];unfold Builtin.ObjectAttr.ownDictForStores instanceDict;refine aA (aA (wpAny_loadPart_at c ?_));simp only;unfold classData;refine aA (aA (wpAny_load' G (aB ?_)));rw[if_neg (show ¬(!true)=true from bF7)]
 show wpAny _ _ (if (!true||!typeHasDict (.ref C))=true then pure none else _) _ _ _
 rw[if_neg (show ¬(!true||!typeHasDict (.ref C))=true from bF7)];refine aA (wpAny_alloc ?_);have F:∀ a,h.objs.size<=a->h.get? a=none:=λa L=>by
  cases z:h.get? a with
  |none=>rfl
  |some o=>exact absurd (aI z) (cY.mpr L)
 have u:e≠h.objs.size:=λz=>by rw[z,F _ (aD _)]at c;cases c
 have i:=aO { cls:=.type "dict",data:=.dict #[] } c;have p:(h.push { cls:=.type "dict",data:=.dict #[] }).get? h.objs.size=some { cls:=.type "dict",data:=.dict #[] }:=aY _ rfl;refine aA (wpAny_update' i (aB ?_));have l:((h.push { cls:=.type "dict",data:=.dict #[] }).update e λo=>{ o with dict:=some h.objs.size }).get? e=some ⟨.ref C,some h.objs.size,.fields vs,#[]⟩:=Heap.get?_update_self _ i rfl
 have n:((h.push { cls:=.type "dict",data:=.dict #[] }).update e λo=>{ o with dict:=some h.objs.size }).get? h.objs.size=some { cls:=.type "dict",data:=.dict #[] }:=(Heap.get?_update_other _ _ u).trans p
 have k:∀ b o,b≠e->h.get? b=some o->((h.push { cls:=.type "dict",data:=.dict #[] }).update e λo=>{ o with dict:=some h.objs.size }).get? b=some o:=λb o r z=>(Heap.get?_update_other _ _ (Ne.symm r)).trans (aO _ z)
 unfold Builtin.ObjectAttr.storeInDict Builtin.ObjectAttr.newKeyGuard;refine aA (aB (aA (wpAny_nsSet1 (m:=λ_=>none) (Heap.Ns1.of_empty ?_) λf x s=>?_)))
 .exact⟨_,#[],0,n,rfl,by simp[StrKeys],by intro;rfl⟩
 .obtain⟨o,es,O,H,o2,o3⟩:=Heap.Ns1.count (ns:=[name]) x (λy D=>by
   by_cases z:y=name
   .simp[z]
   .rw[if_neg z]at D;exact absurd rfl D)
  refine aA (wpAny_lookBehind H ?_ (aB (J f _ ?_ x λb o r z=>?_)))
  .rw[o2]
   show(if es.size > sizeLine+1 then some "dict:memory" else none)=none
   rw[if_neg (by unfold sizeLine;simp at o3;omega)]
  .exact(s.2 e u).trans l
  .exact(s.2 b λy=>by rw[y,F _ (aD _)]at z;cases z).trans (k b o r z)
variable{K:fG7}
theorem Ur{P:Heap}{x:vL}(T:OwnTail P bmB bm)(h:bmB.contains x=true):bm.contains x=true:=by
 induction T with
 |base=>exact h
 |own _ _ _ _ a=>rw[eE,a,dF]
theorem ZbH{M:Model}{o:Obj}{c:vL}{Q:Unit->sH7->Prop}(a:StoreFacts B bmB sa owner)(T:OwnTail h bmB bm)(l:h.get? C=some (excClassObj nm q C N bs bm true sn sub ab col dd k0 k1 k2 k3 k5 newId))(j:h.get? e=some o)(k:o.cls=.ref C)(f:Q () ⟨h,g,d,t,os⟩) :
  wpAny M A (checkBuiltinCall sa { pos:=[.ref e,c,v] }) Q E ⟨h,g,d,t,os⟩:=by
 have b:=a.args (.ref e) c v;unfold checkBuiltinCall;rw[a.kind,a.split];simp only;unfold isInstance typeOf;refine aA (aA (aA (wpAny_loadPart_at j (aB ?_))));rw[k];refine wpAny_isSubtype_exc l ?_;rw[show(Value.ref C :: bm).contains (.type owner)=true by rw[eE,Ur T a.hasOwner,dF]]
 rw[if_neg (by decide)]
 unfold argsOk at b;cases z:Manifest.signature? sa with
 |none=>exact aB f
 |some i=>
  rw[z]at b;exact wpAny_of_eq b f
theorem Zc3{R:Result->sH7->Prop}(c:StoreFacts B bmB sa owner)(T:OwnTail h bmB bm)(j:h.get? C=some (excClassObj nm q C N bs bm true sn sub ab col dd k0 k1 k2 k3 k5 newId))(l:W.Looks (model prog w) h (typeLookup (.ref C) name) none)(i:h.get? e=some { cls:=.ref C,data:=.fields vs })(k:∀ a f,a.get? e=some ⟨.ref C,some h.objs.size,.fields vs,#[]⟩->a.Ns1 h.objs.size (λy=>if y=name then some v else none)->(∀ b o,b≠e->h.get? b=some o->a.get? b=some o)->R (.ok (.ret .none)) ⟨a,g,d,f,os⟩) :
  codeAny (model prog w) A (Code.call (.builtin sa) { pos:=[.ref e,.str name tk,v] }) R ⟨h,g,d,t,os⟩:=
 codeAny_call_builtin c.slot.plain c.entry (ZbH c T j i rfl (Zc5 c T j l i k))
theorem Jg{Q:Unit->sH7->Prop}(i:K.In h)(n:StoreFacts B bmB "object.__setattr__" owner)(T:OwnTail h bmB bm)(m:h.get? C=some (excClassObj nm q C N bs bm true sn sub ab col dd k0 k1 k2 k3 k5 newId))(j:W.findIn K (.ref C) "__setattr__"=some (some (.builtin "object.__setattr__")))(l:W.findIn K (.ref C) name=some none)(f:h.get? e=some { cls:=.ref C,data:=.fields vs })(k:∀ a c,a.get? e=some ⟨.ref C,some h.objs.size,.fields vs,#[]⟩->a.Ns1 h.objs.size (λy=>if y=name then some v else none)->(∀ b o,b≠e->h.get? b=some o->a.get? b=some o)->Q () ⟨a,g,d,c,os⟩) :
  wpAny (model prog w) A (setAttr (.ref e) name v) Q E ⟨h,g,d,t,os⟩:=
 W.set_plain (od:=none) i ⟨f,rfl,rfl,trivial⟩ j (Zc3 n T m (W.looks_findIn i l) f k)
def fX(C e a:Ad):Heap->Prop:=λh=>∃ sl vs,h.get? e=some ⟨.ref C,some a,.fields vs,sl⟩/\vs.size=6
variable{w:World}{dx:Ad}
theorem Zds{P:Program}{H:Hp}{C e:Ad}(x:fX C e dx h):ObjOk P w H h e (.ext (fX C e dx)):=
 ⟨x,let ⟨_,_,q,_⟩:=x;⟨_,q⟩,λ_ _ ⟨sl,vs,q,z⟩ k=>⟨sl,vs,k _ q,z⟩⟩
theorem Xo.f{e C:Ad}{t:Ot Ad}(x:Xo h e C dx t):fX C e dx h:=let ⟨sl,vs,q,z,_⟩:=x.ob;⟨sl,vs,q,z⟩
noncomputable def CX1(P:Program)(w:World):CXT:=λb H s E e c=>∃ (ea C dx:Ad) (t:Ot Ad) (H':Hp),e=.ref ea/\(c.os=s.os/\AllBare c.gens/\Un (frs b) [] H H' s.heap c.heap/\HOk P w H' c.heap) /\
 (Xo c.heap ea C dx t/\H' ea=some (.ext (fX C ea dx))/\s.heap.objs.size<=ea/\∀ a,t=some a->H' a=none/\s.heap.objs.size<=a)/\E (.ref C) (some dx) H'
def XS(X:Cx)(pQ:Li (Ad×Obj))(O:St)(E:XK)(e:vL)(b:sH7):Prop:=∃ (ea C dx:Ad) (t:Ot Ad) (H':Hp),e=.ref ea/\Inv X pQ O H' b /\
 (Xo b.heap ea C dx t/\H' ea=some (.ext (fX C ea dx))/\X.s₀.heap.objs.size<=ea/\∀ a,t=some a->H' a=none/\X.s₀.heap.objs.size<=a/\a≠X.env.locals)/\E (.ref C) (some dx) H'
variable{mg:Str->Ot vL}
variable{X:Cx}{pQ:Li (Ad×Obj)}{O:St}{H H':Hp}{s':sH7}
section
variable{E:XK}{e:vL}
theorem Zdv{P:Program}{d:Heap}{C e:Ad}(ok:HOk P w H h)(f:H e=some (.ext (fX C e dx)))(x:fX C e dx d)(k:∀ b o u,b≠e->H b=some u->h.get? b=some o->d.get? b=some o):HOk P w H d:=λb u q=>by
 by_cases z:b=e
 .subst z
  rw[f]at q;cases q;exact Zds x
 .exact(ok b u q).stay (λc v hc a=>by
   rcases hc with hc|hc
   .rw[hc]at a ⊢;exact k b v u z q a
   .exact k c v _ (λy=>by rw[y,f]at hc;cases hc) hc a) (λ_ z=>z) λ_ _ z=>z
theorem Ut{P:Program}{K:fG7}{N:Li Str}{d:Str}{scope:Scope}{f:Ad}{M:vL}{A:Around}{outer:Li Env}(h:XS (cxOf (CX1 P w) P w K mg base N d scope f M A outer s H E) pQ O E e s'):(cxOf (CX1 P w) P w K mg base N d scope f M A outer s H E).xe e s':=by
 obtain⟨r,C,dx,t,H',rfl,I,⟨x,J,B,F⟩,q⟩:=h;refine Zcf (base:=base) (outer:=outer) (L:=s.heap.objs.size) I.ok.frames I.stack rfl x λT a G D k=>?_
 have i:∀ b o,s.heap.get? b=some o->b≠r/\(∀ a,t=some a->b≠a)/\b≠s.heap.objs.size:=λb o c=>by
  have:=aI c;exact⟨λz=>absurd (aS this B) (z ▸ bL _),λa n z=>absurd (aS this (F a n).2.1) (z ▸ bL _),aW this⟩
 have bs:Un (frs outer) [] H H' s.heap s'.heap:=I.base;have Q:∀ b o,s'.heap.get? b=some o->b≠r->H' b≠none->T.get? b=some o:=λb o c S g=>(k b o c S (λa n z=>g (z ▸ (F a n).1))).1 λz=>g (I.stkFree b z)
 refine⟨r,C,dx,some a,H',rfl,⟨I.os,I.bare,⟨λb o c g m _=>?_,λb o c g m _=>?_,bs.free,λb o c _=>?_,bs.tups,bs.frzs,bs.tbls⟩,Zdv I.hok J D.f λb o u g R c=>Q b o c g (by rw[R];exact λz=>nomatch z)⟩,⟨D,J,B,λb c=>?_⟩,q⟩
 .obtain⟨f1,l,p⟩:=i b o c
  refine(k b o (bs.keep b o c g m (by simp)) f1 l).1 λz=>?_
  rcases aH.mp (show b∈s.heap.objs.size :: frs outer from z) with z|z
  .exact p z
  .exact m z
 .obtain⟨f1,l,p⟩:=i b o c
  obtain⟨sl,y⟩:=bs.slot b o c g m (by simp)
  obtain⟨j,v⟩:=(k b _ y f1 l).2;exact⟨j,v⟩
 .obtain⟨f1,l,p⟩:=i b o c
  obtain⟨o',y⟩:=bs.there b o c (by simp)
  obtain⟨j,v⟩:=(k b _ y f1 l).2;exact⟨_,v⟩
 .cases c
  exact⟨I.hok.fresh G,aP I.sz G⟩
theorem ZeP(h:∀ pQ O e s',XS X pQ O E e s'->X.xe e s'):Passes (CX1 X.prog X.w) X E:=λpQ O H s e s' I i=>by
 obtain⟨j,C,dx,t,H',rfl,⟨f,k,un,ok⟩,⟨x,g,d,b⟩,q⟩:=i;have lt:=I.lt;refine h pQ O _ s' ⟨j,C,dx,t,H',rfl,I.call' f un ok k (λ_ z=>absurd z (by simp)),⟨x,g,aP I.sz d,λa c=>⟨(b a c).1,aP I.sz (b a c).2,λz=>?_⟩⟩,q⟩
 .exact absurd (aS lt (b a c).2) (z ▸ bL _)
end
section
variable{x:Sem vL}{Q:Flow->sH7->Prop}
theorem Zcz(m:bm.contains (.type "BaseException")=true)(l:A.handled=none)(h:wpAny M A x (λv a=>∃ e b vs,v=.ref e/\a.heap.get? C=some (excClassObj nm q C N bs bm hdct sn sub ab col dd k0 k1 k2 k3 k5 newId)/\a.heap.get? e=some b/\b.cls=.ref C/\b.data=.fields vs/\vs[1]?=some .none/\E (.ref e) a) E s) :
  wpAny M A (raiseStmt env (some x) none) Q E s:=by
 have i:(Value.ref C :: bm).contains (.type "BaseException")=true:=by rw[eE,m,dF]
 unfold raiseStmt;refine aA (aX h (λv a ⟨e,b,vs,ev,k,c,j,f,o,n⟩=>?_) λ_ _ z=>z)
 subst ev;obtain⟨w,g,d,t,u⟩:=a;refine aA (aB (aA (wpAny_holding ?_)));obtain⟨r,y,p,sl⟩:=b;have j:r=.ref C:=j;have f:p=.fields vs:=f;subst j;subst f;unfold excFromValue isExcClass isType loadHead;refine aA (aA (aA (wpAny_loadPart_at c (aB (wpAny_ite_false rfl (aB (wpAny_ite_false rfl ?_)))))));unfold isInstance typeOf
 refine aA (aA (aA (wpAny_loadPart_at c (aB (wpAny_isSubtype_exc k ?_)))));rw[i,if_pos rfl];refine aB (aA (aA (wpAny_loadPart_at c (aB (wpAny_ite_false rfl ?_)))));unfold raisedInstance typeOf;refine aA (aA (aA (wpAny_loadPart_at c (aB (aA (aA (wpAny_loadPart_at k (aB (wpAny_ite_true rfl ?_)))))))))
 refine aB ?_;unfold setFlight;refine aA (aA (wpAny_field c rfl o (wpAny_ite_false rfl (aB ?_))));exact wpAny_raiseNew_none l n
end
structure XCls(K:fG7)(C fI:Addr)(f:Str):Prop where
 cl:∃ nm q N bs bm sn sub ab col dd k0 k1 k2 k3 k5 newId B initId bmB owner,K.lookup C=some (excClassObj nm q C N bs bm true sn sub ab col dd k0 k1 k2 k3 k5 newId)/\(∀ h:Heap,K.In h->OwnTail h bmB bm)/\ExcBaseFacts B newId initId bmB/\StoreFacts B bmB "object.__setattr__" owner
 sa:W.findIn K (.ref C) "__setattr__"=some (some (.builtin "object.__setattr__"))
 na:W.findIn K (.ref C) f=some none
 ini:W.findIn K (.ref C) "__init__"=some (some (.ref fI))
 fn:∃ o,K.lookup fI=some o/\o.cls=.type "function"
 kp:W.keepIn K (.ref C)=true
def f0(C e:Ad)(vs:Array vL):Heap->Prop:=λh=>h.get? e=some { cls:=.ref C,data:=.fields vs }
theorem Zgh{P:Program}{H:Hp}{C e:Ad}(x:f0 C e vs h):ObjOk P w H h e (.ext (f0 C e vs)):=⟨x,⟨_,x⟩,λ_ _ q k=>k _ q⟩
def New(H:Hp)(C e:Ad):Prop:=∃ vs,vs.size=6/\vs[1]?=some Value.none/\H e=some (.ext (f0 C e vs))
variable{f:Str}{y:V}{u:vL}
variable{pos p:Pos}{ta:TE}{x:Str}{CX:CXT}{k:Nat}{fd:FuncData}{ps:Li Str}{E':XK}{arg:Expr}
section
def f1(C e dx:Ad):Heap->Prop:=λh=>Xo h e C dx none
theorem Zgi{P:Program}{C:Ad}(x:f1 C e dx h):ObjOk P w H h e (.ext (f1 C e dx)):=
 ⟨x,let ⟨_,_,q,_⟩:=x.ob;⟨_,q⟩,λ_ _ ⟨⟨sl,vs,q,z⟩,r⟩ k=>⟨⟨sl,vs,k _ q,z⟩,λ_ z=>nomatch z⟩⟩
noncomputable def ZZ(H:Hp)(C e dx:Ad)(f:Str)(y:V):Hp:=upd (upd H dx (.xd [(f,y)])) e (.ext (f1 C e dx))
theorem Um{Q:Unit->sH7->Prop}(c:XCls X.K C fI f)(I:Inv X pQ O H s)(n:New H C e)(ry:RelV y u)(h:∀ dx P,H dx=none->dx≠e->Inv X pQ O (ZZ H C e dx f y) P->Q () P) :
  wpAny (model X.prog X.w) A (setAttr (.ref e) f u) Q E s:=by
 obtain⟨vs,V,W,j⟩:=n;obtain⟨nm,q,N,bs,bm,sn,sub,ab,col,dd,k0,k1,k2,k3,k5,G,B,r,bmB,D,lk,T,F,SF⟩:=c.cl;have ob:f0 C e vs s.heap:=(show ObjOk X.prog X.w H s.heap e (.ext (f0 C e vs)) from I.hok e _ j).1;obtain⟨i,g,d,tk,os⟩:=s;have m:H i.objs.size=none:=I.hok.fresh (aD _);have ne:i.objs.size≠e:=λz=>by rw[z,j]at m;cases m
 refine Jg (K:=X.K) I.kIn SF (T _ I.kIn) (I.kIn _ _ lk) c.sa c.na ob λR Z S e2 k=>h i.objs.size _ m ne ?_
 have p:∀ b o,b≠e->i.get? b=some o->R.get? b=some o:=k;have un:Un X.fs [] H (ZZ H C e i.objs.size f y) i R:=by
  have Y:∀ b,H b=none->b < i.objs.size->ZZ H C e i.objs.size f y b=none:=λb a lt=>by
   unfold ZZ;rw[upd_ne (λz=>by rw[z,j]at a;cases a),upd_ne (aW lt)];exact a
  have x:∀ b v,H b=some v->b≠e->ZZ H C e i.objs.size f y b=some v:=λb v a l=>by
   unfold ZZ;rw[upd_ne l,upd_ne (ne_of_none a m)];exact a
  have t:∀ b v,H b=some v->(∀ U,v≠.ext U)->b≠e:=λb v a hv z=>by
   rw[z,j]at a;cases a;exact hv _ rfl
  have M:∀ b o,i.get? b=some o->H b=none->b≠e:=λb o _ a z=>by rw[z,j]at a;cases a
  refine⟨λb o a l _ _=>p b o (M b o a l) a,λb o a l _ _=>⟨o.slots,p b o (M b o a l) a⟩,λb o a l _=>Y b l (aI a),λb o a _=>?_,λb xs a=>x b _ a (t b _ a λ_ z=>nomatch z),λb o u a=>x b _ a (t b _ a λ_ z=>nomatch z),λb ps a=>⟨#[],by rw[x b _ a (t b _ a λ_ z=>nomatch z)];simp⟩⟩
  by_cases z:b=e
  .rw[z];exact⟨_,S⟩
  .exact⟨o,p b o z a⟩
 refine I.un un λb v a=>?_
 by_cases z:b=e
 .subst z
  unfold ZZ at a;rw[upd_same]at a;cases a;exact Zgi ⟨⟨#[],vs,S,V,W⟩,λ_ z=>nomatch z⟩
 .by_cases L:b=i.objs.size
  .subst L
   unfold ZZ at a;rw[upd_ne z,upd_same]at a;cases a;refine⟨_,e2,λg=>?_⟩
   by_cases q:g=f
   .rw[if_pos q,q]
    show RelO (List.lookup f [(f,y)]) (some u);rw[bJ,beq_self_eq_true];exact ry
   .rw[if_neg q]
    show RelO (List.lookup g [(f,y)]) none;rw[bJ,bW.mpr q];exact True.intro
  .have J:H b=some v:=by unfold ZZ at a;rw[upd_ne z,upd_ne L]at a;exact a
   refine(I.hok b v J).stay (λc o hc q=>p c o ?_ q) (λc q=>?_) λc xs q=>?_
   .rcases hc with hc|hc
    .rw[hc];exact z
    .exact λy=>by rw[y,j]at hc;cases hc
   .unfold ZZ
    rw[upd_ne (λy=>by rw[y,j]at q;cases q),upd_ne (ne_of_none q m)];exact q
   .unfold ZZ
    rw[upd_ne (λy=>by rw[y,j]at q;cases q),upd_ne (ne_of_none q m)];exact q
variable{o value:Expr}{pos':Pos}{tv:TE}{t:TA}
def sX(C:Ad)(f:Str)(ta tv:TE):TS:=λD O H=>tv O H λy b=>ta O b λx a=>∃ e,x=.ref e/\New a C e/\∀ dx,a dx=none->dx≠e->D.nx O (ZZ a C e dx f y)
theorem Zhq(c:XCls X.K C fI f)(l:PE X o ta)(j:PE X value tv)(k:swapsWith value (some (.Attribute o f pos')) pos.line X.env=pure false):PS X (.Assign [.Attribute o f pos'] value pos) (sX C f ta tv):=by
 intro pQ s O H D I h;refine plainObj_wpAny_Assign_Attribute (thn (j pQ s O H _ I h) λu a ⟨y,w,v,b,q⟩=>thn (l pQ a O w _ v q) λi A ⟨x,B,t,d,e,ex,n,g⟩=>?_) k
 subst ex;obtain rfl:i=Value.ref e:=d;exact Um c t n b λdx z p m r=>⟨O,_,r,g dx p m⟩
noncomputable def spI(C:Ad)(f:Str):Sp:=λvs H Q _=>∃ e y,vs=[.ref e,y]/\New H C e/\∀ dx,H dx=none->dx≠e->Q .non (ZZ H C e dx f y)
theorem Zew{P:Program}{K:fG7}{d b j g:Str}{a:Arguments}{scope:Scope}{B kV m t l ct oc:vL}{D G:Ot Ad}{p:Array (Ot vL)}{z x v u:Pos}(c:XCls K C fI f)(I:K.lookup fI=some ⟨oc,G,.func (W.fnOf d b a [.Assign [.Attribute (.Name j z) f x] (.Name g v) u] scope B kV m t D l ct),p⟩)(r:W.codeIn K l b=true)(S:FnScope [j,g] [j,g] scope)(v0:Vis scope j)(F:Vis scope g)(O:(j==("__debug__":Str))=false)(N:(g==("__debug__":Str))=false)(M:(j==("__classdict__":Str))=false)(g1:(g==("__classdict__":Str))=false) :
  FnOk P w K mg base CX (k+1) fI (W.fnOf d b a [.Assign [.Attribute (.Name j z) f x] (.Name g v) u] scope B kV m t D l ct) [j,g] (spI C f):=by
 refine fn_of I r S (λvs H Q E ⟨e,y,h,_⟩=>by rw[h];rfl) λA o s H vs Q E R ⟨e,y,h,n,q⟩=>?_
 subst h;refine⟨_,pss_cons (Zhq c (pe_var (i:=0) rfl v0 O M) (pe_var (i:=1) rfl F N g1) (by rfl)) pss_nil,?_⟩
 exact⟨y,rfl,.ref e,rfl,e,rfl,n,λdx L J=>q dx L J⟩
theorem Jj{a:HO}:ZZ (upd H e a) C e dx f y=ZZ H C e dx f y:=by
 funext b
 unfold ZZ upd;by_cases z:b=e
 .simp[z]
 .simp[z]
end
section
variable{rpos:Pos}{E1:XK}{t:TA}
theorem Jf{Q:VK}(c:XCls X.K C fI f)(F:FnOk X.prog X.w X.K X.mg X.base CX k fI fd ps (spI C f))(U:Room (k+1) X.A)(hb:Binds X.K fd ps [])(S:Passes CX X E')(I:Inv X pQ O H s)(E:RelV y u)(h:∀ e dx,X.s₀.heap.objs.size<=e->H e=none->H dx=none->dx≠e->Q (.ref e) (ZZ H C e dx f y)):wpAny (model X.prog X.w) X.A (call (.ref C) [u]) (EP X pQ O Q) X.xe s:=by
 obtain⟨nm,q,N,bs,bm,sn,sub,ab,col,dd,k0,k1,k2,k3,k5,l,B,b,bmB,j,P,T,FB,SF⟩:=c.cl;obtain⟨oI,R,cI⟩:=c.fn;obtain⟨hp,g,d,n,M⟩:=s;refine Zef FB (T _ I.kIn) (I.kIn _ _ P) (W.looks_findIn I.kIn c.ini) (I.kIn _ _ R) cI (show 1<=sizeLine by decide) λh' e m t=>?_
 obtain⟨o,te,_,_⟩:=t.there;have i:Inv X pQ O (upd H e (.ext (f0 C e #[.ref o,.none,.none,.none,.bool false,.none]))) ⟨h',g,d,n,M⟩:=I.laid (t':=n) t.keeps m (Zgh te);have Y:H e=none:=I.hok.fresh m;have p:spI C f [.ref e,y] (upd H e (.ext (f0 C e #[.ref o,.none,.none,.none,.bool false,.none]))) (λv H2=>v=.non/\Q (.ref e) H2) E':=
  ⟨e,y,rfl,⟨_,rfl,rfl,upd_same⟩,λdx z x=>⟨rfl,by rw[Jj];exact h e dx (aP I.sz m) Y (by rw[upd_ne x]at z;exact z) x⟩⟩
 have J:Vals [V.ref e,y] [Value.ref e,u]:=.cons rfl (.cons E .nil);have Z:([Value.ref e,u]++[]).length=ps.length:=by
  have:=F.len _ _ _ _ p;exact this
 refine wpAny_call (codeAny_mono (F.run _ X.stack _ _ ⟨[Value.ref e,u],[]⟩ [Value.ref e,u] _ _ E' (U.make C [u] []) (i.env0.make C [u] []) (hb _ [Value.ref e,u] i.kIn Z) J p) λr D a=>?_)
 cases r with
 |error e=>exact S pQ O _ _ e D i a
 |ok fl=>
  cases fl with
  |ret u=>
   obtain⟨v,H',I3,G,ev,L⟩:=i.after a;subst ev;exact⟨G,⟨V.ref e,H',I3,rfl,L⟩⟩
  |next=>exact False.elim a
  |brk=>exact False.elim a
  |cont=>exact False.elim a
noncomputable def W1(H:Hp)(C e dx:Ad)(f:Str)(y:V):Hp:=upd (upd H dx (.xd [(f,y)])) e (.ext (fX C e dx))
def ZfE(C:Ad)(f:Str)(E:XK)(t:TA):TS:=λ_ O H=>t O H λvs a=>∃ y,vs=[y]/\∀ e dx,a e=none->a dx=none->dx≠e->E (.ref C) (some dx) (W1 a C e dx f y)
theorem ZaW(c:XCls X.K C fI f)(F:FnOk X.prog X.w X.K X.mg X.base CX k fI fd ps (spI C f))(hr:Room (k+1) X.A)(hh:X.A.handled=none)(hb:Binds X.K fd ps [])(hx:Passes CX X E')(hg:Gl X x)(hm:X.mg x=some (.ref C))(ha:PA X [arg] t)(J:∀ pQ O e S,XS X pQ O E1 e S->X.xe e S)(L:(x==("__debug__":Str))=false:=by decide)(he:starEach [arg] X.env=(false,eval arg X.env) :: starEach [] X.env:=by rfl):PS X (.Raise (some (.Call (.Name x p) [arg] [] pos)) none rpos) (ZfE C f E1 t):=by
 intro pQ s O H D I h;obtain⟨nm,q,N,bs,bm,sn,sub,ab,col,dd,k0,k1,k2,k3,k5,newId,B,m,bmB,G,lk,T,FB,SF⟩:=c.cl;rw[arm_exec_Raise];refine aA (wpAny_standAt ?_);refine Zcz (nm:=nm) (q:=q) (C:=C) (N:=N) (bs:=bs) (bm:=bm) (hdct:=true) (sn:=sn) (sub:=sub) (ab:=ab) (col:=col) (dd:=dd) (k0:=k0) (k1:=k1) (k2:=k2) (k3:=k3) (k5:=k5) (newId:=newId) (Ur (T _ I.kIn) FB.hasBase) hh (aA ?_)
 have ev:wpAny (model X.prog X.w) X.A (eval (.Call (.Name x p) [arg] [] pos) X.env) (EP X pQ O λv H'=>∃ e dx y a,v=.ref e/\X.s₀.heap.objs.size<=e/\a e=none/\a dx=none/\dx≠e/\H'=ZZ a C e dx f y/\E1 (.ref C) (some dx) (W1 a C e dx f y)) X.xe s:=by
  refine wpAny_Call_Name_kw (ld_glob I hg hm ?_ L);refine W.callWith_K (h₀:=X.base) I.ok.mod.kin c.kp (thn (ha pos pQ s O H _ I h) λus j ⟨vs,a,i,r,y,ey,q⟩=>⟨i.kIn,?_⟩) he rfl
  subst ey;obtain⟨u,rfl,Z⟩:=Vals.one r;exact Jf c F hr hb hx i Z λe dx R Q P M=>⟨e,dx,y,a,rfl,R,Q,P,M,rfl,q e dx Q P M⟩
 refine thn ev λv j ⟨w,H',i,E,e,dx,y,a,ev,R,Q,P,M,V,q⟩=>aA (wpAny_standAt (aB ?_))
 subst ev;obtain rfl:v=Value.ref e:=E;have l:H' e=some (.ext (f1 C e dx)):=by rw[V];exact upd_same
 have n:Xo j.heap e C dx none:=(show ObjOk X.prog X.w H' j.heap e (.ext (f1 C e dx)) from i.hok e _ l).1;obtain⟨sl,vs,U,q2,q3⟩:=n.ob;refine⟨e,_,vs,rfl,i.kIn _ _ lk,U,rfl,rfl,q3,J pQ O _ j ⟨e,C,dx,none,W1 a C e dx f y,rfl,?_,⟨n,upd_same,R,λ_ z=>nomatch z⟩,q⟩⟩
 have ex:W1 a C e dx f y=upd H' e (.ext (fX C e dx)):=by
  rw[V];unfold W1 ZZ;rw[upd_upd]
 rw[ex];obtain⟨hp,g,d,Y,os⟩:=j;exact i.write (x:=e) (e:=e) (h':=hp) (t':=Y) (by rw[l];exact True.intro) (.inl rfl) (λb o _ z=>z) ⟨_,U⟩ (Zds n.f)
end
variable{n:Str}{i:Nat}
section
variable{ea:Ad}{t:Ot Ad}{h2 h3:Heap}{fs:Li Ad}
theorem ZdP(u:Un fs [] H H' h h2)(k:Kx fs ea t h2 h3)(n:h.objs.size<=ea)(m:∀ a,t=some a->h.objs.size<=a):Un fs [] H H' h h3:=by
 have d:∀ b o,h.get? b=some o->b≠ea/\∀ a,t=some a->b≠a:=λb o c=>by
  have:=aI c;exact⟨λz=>absurd (aS this n) (z ▸ bL _),λa p z=>absurd (aS this (m a p)) (z ▸ bL _)⟩
 refine⟨λb o c i g _=>?_,λb o c i g _=>?_,u.free,λb o c _=>?_,u.tups,u.frzs,u.tbls⟩
 .obtain⟨f1,f⟩:=d b o c
  exact(k b o (u.keep b o c i g (by simp)) f1 f).1 g
 .obtain⟨f1,f⟩:=d b o c
  obtain⟨sl,l⟩:=u.slot b o c i g (by simp)
  obtain⟨e,j⟩:=(k b _ l f1 f).2;exact⟨e,j⟩
 .obtain⟨f1,f⟩:=d b o c
  obtain⟨o',l⟩:=u.there b o c (by simp)
  obtain⟨e,j⟩:=(k b _ l f1 f).2;exact⟨_,j⟩
theorem JX{P:Program}(ok:HOk P w H' h2)(g:H' ea=some (.ext (fX C ea dx)))(x:fX C ea dx h3)(k:Kx fs ea t h2 h3)(e:∀ a,t=some a->H' a=none)(d:∀ b∈fs,H' b=none):HOk P w H' h3:=
 Zdv ok g x λb o u h c f=>(k b o f h λa i z=>by rw[z,e a i]at c;cases c).1 λz=>by rw[d b z]at c;cases c
theorem JS{a:Ad}{Q:Unit->sH7->Prop}(x:Xo s.heap ea C dx (some a))(q:∀ d,Xo d ea C dx (some a)->Kx [] ea (some a) s.heap d->Q () { s with heap:=d }):wpAny M A (setFlight (.ref ea) none) Q E s:=by
 obtain⟨sl,vs,j,l,i⟩:=x.ob;obtain⟨f,o,m,h,g,e,p⟩:=x.tb a rfl;refine wpAny_setFlight_none j rfl i h g e (q _ ⟨⟨sl,vs,(Heap.get?_update_other _ _ f).trans j,l,i⟩,λb c=>?_⟩ λb o' c n k=>?_)
 .cases c
  exact⟨f,_,_,Wf h g,rfl,by simp;exact e,by rw[eF];simp[e]⟩
 .have:=(Heap.get?_update_other s.heap (Obj.mapFields λx=>x.setIfInBounds 3 .none) (Ne.symm (k a rfl))).trans c
  exact⟨λ_=>this,o'.slots,this⟩
noncomputable def Xm(X:Cx)(e:vL):Cx:={ X with A:=X.A.mark (some e),calm:=false }
theorem Inv.marked{e:vL}(I:Inv X pQ O H s):Inv (Xm X e) pQ O H s:=
 ⟨⟨I.ok.mod,I.ok.kind,I.ok.glob,I.ok.blt,I.ok.above,I.ok.inj,I.ok.has,I.ok.cab,λz=>(nomatch z),I.ok.frames,I.ok.stk,I.ok.exf,I.ok.bs,I.ok.bsz,I.ok.noex,I.ok.exfs,I.ok.funs,I.ok.frf⟩,I.os,I.bare,I.base,I.loc,I.cell,I.free,I.freeC,I.pin,I.hok,I.len⟩
theorem Inv.unmarked{e:vL}(o:X.Ok)(I:Inv (Xm X e) pQ O H s):Inv X pQ O H s:=
 ⟨o,I.os,I.bare,I.base,I.loc,I.cell,I.free,I.freeC,I.pin,I.hok,I.len⟩
theorem Zek{Q:Unit->sH7->Prop}(I:Inv X pQ O H s)(hN:X.N.Nodup)(J:X.N[i]?=some x)(F:X.env.scope.names.lookup x=some .local){v:V}(C:O[i]?=some (some v))(q:∀ s',Inv X pQ (O.set i none) H s'->Q () s'):wpAny M A (unbindName X.env x) Q E s:=by
 obtain⟨m,S,T⟩:=id I.loc;have r:(X.env.scope.kind==.class||(X.env.scope.kind==.module&&X.env.locals != X.env.globals))=false:=by rw[I.ok.kind];rfl
 have l:i < O.length:=by rw[I.len];exact(bB.mp J).1
 obtain⟨u,ru,lo⟩:=T i x v J C (.inl F);have mx:m x=some u:=by
  rcases lo with⟨_,q⟩|⟨q,_⟩
  .exact q
  .have e:X.env.kindOf x=some .local:=F
   rcases q with q|q<;>(rw[e]at q;cases q)
 obtain⟨oL,_,_,hoL,_⟩:=id S;refine wpAny_unbindName_local F S mx r λh' w D d=>q _ ?_
 have a:HOk X.prog X.w H h':=λb ob e=>by
  refine(I.hok b ob e).stay (λc L hc q=>(d.2 c ?_).trans q) (λ_ q=>q) λ_ _ q=>q
  rintro rfl
  have U:=I.free;rcases hc with hc|hc
  .rw[<-hc,U]at e;cases e
  .rw[U]at hc;cases hc
 refine⟨I.ok,I.os,I.bare,⟨λb o e n K k=>?_,λb o e n K k=>?_,I.base.free,λb o e k=>?_,I.base.tups,I.base.frzs,I.base.tbls⟩,⟨_,D,λj y W f z e3=>?_⟩,λy c e=>?_,I.free,I.freeC,λp hp=>?_,a,by simpa using I.len⟩
 .exact(d.2 b (aW (aS (aI e) I.ok.above))).trans (I.base.keep b o e n K k)
 .obtain⟨sl,f⟩:=I.base.slot b o e n K k
  exact⟨sl,(d.2 b (aW (aS (aI e) I.ok.above))).trans f⟩
 .obtain⟨o',f⟩:=I.base.there b o e k
  exact⟨o',(d.2 b (aW (aS (aI e) I.ok.above))).trans f⟩
 .by_cases G:j=i
  .subst G
   rw[cG l]at z;cases z
  .rw[bK (Ne.symm G)]at z
   obtain⟨P,Y,lk⟩:=T j y W f z e3;refine⟨P,Y,?_⟩;rcases lk with⟨B,t⟩|⟨B,c,t,k3⟩
   .refine .inl ⟨B,?_⟩
    show(if y=x then w else m y)=some P
    have ny:y≠x:=λe=>G (nodup_ix hN f (e ▸ J))
    rw[if_neg ny];exact t
   .exact .inr ⟨B,c,t,by
     obtain⟨o,h,g⟩:=k3;exact⟨o,(d.2 c (I.cne y c t)).trans h,g⟩⟩
 .obtain⟨L,o,h,g⟩:=I.cell y c e
  exact⟨L,o,(d.2 c (I.cne y c e)).trans h,g⟩
 .obtain⟨h,g,R,Z⟩:=I.pin p hp
  exact⟨(d.2 p.1 R).trans h,g,R,Z⟩
end
section
variable{es:Li Expr}{t:TA}
theorem PA.nox(h:PA X.nox es t):PA X es t:=λp pQ s O H Q I a=>
 aX (h p pQ s O H Q (I.wish _) a) (λ_ _ ⟨v,H',b,r,q⟩=>⟨v,H',b.unwish,r,q⟩) λ_ _ z=>False.elim z
end
section
variable{fb C0 Ch:Ad}{g hx:Str}{a:Expr}{as:Li Expr}{t:TA}{ni:Nat}{sp:Sp}{ds:Li vL}{dvs:Li V}{gp cp ep hp hq:Pos}{b0:Stmt}{suite:Li Stmt}{ts:TS}
end
section
variable{ox:Obj}{od:Ot Obj}{fill expr:Bool}
theorem Zgm{Q:vL->sH7->Prop}(b:K.In s.heap)(J:W.InstAt s.heap e ox C od)(j:ExcAttrBase B bmB)(h:W.findIn K (.ref C) "__getattribute__"=some (some (.builtin "BaseException.__getattribute__")))(f:W.findIn K (.ref C) "__getattr__"=some none)(i:codeAny (model prog w) A (Code.call (.builtin "BaseException.__getattribute__") { pos:=[.ref e,.str name tk] }) (λr a=>match r with
   |.ok (.ret v)=>W.handedIn v=true/\Q v a
   |_=>False) s):wpAny (model prog w) A (getAttrBy (.ref e) (.str name tk) fill expr) Q E s:=by
 obtain⟨l,g,d,k,os⟩:=s;unfold getAttrBy typeOf;refine wpAny_holding (aA (aA (wpAny_loadPart_at J.at_ (aB ?_))));rw[J.cls];refine aA (W.looks_findIn b h _ _ _ _ (λ_ _ z=>z) ?_)
 refine wpAny_ite_false (by rfl) ?_
 unfold getAttrByItsOwn hookBefore;refine aA (wpAny_ite_true (by rfl) (W.looks_findIn b f _ _ _ _ (λ_ _ z=>z) ?_))
 refine aA (wpAny_attempt (wpAny_holding ?_));unfold callGetattribute;have c:(expr&&onTheHeap (.builtin "BaseException.__getattribute__"))=false:=by cases expr<;>rfl
 rw[c,if_neg bF7];unfold boundAndCalled;refine aA (wpAny_of_eq (j.ga.bind (.ref e)) (wpAny_call (codeAny_mono i λr a q=>?_)))
 cases r with
 |error e=>exact q.elim
 |ok fl=>
  cases fl with
  |ret v=>exact W.handed_on q.1 q.2
  |next=>exact q.elim
  |brk=>exact q.elim
  |cont=>exact q.elim
theorem ZbT{R:Result->sH7->Prop}{r:Builtin.ObjectAttr.Found}(l:K.In h)(J:W.InstAt h e ox C od)(i:ExcAttrBase B bmB)(k:h.get? C=some (excClassObj nm q C N bs bm hdct sn sub ab col dd k0 k1 k2 k3 k5 newId))(T:OwnTailQ h bmB bm)(j:W.findObj K C od name=some r)(c:match r with
   |.value v=>R (.ok (.ret v)) ⟨h,g,d,t,os⟩
   |.bind f a=>wpAny (model prog w) A.in1 (call f [a,.ref e,.ref C]) (λv b=>R (.ok (.ret v)) b) (λe b=>R (.error e) b) ⟨h,g,d,t,os⟩
   |.missing=>False):codeAny (model prog w) A (Code.call (.builtin "BaseException.__getattribute__") { pos:=[.ref e,.str name tk] }) R ⟨h,g,d,t,os⟩:=by
 refine codeAny_call_builtin i.ga.plain F.entry_bexc_ga (wpAny_check_ga_own i k T J.at_ J.cls ?_);unfold Builtin.«object.__getattribute__» slotArgs
 refine aA (wpAny_ite_false (by rfl) (wpAny_ite_false (by rfl) (aB ?_)))
 unfold Builtin.ObjectAttr.attrName typeOf;refine aA (aB (aA (aA (wpAny_loadPart_at J.at_ (aB ?_)))));rw[J.cls];refine aA (W.looks_find l J j _ _ _ _ (λ_ _ z=>z) ?_)
 cases r with
 |value v=>exact aB c
 |bind f a=>
  unfold Builtin.ObjectAttr.bindTo;exact aA (wpAny_holding (aX c (λv b z=>aB z) λ_ _ z=>z))
 |missing=>exact c.elim
theorem ZbS{Q:vL->sH7->Prop}(a:K.In h)(J:W.InstAt h e ox C od)(b:ExcAttrBase B bmB)(l:h.get? C=some (excClassObj nm q C N bs bm hdct sn sub ab col dd k0 k1 k2 k3 k5 newId))(T:OwnTailQ h bmB bm)(j:W.findIn K (.ref C) "__getattribute__"=some (some (.builtin "BaseException.__getattribute__")))(i:W.findIn K (.ref C) "__getattr__"=some none)(k:W.findObj K C od name=some (.value v))(c:W.handedIn v=true)(f:Q v ⟨h,g,d,t+1,os⟩) :
  wpAny (model prog w) A (getAttr (.ref e) name expr) Q E ⟨h,g,d,t,os⟩:=by
 unfold getAttr mkText;exact aA (aA (wpAny_fresh' (aB (Zgm a J b j i (ZbT a J b l T k ⟨c,f⟩)))))
end
structure XGet(K:fG7)(C:Addr):Prop where
 cl:∃ nm q N bs bm sn sub ab col dd k0 k1 k2 k3 k5 newId B bmB,K.lookup C=some (excClassObj nm q C N bs bm true sn sub ab col dd k0 k1 k2 k3 k5 newId)/\(∀ h:Heap,K.In h->OwnTailQ h bmB bm)/\ExcAttrBase B bmB
 ga:W.findIn K (.ref C) "__getattribute__"=some (some (.builtin "BaseException.__getattribute__"))
 gn:W.findIn K (.ref C) "__getattr__"=some none
 gc:W.findIn K (.ref C) "__class__"=some (some (.builtin "object.__class__"))
 gs:W.specialIn K (.builtin "object.__class__") "__get__"=some (some (.builtin "getset_descriptor.__get__"))
 gt:W.takesIn K (.builtin "object.__class__")=some true
 gm:W.mroIn K C (.type "object")=some true
 gd:W.hasDictIn K C=true
variable{tp:Pos}{b:Bool}
section
variable{t:Str}{v:V}
def Ex(H:Hp)(C e:Ad)(fs:Li (Str×V)):Prop:=∃ dx,H e=some (.ext (fX C e dx))/\H dx=some (.xd fs)
theorem Ex.look{e:Ad}{fs:Li (Str×V)}{P:Program}(n:Ex H C e fs)(ok:HOk P w H h):∃ (ox a:Obj) (b:Str->Ot vL),W.InstAt h e ox C (some a)/\(∀ f,W.lookIn f a=some (b f))/\∀ f,RelO (fs.lookup f) (b f):=by
 obtain⟨dx,j,i⟩:=n;obtain⟨sl,vs,q,_⟩:=(show ObjOk P w H h e (.ext (fX C e dx)) from ok e _ j).1;obtain⟨b,c,r⟩:=(show ObjOk P w H h dx (.xd fs) from ok dx _ i);obtain⟨a,d,g⟩:=lookIn_ns c;exact⟨_,a,b,⟨q,rfl,rfl,d⟩,g,r⟩
def tXf(i:Nat)(C:Ad)(f:Str):TE:=λO H Q=>∃ e fs y,O[i]?=some (some (.ref e))/\Ex H C e fs/\fs.lookup f=some y/\Q y H
theorem ZgE(g:XGet X.K C)(m:W.findIn X.K (.ref C) f=some none)(hN:X.N[i]?=some x)(t:Vis X.env.scope x)(D:attributeBase (.Name x xp) f X.env (eval (.Name x xp) X.env)=eval (.Name x xp) X.env)(hd:(x==("__debug__":Str))=false:=by decide)(c:(x==("__classdict__":Str))=false:=by decide):PE X (.Attribute (.Name x xp) f pos) (tXf i C f):=by
 intro pQ s O H Q I ⟨e,fs,y,F,ex,E,q⟩
 obtain⟨nm,U,N,bs,bm,sn,sub,ab,M,dd,k0,k1,k2,k3,k5,b,B,P,p,T,R⟩:=g.cl;refine attr_of D (thn (pe_var (pos:=xp) hN t hd c pQ s O H (λz h=>z=.ref e/\h=H) I ⟨.ref e,F,rfl,rfl⟩) λu k ⟨z,h,a,l,G,L⟩=>?_)
 subst G;subst L;obtain rfl:u=Value.ref e:=l;obtain⟨V,Z,n,J,A,r⟩:=ex.look a.hok;obtain⟨u,w,j⟩:=RelO.some_of (v:=y) (o:=n f) (by rw[<-E];exact r f)
 obtain⟨hp,gg,d,S,Y⟩:=k;exact ZbS a.kIn J R (a.kIn _ _ p) (T _ a.kIn) g.ga g.gn (W.findObj_own g.gd m rfl (by rw[A,w])) (handed_of j) ⟨y,h,a.tok _,j,q⟩
end
section
variable{t:Str}{T:String}{xp:Pos}{tb:TE}
end
variable{P:Program}{mg:Str->Ot vL}{qual a m:Str}{params:Arguments}{scope:Scope}{dV kV doc pm cdv ct oc:vL}{an od:Ot Ad}{osl:Array (Ot vL)}{p1 p2 p3 p4:Pos}
section
variable{f:Ad}{p5 p6 p7 p8 p9 p10 p11:Pos}
def isG(sc:Scope)(x:Str):Prop:=sc.names.lookup x=some .globalImplicit
end
section
variable{t:Str}{e:Expr}{tt:TT}
def Sub(K:fG7)(mg:Str->Ot vL)(sc:Scope)(C:Ad)(t:Str)(b:Bool):Prop:=isG sc t/\(t==("__debug__":Str))=false/\∃ B,mg t=some (.ref B)/\W.kitOne K (.ref C) (.ref B)=some b
end
section
variable{f fw:Ad}{fdw:FuncData}{pw:Li Str}{wn fx c1 c3 c4 c5 c6 c7 c8:Str}{j1 j2 j3:Nat}
 {q1 q2 q3 q4 q5 q6 q7 q8 q9 q10 q11 q12 q13 q14 q15 q16 q17 q18 q19 q20 q21 q22 q23 q24 q25 q26 q27 q28 q29 q30 q31 q32 q33 q34 q35 q36 q37 q38 q39 q40 q41 q42 q43 q44 q45 q46 q47 q48 q49 q50 q51 q52 q53 q54 q55 q56:Pos}
end
end L2
namespace Dp
open PySem PySem.Spec PyProof.Rows L2
variable [ClsTab]
variable{P:Program}{w:World}{K:fG7}{mg:Str->Ot vL}{base:Heap}{G:Gs}{T:Nat->Ot FD}{n i:Nat}{f fI C:Ad}{N pn:Li Str}{name qual cn fx:Str}{params:Arguments}{scope:Scope}{dV kV doc pm cdv ct oc:vL}{an od:Ot Ad}{osl:Array (Ot vL)}
section
variable{fdI:FuncData}{psI:Li Str}
 {Z0 arg:Expr}{rest:Li Stmt}{p1 p2 p3 p4:Pos}{cc ca:CE}
end
variable [ClsTab]
variable{ib j1 j2:Nat}{fb:Ad}{fdb:FuncData}{pb:Li Str}{a en bn:Str}
section
variable{ft Ch:Ad}{fdt:FuncData}{pt:Li Str}{m er hn tn:Str}
 {q1 q2 q3 q4 q5 q6 q7 q8 q9 q10 q11 q12 q13 q14 q15 q16 q17 q18 q19 q20 q21 q22:Pos}
structure Nm(scope:Scope)(x:Str):Prop where
 l:scope.names.lookup x=some .local
 d:(x==("__debug__":Str))=false
 c:(x==("__classdict__":Str))=false
structure Gn(scope:Scope)(mg:Str->Option Value)(x:Str)(b:Addr):Prop where
 g:isG scope x
 d:(x==("__debug__":Str))=false
 m:mg x=some (.ref b)
end
variable [ClsTab]
noncomputable def bmV:Li vL:=[.type "ValueError",.type "Exception",.type "BaseException",.type "object"]
noncomputable def stK(e:DictEntry):Bool:=match e.key with
 |.str _ _=>true
 |_=>false
inductive XAt(K:fG7)(x y fx:Str)(s:Stmt)(C fI:Addr):Prop
 |mk {B N:Addr}{nm q:Str}{bs:List Value}{sn:List Str}{sub:List Value}{ab:Bool}{col:Option Bool}{dd ddB od ofd an:Option Addr}{k0 k1 k2 k3 k5:Option Value}{c0 oc ofc kV dc pm cd ct:Value}{cdB:ClassData}{slB osl ofs:Array (Option Value)}{es:Array DictEntry}{ep:Nat}
  (a:W.nsIn K mainGlobals x=some (some (.ref C)))
  (l:K.lookup C=some (excClassObj nm q C N bs (.ref B :: [.type "ValueError",.type "Exception",.type "BaseException",.type "object"]) true sn sub ab col dd k0 k1 k2 k3 k5 "ValueError.__new__"))
  (lb:K.lookup B=some ⟨c0,ddB,.cls cdB,slB⟩) (ln:K.lookup cdB.ns=some ⟨oc,od,.dict es ep,osl⟩) (sk:es.toList.all stK=true)
  (n1:W.nsIn K cdB.ns "__init__"=some none) (n2:W.nsIn K cdB.ns "__getattribute__"=some none) (n3:W.nsIn K cdB.ns "__getattr__"=some none) (n4:W.nsIn K cdB.ns "args"=some none)
  (sa:W.findIn K (.ref C) "__setattr__"=some (some (.builtin "object.__setattr__"))) (na:W.findIn K (.ref C) fx=some none) (ini:W.findIn K (.ref C) "__init__"=some (some (.ref fI))) (kp:W.keepIn K (.ref C)=true)
  (ga:W.findIn K (.ref C) "__getattribute__"=some (some (.builtin "BaseException.__getattribute__"))) (gn:W.findIn K (.ref C) "__getattr__"=some none) (gc:W.findIn K (.ref C) "__class__"=some (some (.builtin "object.__class__")))
  (gs:W.specialIn K (.builtin "object.__class__") "__get__"=some (some (.builtin "getset_descriptor.__get__"))) (gt:W.takesIn K (.builtin "object.__class__")=some true) (gm:W.mroIn K C (.type "object")=some true) (gd:W.hasDictIn K C=true)
  (li:K.lookup fI=some ⟨ofc,ofd,.func (W.fnOf "__init__" y (defArgs s) (defBody s) (defScope s) .none kV dc pm an cd ct),ofs⟩) (ci:W.codeIn K cd y=true) (ic:ofc=.type "function"):XAt K x y fx s C fI
section
variable{x y:Str}{s:Stmt}
theorem ZfG{B:Ad}{v oc:vL}{i o:Ot Ad}{c:ClassData}{d g:Array (Ot vL)}{es:Array DictEntry}{k:Nat}{l tl:Li vL}(s:K.lookup B=some ⟨v,i,.cls c,d⟩)(j:K.lookup c.ns=some ⟨oc,o,.dict es k,g⟩)(m:es.toList.all stK=true)(r:∀ n∈quietNames,W.nsIn K c.ns n=some none)(h:Heap)(X:K.In h)(T:OwnTailQ h l tl):OwnTailQ h l (.ref B :: tl):=by
 have f:StrKeys es:=λe u=>by
  have z:=cQ.mp m e (Array.mem_toList_iff.mpr u);unfold stK at z;split at z
  .rename_i a b q;exact⟨a,b,q⟩
  .cases z
 have p:h.Ns c.ns (nsFind es):=⟨_,es,k,X _ _ j,rfl,f,λ_=>rfl⟩
 refine .own (X _ _ s) p (λn t=>?_) T
 have e:=r n t;unfold W.nsIn at e;rw[j]at e;dsimp only at e;unfold nsFind findBy;rw[<-Array.find?_toList];split at e
 .cases e
 .rename_i q;rw[q];rfl
theorem XAt.cls(h:XAt K x y fx s C fI):XCls K C fI fx/\XGet K C:=by
 cases h with
 |mk a l j g d z w v u e f b k t p gc gs o q r i A m=>
  have T:∀ h:Heap,K.In h->OwnTailQ h bmV (.ref _ :: bmV):=λh X=>ZfG j g d (λn c=>by
   unfold quietNames at c;simp only[aH,bE,or_false]at c;rcases c with rfl|rfl|rfl|rfl<;>assumption) h X .base
  exact⟨⟨⟨_,_,_,_,_,_,_,_,_,_,_,_,_,_,_,_,_,_,_,_,l,λh X=>(T h X).tail,F.excBase_ValueError,F.store_ValueError⟩,e,f,b,⟨_,i,m⟩,k⟩,⟨⟨_,_,_,_,_,_,_,_,_,_,_,_,_,_,_,_,_,_,l,T,F.attrBase_ValueError⟩,t,p,gc,gs,o,q,r⟩⟩
end
variable [ClsTab]
section
variable{ic j:Nat}{fc:Ad}{fdc:FuncData}{pc:Li Str}
 {rest:Li Stmt}{p1 p2 p3 p4:Pos}
end
variable{U:Env}{F:Nat->Fn}{st:Za}{p t l:D}
section
variable{ad ad':Li Ad}{H H':Hp}{O:L2.St}{ni:Nat}{st1:Za}{z:Int}
theorem EnvOk.skip{i:Nat}{x:Ot V}(h:EnvOk K ad H O U)(a:U[i]?=some none):EnvOk K ad H (O.set i x) U:=by
 refine⟨by rw[bF];exact h.len,λk d e=>?_⟩
 obtain⟨v,c,b⟩:=h.at_ k d e;refine⟨v,?_,b⟩;rw[bK (λz=>by rw[<-z,a]at e;cases e)]
 exact c
end
variable [ClsTab]
section
open PySem.SeqAt
end
variable{ch:Nat}{cIf:CS}{cl:CE}
section
variable{st':Za}{r:Fl}{d:D}
theorem Za7{a b:Ex}(h:Yh a b U st=some (r,st')):(∃ c s,a U st=some (.nx c,s)/\b c s=some (r,st'))\/((∀ c,r≠.nx c)/\a U st=some (r,st')):=by
 unfold Yh at h;split at h
 .rename_i c s q;exact .inl ⟨c,s,q,h⟩
 .rename_i q;exact .inr ⟨λc z=>q c st' (by rw[<-z];exact h),h⟩
theorem Vz{f:Ev}(h:Ux f U st=some (r,st')):∃ d,f U st=some (d,st')/\r=.nx U:=by
 unfold Ux at h;split at h
 .rename_i d s q;cases h;exact⟨d,q,rfl⟩
 .cases h
end
section
variable{C1 C2:Ad}{a0 a1 a2 th wd li nn bs h1 h2 c1 c2 c3 c4 c5 c6:Str}{j3 tx ty:Nat}{stIf:Stmt}{lenE:Expr}
 {q1 q2 q3 q4 q5 q6 q7 q8 q9 q10 q11 q12 q13 q14 q15 q16 q17 q18 q19 q20 q21 q22 q23 q24 q25 q26 q27 q28 q29 q30 q31 q32 q33 q34 q35 q36 q37 q38 q39 q40 q41 q42 q43 q44 q45 q46 q47 q48 q49 q50 q51 q52 q53 q54 q55 q56 q57 q58 q59 q60 q61 q62 q63 q64 q65 q66 q67 q68 q69 q70 q71 q72 q73 q74 q75 q76 q77 q78:Pos}
end
end Dp
namespace L2
open PySem PySem.Spec PyProof.Rows
abbrev TX:=St->Hp->XK->Prop
def PX(X:Cx)(e:Expr)(c:TX):Prop:=∀ (pQ:Li (Ad×Obj)) (s:sH7) (O:St) (H:Hp) (E1:XK),Inv X pQ O H s->c O H E1->wpAny (model X.prog X.w) X.A (eval e X.env) (λ_ _=>False) (λf d=>∃ b a,Inv X pQ O b a/\CX1 X.prog X.w X.stack b a E1 f d) s
variable{X:Cx}{c:Expr}{pos:Pos}
section
variable{pQ:Li (Ad×Obj)}{O:St}{H:Hp}{s:sH7}{f C:Ad}{x m:Str}{e o:Expr}{es:Li Expr}{t:TA}{ta:TE}{k:Nat}{fd:FuncData}{ps:Li Str}{sp:Sp}{ds us:Li vL}{dvs vs:Li V}{p apos:Pos}{E1:XK}
theorem ZeT(F:FnOk X.prog X.w X.K X.mg X.base (CX1 X.prog X.w) k f fd ps sp)(i:Room k X.A)(l:Binds X.K fd ps ds)(hd:Vals dvs ds)(I:Inv X pQ O H s)(r:Vals vs us)(h:sp (vs++dvs) H (λ_ _=>False) E1) :
  wpAny (model X.prog X.w) X.A (call (.ref f) us) (λ_ _=>False) (λm c=>∃ g b,Inv X pQ O g b/\CX1 X.prog X.w X.stack g b E1 m c) s:=by
 have d:Vals (vs++dvs) (us++ds):=r.append hd;have j:(us++ds).length=ps.length:=by rw[<-d.length];exact F.len _ _ _ _ h
 refine wpAny_call (codeAny_mono (F.run X.A X.stack s H ⟨us,[]⟩ (us++ds) (vs++dvs) _ E1 i I.env0 (l s us I.kIn j) d h) λr c a=>?_)
 cases r with
 |error e=>exact⟨H,s,I,a⟩
 |ok fl=>
  cases fl with
  |ret u=>obtain⟨_,_,_,_,_,_,_,z⟩:=a;exact z.elim
  |next=>exact False.elim a
  |brk=>exact False.elim a
  |cont=>exact False.elim a
theorem Zcx{pl:Sem Bool}(M:PE X.nox o ta)(c:Cls X.K C)(p:Meth X.K C m f)(F:FnOk X.prog X.w X.K X.mg X.base (CX1 X.prog X.w) k f fd ps sp)(L:Room k X.A)(N:Binds X.K fd ps ds)(hd:Vals dvs ds)(P:PA X.nox (e :: es) t)(g:starEach (e :: es) X.env=(false,eval e X.env) :: starEach es X.env:=by rfl)(i:(backTo pos (starEach es X.env)).any (·.1)=false:=by rfl)(J:eval (.Call (.Attribute o m apos) (e :: es) [] pos) X.env=(do
   let n <-eval o X.env
   standAt apos.atName
   let (f,first) <-holding [n] (getMethod n m pl)
   callWith pos f first (backTo pos (starEach (e :: es) X.env)) (backToKw pos (keywordEach [] X.env))):=by rfl) :
  PX X (.Call (.Attribute o m apos) (e :: es) [] pos) (λO H E1=>ta O H λx b=>∃ a v fs,x=.ref a/\b a=some (.ins C v fs)/\fs.lookup m=none/\t O b λvs B=>sp (.ref a :: vs++dvs) B (λ_ _=>False) E1):=by
 intro pQ s O H E1 I h;generalize j:(λR D=>∃ b d,Inv X pQ O b d/\CX1 X.prog X.w X.stack b d E1 R D)=Eb
 refine W.methodCall_KW (pl:=pl) (thn ((PE.nox (X:=X.wish Eb) M) pQ s O H _ (I.wish Eb) h) λu d ⟨x,b,z,E,a,v,fs,ex,Q,l,q⟩=>?_) J
 subst ex;obtain rfl:u=Value.ref a:=E;refine getmeth_ok (X:=X.wish Eb) z Q c p l ?_;refine W.callWith_K (first:=[.ref a]) (h₀:=X.base) I.ok.mod.kin p.kp (thn ((PA.nox (X:=X.wish Eb) P) pos pQ d O b _ z q) λus S ⟨vs,B,y,r,G⟩=>⟨y.kIn,?_⟩) g i
 rw[<-j];exact ZeT (us:=.ref a :: us) (vs:=.ref a :: vs) F L N hd y.unwish (.cons rfl r) G
end
section
variable{C0 Ch:Ad}{hx n:Str}{tx:TX}{ni:Nat}{ep hp hq:Pos}{b0:Stmt}{suite:Li Stmt}{ts:TS}
def ZgS(ni:Nat)(C0:Ad)(tx:TX)(ts:TS):TS:=λD O H=>∃ c:XK,tx O H c/\∀ e C b H',H' e=some (.ext (fX C e b))->c (.ref C) (some b) H'->C=C0/\ts { nx:=λa d=>D.nx (a.set ni none) d,rt:=λ_ _=>False } (O.set ni (some (.ref e))) H'
theorem Zcw(g:X.stack=X.env :: X.outer/\X.env.frame=some X.env.locals)(hN:X.N.Nodup)(P:PX X c tx)(hgx:Gl X hx)(hmx:X.mg hx=some (.ref Ch))(hmt:W.exmOne X.K (.ref C0) (.ref Ch)=some true)(i:X.N[ni]?=some n)(d:X.env.scope.names.lookup n=some .local)(hs:∀ e,PSs (Xm X e).nox (b0 :: suite) ts)(d2:(hx==("__debug__":Str))=false:=by decide)(hsw:swapsWith c none ep.line X.env=pure false:=by rfl) :
  PS X (.Try [.Expr c ep] [.ExceptHandler (some (.Name hx hp)) (some n) (b0 :: suite) hq] [] [] pos) (ZgS ni C0 tx ts):=by
 intro pQ s O H D I h;obtain⟨E1,h,hh⟩:=h;refine wpAny_Try_except ?_;generalize hEb:(λ(e:vL) (y:sH7)=>wpAny (model X.prog X.w) X.A (noteFrame e X.env) (λ_ t=>wpAny (model X.prog X.w) X.A (setFlight e none) (λ_ r=>wpAny (model X.prog X.w) X.A (handleBy e X.env [.ExceptHandler (some (.Name hx hp)) (some n) (b0 :: suite) hq]) (SP X pQ D) X.xe r) X.xe t) X.xe y)=Eb
 have ev:wpAny (model X.prog X.w) X.A (eval c X.env) (λ_ _=>False) Eb s:=by
  refine aX (P pQ s O H E1 I h) (λ_ _ z=>z) λe Z ⟨H1,s1,R,hq'⟩=>?_
  obtain⟨l,C,dx,tb,H',rfl,⟨os,ba,un,ok⟩,⟨x,n1,T,tt⟩,q⟩:=hq';obtain⟨rfl,hts⟩:=hh l C dx H' n1 q;have M:Inv X pQ O H' Z:=R.call' os un ok ba (λ_ z=>absurd z (by simp))
  rw[<-hEb];refine ZaL (base:=X.base) (outer:=X.outer) (L:=X.env.locals) (R.ok.frames.trans (by rw[g.1])) (g.1 ▸ M.stack) g.2 x λG b3 z3 U k3=>?_
  rw[<-g.1]at k3;have p:=ZdP un k3 T λa j=>(tt a j).2
  have B:HOk X.prog X.w H' G:=JX ok n1 U.f k3 (λa j=>(tt a j).1) M.stkFree
  have S:s1.heap.objs.size<=b3:=by
   obtain⟨_,_,q1,_⟩:=x.ob;exact aP (aP T (dI (aI q1))) z3
  have nb3:H' b3=none:=M.hok.fresh z3;have I3:Inv X pQ O H' { Z with heap:=G }:=R.call' os p B ba (λ_ z=>absurd z (by simp))
  refine wpAny_handleBy_cons ?_ (λz=>nomatch z)
  refine codeAny_handlers_test (ld_glob (X:=Xm X (.ref l)) I3.marked hgx hmx ?_ d2);have lt:W.Looks (model X.prog X.w) G (typeOf (.ref l)) (.ref C):=λA Q E s hk hq=>by
   obtain⟨sl,vs,q1,_⟩:=U.ob;obtain⟨hp',g',d',t',o'⟩:=s;unfold typeOf;exact aA (wpAny_loadPart_at (hk _ _ q1) (aB hq))
  refine W.exm_one (show X.K.In G from I3.kIn) lt hmt _ _ _ _ (λ_ _ z=>z) ?_
  refine codeAny_handlers_suite_as (JS U λh4 x4 k4=>?_)
  have F:Kx (frs X.stack) l (some b3) G h4:=λb o hb he ht=>⟨λ_=>(k4 b o hb he ht).1 (by simp),(k4 b o hb he ht).2⟩
  have Y:=ZdP p F T λa j=>by cases j;exact S
  have ok4:HOk X.prog X.w H' h4:=JX B n1 x4.f F (λa j=>by cases j;exact nb3) M.stkFree
  have I4:Inv X pQ O H' { Z with heap:=h4 }:=R.call' os Y ok4 ba (λ_ z=>absurd z (by simp))
  refine store_ok I4 hN i (.inl d) (v:=.ref l) rfl (λs5 I5=>?_) (.inr d)
  refine aX (hs (.ref l) pQ s5 _ H' _ (I5.marked.wish _) hts) (λfl s6 k=>?_) λ_ _ z=>z.elim
  have k:=k.unwish;cases fl with
  |next=>
   obtain⟨m,H2,J,q7⟩:=k;have J:Inv X pQ m H2 s6:=J.unmarked I.ok;refine aA (wpAny_bindName (store_ok J hN i (.inl d) (v:=.non) rfl (λs7 I7=>?_) (.inr d)))
   have hσ:(m.set ni (some V.non))[ni]?=some (some V.non):=cG (by rw[J.len];exact(bB.mp i).1)
   unfold unbindBehindTheSuite;refine wpAny_onRaise (Zek I7 hN i d hσ λs8 I8=>⟨_,H2,I8,?_⟩)
   rw[List.set_set];exact q7
  |ret u=>obtain⟨_,_,_,_,_,z⟩:=k;exact z.elim
  |brk=>obtain⟨_,_,_,z⟩:=k;exact z.elim
  |cont=>obtain⟨_,_,_,z⟩:=k;exact z.elim
 refine wpAny_execs_cons ?_;refine aX (wpAny_Expr_any (Q:=λ_ _=>False) (aX ev (λ_ _ z=>z.elim) λ_ _ z=>z) (I.wish Eb).quiet hsw) (λ_ _ z=>z.elim) λe s1 z=>z
end
end L2
namespace Dp
open PySem PySem.Spec PyProof.Rows L2
variable [ClsTab]
section
variable{P:Program}{w:World}{K:fG7}{mg:Str->Ot vL}{base:Heap}{G:Gs}{T:Nat->Ot FD}{k:Nat}{f fc fI C:Ad}{fdI fdc:FuncData}{psI N:Li Str}{name qual cn fx a:Str}{params:Arguments}{scope:Scope}{dV kV doc pm cdv ct oc:vL}{an od:Ot Ad}{osl:Array (Ot vL)}
 {Z0 arg:Expr}{rest:Li Stmt}{p1 p2 p3 p4:Pos}
noncomputable def ZgR(K:fG7)(C:Ad)(fx:Str):Sp:=λvs H _ E=>∃ v ad d st z,vs=[v]/\StOk K ad H st/\Den K ad H v d/\Vh d st=some z/\10 < z/\∀ ad' H' a,Ext ad H ad' H'->StOk K ad' H' st->H' a=some (.xd [(fx,.int z)])->E (.ref C) (some a) H'
theorem Zf6(hc:∀ n,Yj G (run T n))(gl:∀ A,Room 1 A->∀ y g,G.lookup y=some g->GOk P w K mg base A (run T 0) y g)(c:XCls K C fI fx)(FI:FnOk P w K mg base CX0 1 fI fdI psI (spI C fx))(bI:Binds K fdI psI [])(Z:K.lookup f=some ⟨oc,od,.func (W.fnOf name qual params (.If Z0 [.Raise (some (.Call (.Name cn p1) [arg] [] p2)) none p3] [] p4 :: rest) scope dV kV doc pm an cdv ct),osl⟩)(q:W.codeIn K cdv qual=true)(S:FnScope [a] [a] scope)(r:cE G 60 scope [a] Z0=some (.cmp .Gt (.len (.v 0)) (.c (.int 10))))(t:cE G 60 scope [a] arg=some (.len (.v 0)))(J:Zi arg=true)(gc:isG scope cn)(Y:mg cn=some (.ref C))(dc:(cn==("__debug__":Str))=false) :
  FnOk P w K mg base (CX1 P w) 3 f (W.fnOf name qual params (.If Z0 [.Raise (some (.Call (.Name cn p1) [arg] [] p2)) none p3] [] p4 :: rest) scope dV kV doc pm an cdv ct) [a] (ZgR K C fx):=by
 refine fn_of (k:=2) (N:=[a]) Z q S (λvs H Q E h=>?_) (λA i s H vs Q E o h=>?_)
 .obtain⟨v,_,_,_,_,rfl,_⟩:=h;rfl
 .obtain⟨v,ad,d,b,z,rfl,S0,hd,e,hz,p⟩:=h
  have Cx:Cxt (cxOf (CX1 P w) P w K mg base [a] qual scope f cdv A i s H E).nox G (run T 0) scope [a]:={
   hN:=rfl
   vis:=λy j=>WH j
   glb:=λy j=>XB j
   calm:=rfl
   hu:=o.units
   gl:=gl _ (o.mono (by decide))
   cel:=λy j=>Xu j
   nx:=rfl }
  have V:=(YK (hc 0) 60).1.1 _ _ _ Cx;have l:EnvOk K ad H (L2.start [a] [v]) [some d]:=Y6 (N:=[a]) (.cons hd .nil) (aD 1);have I:ev (run T 0) (.len (.v 0)) [some d] b=some (.int z,b):=by
   show(match some (d,b) with|some (x,m)=>(match Vh x m with|some n=>some (D.int n,m)|none=>none)|none=>none)=_
   simp only[e]
  have k2:ev (run T 0) (.cmp .Gt (.len (.v 0)) (.c (.int 10))) [some d] b=some (.bl true,b):=by
   show(match ev (run T 0) (.len (.v 0)) [some d] b with|some (x,m)=>Yx .Gt x (.int 10) m|none=>none)=_
   rw[I];show some (D.bl (decide ((10:Int) < z)),b)=_;rw[aG (by omega)]
  refine⟨_,pss_cons (ps_if (V _ _ r).pt.nox (pss_one (ZaW (E1:=E) c FI (o.mono (by decide)) o.hd bI pass0 gc Y (pa_cons (V _ _ t).pe.nox pa_nil (Zd J)) (λpQ O e s' h=>Ut h) dc (Zd J))) pss_never) pss_never,?_⟩
  refine⟨ad,_,b,true,b,l,S0,k2,λB H1 F S1=>?_⟩
  refine⟨B,_,b,_,b,l.mono F,S1,I,λv u H2 X S2 hv=>?_⟩
  refine⟨v,rfl,λe U h1 R M=>?_⟩
  cases hv.ofInt;have L:upd H2 U (.xd [(fx,.int z)]) e=none:=by rw[upd_ne (Ne.symm M)];exact h1
  exact p u _ U (F.trans (X.trans ((Ext.laid R).trans (Ext.laid L)))) ((S2.laid R).laid L) (by unfold W1;rw[upd_ne M,upd_same])
end
end Dp
namespace L2
open PySem PySem.Spec PyProof.Rows
theorem PS.nox{X:Cx}{st:Stmt}{t:TS}(h:PS X.nox st t):PS X st t:=λpQ s O H D I a=>
 aX (h pQ s O H D (I.wish _) a) (λ_ _ q=>q.unwish) λ_ _ z=>False.elim z
end L2
namespace Dp
open PySem PySem.Spec PyProof.Rows L2
variable [ClsTab]
variable{P:Program}{w:World}{K:fG7}{mg:Str->Ot vL}{base:Heap}{G:Gs}{T:Nat->Ot FD}{n k i it ie ib j1 j2 j3 tx0 tx1:Nat}{f fc C C1 C2:Ad}{fdc:FuncData}{N ps:Li Str}{name qual cn fx a th en bs h1 h2 t1 t2:Str}{params:Arguments}{scope:Scope}{dV kV doc pm cdv ct oc:vL}{an od:Ot Ad}{osl:Array (Ot vL)}{c1 c2 eA eB lenE:Expr}{rest:Li Stmt}{st0:Stmt}{c0:CS}{p1 p2 p3 p4 q1 q2 q3 q4 q5 q6 q7 q8 q9 q10 q11 q12 q13 q14 q15 q16 q17 q18 q19 q20 q21 q22 q23 q24 q25 q26 q27 q28 q29 q30 q31 q32 q33 q34 q35 q36 q37 q38 q39 q40 q41:Pos}{cA cB cl:CE}{tx:TX}{sp:Sp}{pre:Li D->Za->Int->Prop}{gr:Za->Za}
noncomputable def ZgQ(K:fG7)(C:Ad)(fx:Str)(c0:CS)(F:Nat->Fn):Sp:=λvs H _ E=>∃ ad b a st d z,StOk K ad H st/\Dens K ad H vs [b,a]/\ex F c0 [some b,some a,none] st=some (.nx [some b,some a,some d],st)/\Vh d st=some z/\10 < z/\∀ ad' H' c,Ext ad H ad' H'->StOk K ad' H' st->H' c=some (.xd [(fx,.int z)])->E (.ref C) (some c) H'
theorem Zf0{a0 a1 b:Str}(V:∀ n,Yj G (run T n))(gl:∀ A,Room 1 A->∀ y g,G.lookup y=some g->GOk P w K mg base A (run T 0) y g)(CK:FnOk P w K mg base (CX1 P w) 3 fc fdc [a] (ZgR K C fx))(bc:Binds K fdc [a] [])(M:W.keepIn K (.ref fc)=true)(L:K.lookup f=some ⟨oc,od,.func (W.fnOf name qual params (st0 :: .Expr (.Call (.Name cn p1) [.Name b p2] [] p3) p4 :: rest) scope dV kV doc pm an cdv ct),osl⟩)(x:W.codeIn K cdv qual=true)(S:FnScope [a0,a1,b] [a0,a1] scope)(q:∀ y∈[a0,a1,b],Loc scope y)(X:cS G 60 scope [a0,a1,b] st0=some c0)(gc:Gn scope mg cn fc)(r:Nm scope b) :
  FnOk P w K mg base (CX1 P w) 4 f (W.fnOf name qual params (st0 :: .Expr (.Call (.Name cn p1) [.Name b p2] [] p3) p4 :: rest) scope dV kV doc pm an cdv ct) [a0,a1] (ZgQ K C fx c0 (run T 0)):=by
 refine fn_of (k:=3) (N:=[a0,a1,b]) L x S (λvs H Q E h=>?_) (λA j s H vs Q E t h=>?_)
 .obtain⟨_,_,_,_,_,_,_,u,_⟩:=h;exact u.length
 .obtain⟨ad,d0,d1,st,Z,z,S0,u,e,U,R,p⟩:=h
  have Cx:CxtS (cxOf (CX1 P w) P w K mg base [a0,a1,b] qual scope f cdv A j s H E).nox G (run T 0) scope [a0,a1,b]:={
   hN:=rfl
   vis:=λy o=>WH o
   glb:=λy o=>XB o
   calm:=rfl
   hu:=t.units
   gl:=gl _ (t.mono (by decide))
   cel:=λy o=>Xu o
   nx:=rfl
   nd:=S.nd
   loc:=q
   fn:=λ_=>rfl }
  have SO:=(YK (V 0) 60).2.1 _ _ _ Cx;have D:EnvOk K ad H (L2.start [a0,a1,b] vs) [some d0,some d1,none]:=Y6 (N:=[a0,a1,b]) u (Nat.le_of_ble_eq_true rfl);refine⟨_,pss_cons (PS.nox (SO _ _ X)) (pss_cons (ps_expr (pe_call (E:=E) CK t gc.g gc.m M bc .nil (ZeP λpQ O e s' h=>Ut h) (pa_cons (pe_var (i:=2) rfl (.inl r.l) r.d r.c) pa_nil) gc.d)) pss_never),?_⟩
  refine ZJ D S0 e λF B H1 I S1 E1=>?_
  obtain⟨v,b1,b2⟩:=E1.at_ 2 _ rfl;exact⟨v,b1,v,B,Z,st,z,rfl,S1,b2,U,R,λad' H' Y J=>p ad' H' Y (I.trans J)⟩
def exT(K:fG7)(C:Ad)(fx:Str)(ad:Li Ad)(H:Hp)(st:Za)(z:Int):XK:=λc o H'=>c=.ref C/\∃ a ad',o=some a/\Ext ad H ad' H'/\StOk K ad' H' st/\H' a=some (.xd [(fx,.int z)])
variable [ClsTab]
section
variable{eR:Expr}{cR:CE}
theorem Zcr(hc:∀ n,Yj G (run T n))(gl:∀ A,Room k A->∀ y g,G.lookup y=some g->GOk P w K mg base A (run T n) y g)(lk:K.lookup f=some ⟨oc,od,.func (W.fnOf name qual params [.Assign [.Name th q1] (.Constant .none j1 q2) q3,.Try [.Expr c1 q4] [.ExceptHandler (some (.Name h1 q5)) (some en) [.Assign [.Name th q6] (.Attribute (.Name en q7) fx q8) q9] q10] [] [] q11,.Return (some eR) q12] scope dV kV doc pm an cdv ct),osl⟩)(hcd:W.codeIn K cdv qual=true)(S:FnScope N ps scope)(hloc:∀ y∈N,Loc scope y)(b:N[it]?=some th)(o:N[ie]?=some en)(nt:Nm scope th)(F:Nm scope en)(g1:Gn scope mg h1 C1)(m1:W.exmOne K (.ref C) (.ref C1)=some true)(g:XGet K C)(na:W.findIn K (.ref C) fx=some none)(hR:cE G 60 scope N eR=some cR)(P1:∀ A outer s H E,Room k (A.deeper (envOfC qual scope s.heap.objs.size f cdv))->PX (cxOf CX0 P w K mg base N qual scope f cdv A outer s H E).nox c1 tx)(w1:∀ e:PySem.Env,swapsWith c1 none q4.line e=pure false)(L:∀ ad H O U ds st z,EnvOk K ad H O U->StOk K ad H st->(∀ (j:Nat) (d:D),ds[j]?=some d->U[j]?=some (some d))->pre ds st z->tx O H (exT K C fx ad H (gr st) z)/\pre ds (gr st) z)(a:∀ ds st z,pre ds st z->ds.length=ps.length/\ev (run T n) cR (Zg (ds.map some++List.replicate (N.length - ds.length) none) it (.int z)) st=some (.bl true,st))(r:∀ vs H Q E,sp vs H Q E->∃ ad ds st z,StOk K ad H st/\Dens K ad H vs ds/\pre ds st z/\∀ ad' H',Ext ad H ad' H'->StOk K ad' H' (gr st)->Q (.bl true) H')(hi:ps.length<=it/\ps.length<=ie/\it≠ie) :
  FnOk P w K mg base CX0 (k+1) f (W.fnOf name qual params [.Assign [.Name th q1] (.Constant .none j1 q2) q3,.Try [.Expr c1 q4] [.ExceptHandler (some (.Name h1 q5)) (some en) [.Assign [.Name th q6] (.Attribute (.Name en q7) fx q8) q9] q10] [] [] q11,.Return (some eR) q12] scope dV kV doc pm an cdv ct) ps sp:=by
 obtain⟨i1,i2,i4⟩:=hi;refine fn_of (k:=k) (N:=N) lk hcd S (λvs H Q E h=>?_) (λA outer s H vs Q E M h=>?_)
 .obtain⟨_,_,_,_,_,Z,I,_⟩:=r _ _ _ _ h
  rw[Z.length];exact(a _ _ _ I).1
 .obtain⟨ad,ds,st,z,S0,Z,I,pp⟩:=r _ _ _ _ h
  have hl:=(a _ _ _ I).1;have u:=λst (h:pre ds st z)=>(a _ st _ h).2
  have Cx:Cxt (cxOf CX0 P w K mg base N qual scope f cdv A outer s H E).nox G (run T n) scope N:={
   hN:=rfl
   vis:=λy p=>WH p
   glb:=λy p=>XB p
   calm:=rfl
   hu:=M.units
   gl:=gl _ M
   cel:=λy p=>Xu p
   nx:=rfl }
  have SO:=(YK (hc n) 60).1.1 _ _ _ Cx;have V4:Vis scope en:=.inl F.l;have lt:it < N.length:=(bB.mp b).1;have J:ie < N.length:=(bB.mp o).1;have E0:EnvOk K ad H (L2.start N vs) (ds.map some++List.replicate (N.length - ds.length) none):=Y6 Z (by omega)
  have B:∀ j:Nat,ps.length<=j->j < N.length->(ds.map some++List.replicate (N.length - ds.length) none)[j]?=some (none:Ot D):=λj h1 h2=>by
   rw[bX (by rw[aE];omega),dX,if_pos (by rw[aE];omega)]
  have rd:∀ (j:Nat) (d:D),ds[j]?=some d->(ds.map some++List.replicate (N.length - ds.length) none)[j]?=some (some d):=λj d h=>by
   rw[bU (by rw[aE];exact(bB.mp h).1),aT,h];rfl
  have t:(ds.map some++List.replicate (N.length - ds.length) (none:Ot D)).length=N.length:=by rw[aK,aE,cJ];omega
  generalize ds.map some++List.replicate (N.length - ds.length) none=U at E0 B rd u t;refine⟨_,PSs.nox (pss_cons (ps_set (i:=it) S.nd b (.inl nt.l) pe_non) (pss_cons (Zcw (ni:=ie) ⟨rfl,rfl⟩ S.nd (P1 A outer s H E M) g1.g g1.m m1 o F.l (λe=>pss_one (ps_set (i:=it) S.nd b (.inl nt.l) (ZgE (i:=ie) g na o V4 (by rfl) F.d F.c))) g1.d (w1 _)) (pss_one (ps_ret (SO _ _ hR).pe)))),?_⟩
  have E1:=E0.skip (i:=it) (x:=some .non) (B it i1 lt);obtain⟨T1,R⟩:=L _ _ _ _ _ _ _ E1 S0 rd I;refine⟨_,T1,λe C' dx H1 he q=>?_⟩
  obtain⟨hC,dx',ad1,Y,x1,S1,hx⟩:=q;cases hC;cases Y;refine⟨rfl,?_⟩;have ls:(L2.start N vs).length=N.length:=E0.len.trans t;have E2:=(E1.mono x1).skip (i:=ie) (x:=some (.ref e)) (B ie i2 J);have se:(((L2.start N vs).set it (some V.non)).set ie (some (.ref e)))[ie]?=some (some (V.ref e)):=cG (by rw[bF,ls];exact J)
  have ex1:L2.Ex H1 C e [(fx,.int z)]:=⟨dx,he,hx⟩;have X:List.lookup fx [(fx,V.int z)]=some (.int z):=by rw[bJ,beq_self_eq_true]
  have rn:∀ {j:Nat}{y:D},it≠j->(Zg U it y)[j]?=U[j]?:=λh=>bK h
  have E3:=(EnvOk.set E2 it (Den.int z)).skip (i:=ie) (x:=none) ((rn i4).trans (B ie i2 J));refine⟨e,_,.int z,se,ex1,X,ad1,_,_,_,_,E3,S1,u _ R,λv ad5 H5 x5 S5 dk=>?_⟩
  cases dk.ofBl;exact pp _ _ (x1.trans x5) S5
end
end Dp
namespace Dp
open PySem
abbrev jN(n:Nat):Option D:=some (.int n)
abbrev jI(n:Int):Option D:=some (.int n)
abbrev jL(n:Nat):Option D:=some (.lst n)
abbrev CE.i(n:Int):CE:=.c (.int n)
noncomputable abbrev CE.t(s:String):CE:=.c (.str (S s))
abbrev CE.u(a:CE):CE:=.aC a .aN
abbrev CS.z(a:CS):CS:=.seq a .skip
abbrev CS.w(c:CE)(a:CS):CS:=.ite c a .skip
noncomputable def c__wall:FD:=⟨1,1,(.z (.whl (.c (.bl true)) (.z .skip)))⟩
noncomputable def c_replaced:FD:=⟨3,3,(.z (.ret (.bin .Add (.bin .Add (.slice (.v 0) .nop (.part (.v 1))) (.tupE (.u (.v 2)))) (.slice (.v 0) (.part (.bin .Add (.v 1) (.i 1))) .nop))))⟩
noncomputable def c_operand_places:FD:=⟨1,1,(.z (.ret (.look [(S "put"),(S "if"),(S "tell"),(S "go"),(S "skip")] [(.tup [(.int 2),(.int 4)]),(.tup [(.int 1),(.int 3)]),(.tup [(.int 1)]),(.tup []),(.tup [])] (.ix (.v 0) (.i 0)))))⟩
noncomputable def Xf:CS:=(.z (.set 1 (.bin .Mult (.v 1) (.i 2))))
noncomputable def c_bit_of:FD:=⟨1,3,(.seq (.set 1 (.i 1))
 (.seq (.for1 2 true (.v 0) Xf)
 (.z (.ret (.v 1)))))⟩
noncomputable def c_around:FD:=⟨1,1,(.z (.ret (.bin .Sub (.bin .Mod (.bin .Add (.v 0) (.i 1000000000)) (.i 2000000000)) (.i 1000000000))))⟩
noncomputable def c_divided:FD:=⟨2,2,(.seq (.w (.cmp .Eq (.v 1) (.i 0)) (.z (.ret (.i 0))))
 (.z (.ret (.call 0 (.u (.bin .FloorDiv (.v 0) (.v 1))) []))))⟩
noncomputable def c_left_over:FD:=⟨2,2,(.seq (.w (.cmp .Eq (.v 1) (.i 0)) (.z (.ret (.v 0))))
 (.z (.ret (.bin .Sub (.v 0) (.bin .Mult (.v 1) (.bin .FloorDiv (.v 0) (.v 1)))))))⟩
noncomputable def c_reckon:FD:=⟨3,3,(.seq (.w (.cmp .Eq (.v 1) (.t "+")) (.z (.ret (.call 0 (.u (.bin .Add (.v 0) (.v 2))) []))))
 (.seq (.w (.cmp .Eq (.v 1) (.t "-")) (.z (.ret (.call 0 (.u (.bin .Sub (.v 0) (.v 2))) []))))
 (.seq (.w (.cmp .Eq (.v 1) (.t "*")) (.z (.ret (.call 0 (.u (.bin .Mult (.v 0) (.v 2))) []))))
 (.seq (.w (.cmp .Eq (.v 1) (.t "/")) (.z (.ret (.call 1 (.aC (.v 0) (.u (.v 2))) []))))
 (.z (.ret (.call 2 (.aC (.v 0) (.u (.v 2))) [])))))))⟩
noncomputable def c_is_so:FD:=⟨3,3,(.seq (.w (.cmp .Eq (.v 1) (.t "<")) (.z (.ret (.cmp .Lt (.v 0) (.v 2)))))
 (.seq (.w (.cmp .Eq (.v 1) (.t "<=")) (.z (.ret (.cmp .LtE (.v 0) (.v 2)))))
 (.seq (.w (.cmp .Eq (.v 1) (.t "=")) (.z (.ret (.cmp .Eq (.v 0) (.v 2)))))
 (.seq (.w (.cmp .Eq (.v 1) (.t ">=")) (.z (.ret (.cmp .GtE (.v 0) (.v 2)))))
 (.seq (.w (.cmp .Eq (.v 1) (.t ">")) (.z (.ret (.cmp .Gt (.v 0) (.v 2)))))
 (.z (.ret (.cmp .NotEq (.v 0) (.v 2)))))))))⟩
noncomputable def c_behind:FD:=⟨2,2,(.z (.ret (.ix (.v 0) (.bin .Mod (.bin .Add (.tix (.v 0) (.u (.v 1))) (.i 1)) (.len (.v 0))))))⟩
noncomputable def c_Step_word:FD:=⟨1,1,(.z (.ret (.t "none")))⟩
noncomputable def c_Step_turned:FD:=⟨3,3,(.z (.ret (.tupE .aN)))⟩
noncomputable def c_Sign_word:FD:=⟨1,1,(.z (.ret (.t "sign")))⟩
noncomputable def c_Sign_turned:FD:=⟨3,3,(.seq (.w (.cmp .Eq (.ix (.v 1) (.i 0)) (.t "put")) (.z (.ret (.tupE (.u (.call 42 (.aC (.v 1) (.aC (.i 3) (.u (.call 70 (.aC (.c (.kt [(S "+"),(S "-"),(S "*"),(S "/"),(S "mod")])) (.u (.ix (.v 1) (.i 3)))) [])))) []))))))
 (.seq (.w (.cmp .Eq (.ix (.v 1) (.i 0)) (.t "if")) (.z (.ret (.tupE (.u (.call 42 (.aC (.v 1) (.aC (.i 2) (.u (.call 70 (.aC (.c (.kt [(S "<"),(S "<="),(S "="),(S ">="),(S ">"),(S "!=")])) (.u (.ix (.v 1) (.i 2)))) [])))) []))))))
 (.z (.ret (.tupE .aN)))))⟩
noncomputable def c_More_word:FD:=⟨1,1,(.z (.ret (.t "more")))⟩
noncomputable def Yb:CS:=(.z (.w (.cmp .Eq (.ix (.ix (.v 1) (.v 4)) (.i 0)) (.t "number")) (.z (.app 3 (.call 42 (.aC (.v 1) (.aC (.v 4) (.u (.tupE (.aC (.t "number") (.u (.call 0 (.u (.bin .Add (.ix (.ix (.v 1) (.v 4)) (.i 1)) (.i 1))) []))))))) [])))))
noncomputable def c_More_turned:FD:=⟨3,5,(.seq (.set 3 (.lstE .aN))
 (.seq (.for1 4 false (.call 113 (.u (.v 1)) []) Yb)
 (.z (.ret (.tOf (.v 3))))))⟩
noncomputable def c_Turn_word:FD:=⟨1,1,(.z (.ret (.t "turn")))⟩
noncomputable def c_Turn_turned:FD:=⟨3,3,(.seq (.w (.cmp .NotEq (.ix (.v 1) (.i 0)) (.t "if")) (.z (.ret (.tupE .aN))))
 (.z (.ret (.tupE (.u (.call 42 (.aC (.v 1) (.aC (.i 2) (.u (.look [(S "<"),(S ">="),(S "<="),(S ">"),(S "="),(S "!=")] [(.str (S ">=")),(.str (S "<")),(.str (S ">")),(.str (S "<=")),(.str (S "!=")),(.str (S "="))] (.ix (.v 1) (.i 2)))))) []))))))⟩
noncomputable def c_Out_word:FD:=⟨1,1,(.z (.ret (.t "out")))⟩
noncomputable def c_Out_turned:FD:=⟨3,3,(.seq (.w (.cmp .Eq (.ix (.v 1) (.i 0)) (.t "skip")) (.z (.ret (.tupE .aN))))
 (.z (.ret (.tupE (.u (.tupE (.u (.t "skip"))))))))⟩
noncomputable def c_Swap_word:FD:=⟨1,1,(.z (.ret (.t "swap")))⟩
noncomputable def c_Swap_turned:FD:=⟨3,3,(.seq (.w (.and (.cmp .Eq (.ix (.v 1) (.i 0)) (.t "put")) (.cmp .NotEq (.ix (.v 1) (.i 2)) (.ix (.v 1) (.i 4)))) (.z (.ret (.tupE (.u (.tupE (.aC (.t "put") (.aC (.ix (.v 1) (.i 1)) (.aC (.ix (.v 1) (.i 4)) (.aC (.ix (.v 1) (.i 3)) (.u (.ix (.v 1) (.i 2)))))))))))))
 (.seq (.w (.and (.cmp .Eq (.ix (.v 1) (.i 0)) (.t "if")) (.cmp .NotEq (.ix (.v 1) (.i 1)) (.ix (.v 1) (.i 3)))) (.z (.ret (.tupE (.u (.tupE (.aC (.t "if") (.aC (.ix (.v 1) (.i 3)) (.aC (.ix (.v 1) (.i 2)) (.aC (.ix (.v 1) (.i 1)) (.u (.ix (.v 1) (.i 4)))))))))))))
 (.z (.ret (.tupE .aN)))))⟩
noncomputable def c_Far_word:FD:=⟨1,1,(.z (.ret (.t "far")))⟩
noncomputable def c_Far_turned:FD:=⟨3,3,(.seq (.w (.or (.cmp .NotIn (.ix (.v 1) (.i 0)) (.tupE (.aC (.t "go") (.u (.t "if"))))) (.cmp .GtE (.ix (.v 1) (.neg (.i 1))) (.v 2))) (.z (.ret (.tupE .aN))))
 (.z (.ret (.tupE (.u (.bin .Add (.slice (.v 1) .nop (.part (.neg (.i 1)))) (.tupE (.u (.bin .Add (.ix (.v 1) (.neg (.i 1))) (.i 1))))))))))⟩
noncomputable def QZ:CE:=(.comp false [4,6] (.meth [(146,148),(169,171),(149,151),(157,159),(152,154),(160,162),(163,165)] (.v 6) (.aC (.v 5) (.u (.len (.v 1))))) (.tupE (.aC (.v 1) (.aC (.meth [(146,147),(169,170),(149,150),(157,158),(152,153),(160,161),(163,164)] (.v 2) .aN) (.u (.v 0))))) (.c (.bl true)))
noncomputable def XL:CS:=(.z (.ext 3 QZ))
noncomputable def XM:CS:=(.z (.for1 6 false (.v 2) XL))
noncomputable def c_fakes:FD:=⟨1,7,(.seq (.set 1 (.ix (.v 0) (.i 2)))
 (.seq (.set 2 (.lstE (.aC (.new 169) (.aC (.new 149) (.aC (.new 157) (.aC (.new 152) (.aC (.new 160) (.u (.new 163)))))))))
 (.seq (.set 3 (.lstE .aN))
 (.seq (.forE 4 5 (.v 1) XM)
 (.z (.ret (.tOf (.v 3))))))))⟩
noncomputable def c_fake_of:FD:=⟨3,3,(.z (.ret (.tupE (.aC (.ix (.v 0) (.i 0)) (.aC (.ix (.v 0) (.i 1)) (.u (.call 42 (.aC (.ix (.v 0) (.i 2)) (.aC (.v 1) (.u (.v 2)))) [])))))))⟩
noncomputable def c_worth:FD:=⟨2,2,(.seq (.w (.cmp .Eq (.ix (.v 0) (.i 0)) (.t "name")) (.z (.ret (.ix (.v 1) (.ix (.v 0) (.i 1))))))
 (.z (.ret (.ix (.v 0) (.i 1)))))⟩
noncomputable def c_began:FD:=⟨2,2,(.z (.ret (.tupE (.aC (.i 0) (.u (.bin .Add (.v 1) (.bin .Mult (.tupE (.u (.i 0))) (.bin .Sub (.ix (.v 0) (.i 1)) (.len (.v 1))))))))))⟩
noncomputable def c_at_end:FD:=⟨2,2,(.z (.ret (.cmp .GtE (.ix (.v 1) (.i 0)) (.len (.ix (.v 0) (.i 2))))))⟩
noncomputable def c_values_behind:FD:=⟨2,3,(.seq (.w (.cmp .NotEq (.ix (.v 0) (.i 0)) (.t "put")) (.z (.ret (.v 1))))
 (.seq (.set 2 (.call 3 (.aC (.call 5 (.aC (.ix (.v 0) (.i 2)) (.u (.v 1))) []) (.aC (.ix (.v 0) (.i 3)) (.u (.call 5 (.aC (.ix (.v 0) (.i 4)) (.u (.v 1))) [])))) []))
 (.z (.ret (.call 42 (.aC (.v 1) (.aC (.ix (.v 0) (.i 1)) (.u (.v 2)))) [])))))⟩
noncomputable def c_place_behind:FD:=⟨3,3,(.seq (.w (.cmp .Eq (.ix (.v 0) (.i 0)) (.t "go")) (.z (.ret (.ix (.v 0) (.i 1)))))
 (.seq (.w (.and (.cmp .Eq (.ix (.v 0) (.i 0)) (.t "if")) (.call 4 (.aC (.call 5 (.aC (.ix (.v 0) (.i 1)) (.u (.v 2))) []) (.aC (.ix (.v 0) (.i 2)) (.u (.call 5 (.aC (.ix (.v 0) (.i 3)) (.u (.v 2))) [])))) [])) (.z (.ret (.ix (.v 0) (.i 4)))))
 (.z (.ret (.bin .Add (.v 1) (.i 1))))))⟩
noncomputable def c_moved:FD:=⟨2,5,(.seq (.w (.call 7 (.aC (.v 0) (.u (.v 1))) []) (.z (.ret (.tupE (.u (.t "none"))))))
 (.seq (.set 2 (.ix (.v 1) (.i 0)))
 (.seq (.set 3 (.ix (.v 1) (.i 1)))
 (.seq (.set 4 (.ix (.ix (.v 0) (.i 2)) (.v 2)))
 (.seq (.w (.cmp .Eq (.ix (.v 4) (.i 0)) (.t "tell")) (.z (.ret (.tupE (.aC (.t "told") (.u (.call 5 (.aC (.ix (.v 4) (.i 1)) (.u (.v 3))) [])))))))
 (.z (.ret (.tupE (.aC (.call 9 (.aC (.v 4) (.aC (.v 2) (.u (.v 3)))) []) (.u (.call 8 (.aC (.v 4) (.u (.v 3))) [])))))))))))⟩
noncomputable def c_is_outcome:FD:=⟨1,1,(.z (.ret (.isi .str (.ix (.v 0) (.i 0)))))⟩
noncomputable def ZE:CS:=(.seq (.set 6 (.call 10 (.aC (.v 0) (.u (.v 3))) []))
 (.seq (.app 4 (.v 6))
 (.seq (.w (.call 11 (.u (.v 6)) []) (.z (.ret (.tOf (.v 4)))))
 (.z (.set 3 (.v 6))))))
noncomputable def c_trail:FD:=⟨3,7,(.seq (.set 3 (.call 6 (.aC (.v 0) (.u (.v 1))) []))
 (.seq (.set 4 (.lstE (.u (.v 3))))
 (.seq (.for1 5 true (.v 2) ZE)
 (.seq (.app 4 (.ife (.call 7 (.aC (.v 0) (.u (.v 3))) []) (.tupE (.u (.t "none"))) (.tupE (.u (.t "late")))))
 (.z (.ret (.tOf (.v 4))))))))⟩
noncomputable def X7:CE:=(.comp false [] (.v 1) (.ix (.v 0) (.i 0)) (.c (.bl true)))
noncomputable def c_places_done:FD:=⟨1,2,(.seq (.set 1 (.slice (.v 0) .nop (.part (.neg (.i 1)))))
 (.seq (.w (.cmp .NotEq (.ix (.ix (.v 0) (.neg (.i 1))) (.i 0)) (.t "told")) (.z (.set 1 (.slice (.v 1) .nop (.part (.neg (.i 1)))))))
 (.z (.ret X7))))⟩
noncomputable def XZ:CS:=(.z (.set 1 (.bin .BitOr (.v 1) (.call 43 (.u (.v 2)) []))))
noncomputable def c_seen_in:FD:=⟨1,3,(.seq (.set 1 (.i 0))
 (.seq (.for1 2 false (.call 14 (.u (.v 0)) []) XZ)
 (.z (.ret (.v 1)))))⟩
noncomputable def c_check_trials:FD:=⟨1,1,(.z (.w (.cmp .Gt (.len (.v 0)) (.i 10)) (.z .stop)))⟩
noncomputable def ZA:CS:=(.seq (.w (.cmp .NotEq (.v 4) (.v 5)) (.z (.set 2 (.bin .Add (.v 2) (.v 3)))))
 (.z (.set 3 (.bin .Mult (.v 3) (.i 2)))))
noncomputable def c_bits_unlike:FD:=⟨2,6,(.seq (.set 2 (.i 0))
 (.seq (.set 3 (.i 1))
 (.seq (.forP 4 5 (.aC (.v 0) (.u (.v 1))) ZA)
 (.z (.ret (.v 2))))))⟩
noncomputable def c_codes_of:FD:=⟨1,1,(.z (.ret (.comp3 [] (.call 172 (.u (.v 0)) []) (.tupE (.aC (.v 0) (.u (.v 2)))) (.c (.bl true)))))⟩
noncomputable def c_Book___init__:FD:=⟨4,4,(.seq (.act (.call 181 (.u (.v 2)) []))
 (.seq (.fset 0 (S "program") (.v 1))
 (.seq (.fset 0 (S "trials") (.v 2))
 (.seq (.fset 0 (S "limit") (.v 3))
 (.seq (.fset 0 (S "kept") .dnew)
 (.z (.fset 0 (S "done") (.i 0))))))))⟩
noncomputable def c_Book_program_of:FD:=⟨2,2,(.seq (.w (.cmp .Eq (.v 1) (.c (.tup []))) (.z (.ret (.fld (S "program") (.v 0)))))
 (.z (.ret (.call 180 (.aC (.fld (S "program") (.v 0)) (.aC (.ix (.v 1) (.i 0)) (.u (.ix (.v 1) (.i 1))))) []))))⟩
noncomputable def c_Book_outcome_of:FD:=⟨3,4,(.seq (.w (.cmp .NotIn (.tupE (.aC (.v 1) (.u (.v 2)))) (.fld (S "kept") (.v 0))) (.seq (.set 3 (.call 12 (.aC (.meth [(263,265)] (.v 0) (.u (.v 1))) (.aC (.v 2) (.u (.fld (S "limit") (.v 0))))) []))
 (.seq (.dput 0 (.fld (S "kept") (.v 0)) (.tupE (.aC (.v 1) (.u (.v 2)))) (.tupE (.aC (.ix (.v 3) (.neg (.i 1))) (.u (.call 44 (.u (.v 3)) [])))))
 (.z (.fset 0 (S "done") (.bin .Add (.fld (S "done") (.v 0)) (.i 1)))))))
 (.z (.ret (.ix (.ix (.fld (S "kept") (.v 0)) (.tupE (.aC (.v 1) (.u (.v 2))))) (.i 0)))))⟩
noncomputable def YW:CE:=(.comp false [1,0] (.fld (S "trials") (.v 0)) (.meth [(263,266)] (.v 2) (.aC (.v 1) (.u (.v 0)))) (.c (.bl true)))
noncomputable def c_Book_outcomes_of:FD:=⟨2,2,(.z (.ret YW))⟩
noncomputable def Xc:CE:=(.comp false [1,0] (.call 262 (.u (.fld (S "program") (.v 0))) []) (.call 183 (.aC (.v 1) (.u (.meth [(263,267)] (.v 2) (.u (.v 0))))) []) (.c (.bl true)))
noncomputable def c_Book_bits:FD:=⟨1,2,(.seq (.set 1 (.meth [(263,267)] (.v 0) (.u (.c (.tup [])))))
 (.z (.ret (.tOf Xc))))⟩
noncomputable def c_Book_runs:FD:=⟨1,1,(.z (.ret (.fld (S "done") (.v 0))))⟩
noncomputable def c_Book_now:FD:=⟨1,1,(.z (.ret (.fld (S "program") (.v 0))))⟩
noncomputable def c_Book_change:FD:=⟨3,3,(.z (.act (.call 261 (.u (.i 0)) [])))⟩
noncomputable def c_Book_add:FD:=⟨2,3,(.seq (.set 2 (.bin .Add (.fld (S "trials") (.v 0)) (.tupE (.u (.v 1)))))
 (.seq (.act (.call 181 (.u (.v 2)) []))
 (.z (.fset 0 (S "trials") (.v 2)))))⟩
noncomputable def c__law_whole:FD:=⟨1,1,(.z (.ret (.and (.isi .int (.v 0)) (.not (.isi .bool (.v 0))))))⟩
noncomputable def c__law_cell_at:FD:=⟨2,2,(.seq (.w (.cmp .Lt (.v 1) (.len (.v 0))) (.z (.ret (.ix (.v 0) (.v 1)))))
 (.z (.ret (.bin .Mod (.bin .Mult (.bin .Add (.bin .Mod (.ix (.bin .Add (.v 0) (.lstE (.u (.i 0)))) (.i 0)) (.i 1000003)) (.i 31)) (.bin .Add (.bin .Mult (.v 1) (.v 1)) (.i 80021))) (.i 2147483647)))))⟩
noncomputable def c__law_number:FD:=⟨1,1,(.seq (.w (.cmp .Eq (.bin .Mod (.v 0) (.i 4)) (.i 0)) (.z (.ret (.bin .Sub (.bin .Mod (.bin .FloorDiv (.v 0) (.i 4)) (.i 2000000000)) (.i 1000000000)))))
 (.seq (.w (.cmp .Eq (.bin .Mod (.v 0) (.i 4)) (.i 1)) (.z (.ret (.ix (.lstE (.aC (.i 999999999) (.aC (.neg (.i 1000000000)) (.aC (.neg (.i 1)) (.aC (.i 0) (.u (.i 1))))))) (.bin .Mod (.bin .FloorDiv (.v 0) (.i 4)) (.i 5))))))
 (.z (.ret (.bin .Sub (.bin .Mod (.bin .FloorDiv (.v 0) (.i 4)) (.i 7)) (.i 3))))))⟩
noncomputable def c__law_operand:FD:=⟨2,2,(.seq (.w (.cmp .Eq (.bin .Mod (.v 0) (.i 3)) (.i 0)) (.z (.ret (.tupE (.aC (.t "number") (.u (.call 185 (.u (.bin .FloorDiv (.v 0) (.i 3))) [])))))))
 (.z (.ret (.tupE (.aC (.t "name") (.u (.bin .Mod (.bin .FloorDiv (.v 0) (.i 3)) (.v 1))))))))⟩
noncomputable def c__law_row:FD:=⟨3,6,(.seq (.set 3 (.bin .FloorDiv (.ix (.v 0) (.i 0)) (.i 8)))
 (.seq (.set 4 (.call 28 (.aC (.ix (.v 0) (.i 1)) (.u (.v 1))) []))
 (.seq (.set 5 (.call 28 (.aC (.ix (.v 0) (.i 2)) (.u (.v 1))) []))
 (.seq (.w (.cmp .Lt (.bin .Mod (.ix (.v 0) (.i 0)) (.i 8)) (.i 3)) (.z (.ret (.tupE (.aC (.t "put") (.aC (.bin .Mod (.v 3) (.v 1)) (.aC (.v 4) (.aC (.ix (.lstE (.aC (.t "+") (.aC (.t "-") (.aC (.t "*") (.aC (.t "/") (.u (.t "mod"))))))) (.bin .Mod (.bin .FloorDiv (.v 3) (.v 1)) (.i 5))) (.u (.v 5))))))))))
 (.seq (.w (.cmp .Lt (.bin .Mod (.ix (.v 0) (.i 0)) (.i 8)) (.i 5)) (.z (.ret (.tupE (.aC (.t "if") (.aC (.v 4) (.aC (.ix (.lstE (.aC (.t "<") (.aC (.t "<=") (.aC (.t "=") (.aC (.t ">=") (.aC (.t ">") (.u (.t "!=")))))))) (.bin .Mod (.v 3) (.i 6))) (.aC (.v 5) (.u (.bin .Mod (.bin .FloorDiv (.v 3) (.i 6)) (.bin .Add (.v 2) (.i 1))))))))))))
 (.seq (.w (.cmp .Lt (.bin .Mod (.ix (.v 0) (.i 0)) (.i 8)) (.i 7)) (.z (.ret (.tupE (.aC (.t "tell") (.u (.v 5)))))))
 (.z (.ret (.ix (.lstE (.aC (.tupE (.u (.t "skip"))) (.u (.tupE (.aC (.t "go") (.u (.bin .Mod (.bin .FloorDiv (.v 3) (.i 2)) (.bin .Add (.v 2) (.i 1))))))))) (.bin .Mod (.v 3) (.i 2)))))))))))⟩
noncomputable def c__law_round:FD:=⟨1,1,(.z (.ret (.bin .Sub (.bin .Mod (.bin .Add (.v 0) (.i 1000000000)) (.i 2000000000)) (.i 1000000000))))⟩
noncomputable def c__law_sum:FD:=⟨3,3,(.seq (.w (.cmp .Eq (.v 1) (.t "+")) (.z (.ret (.call 89 (.u (.bin .Add (.v 0) (.v 2))) []))))
 (.seq (.w (.cmp .Eq (.v 1) (.t "-")) (.z (.ret (.call 89 (.u (.bin .Sub (.v 0) (.v 2))) []))))
 (.seq (.w (.cmp .Eq (.v 1) (.t "*")) (.z (.ret (.call 89 (.u (.bin .Mult (.v 0) (.v 2))) []))))
 (.seq (.w (.cmp .Eq (.v 1) (.t "/")) (.z (.ret (.ife (.cmp .Eq (.v 2) (.i 0)) (.i 0) (.call 89 (.u (.bin .FloorDiv (.v 0) (.v 2))) [])))))
 (.z (.ret (.ife (.cmp .Eq (.v 2) (.i 0)) (.v 0) (.bin .Sub (.v 0) (.bin .Mult (.v 2) (.bin .FloorDiv (.v 0) (.v 2)))))))))))⟩
noncomputable def c__law_so:FD:=⟨3,3,(.seq (.w (.cmp .Lt (.v 0) (.v 2)) (.z (.ret (.cmp .In (.v 1) (.lstE (.aC (.t "<") (.aC (.t "<=") (.u (.t "!=")))))))))
 (.seq (.w (.cmp .Gt (.v 0) (.v 2)) (.z (.ret (.cmp .In (.v 1) (.lstE (.aC (.t ">") (.aC (.t ">=") (.u (.t "!=")))))))))
 (.z (.ret (.cmp .In (.v 1) (.lstE (.aC (.t "<=") (.aC (.t "=") (.u (.t ">="))))))))))⟩
noncomputable def c__law_worth:FD:=⟨2,2,(.seq (.w (.cmp .Eq (.ix (.v 0) (.i 0)) (.t "name")) (.z (.ret (.ix (.v 1) (.ix (.v 0) (.i 1))))))
 (.z (.ret (.ix (.v 0) (.i 1)))))⟩
noncomputable def Zj:CS:=(.seq (.w (.cmp .Eq (.v 5) (.len (.v 0))) (.z (.ret (.tupE (.u (.t "none"))))))
 (.seq (.set 7 (.ix (.v 0) (.v 5)))
 (.seq (.set 5 (.bin .Add (.v 5) (.i 1)))
 (.seq (.w (.cmp .Eq (.ix (.v 7) (.i 0)) (.t "tell")) (.z (.ret (.tupE (.aC (.t "told") (.u (.call 34 (.aC (.ix (.v 7) (.i 1)) (.u (.v 4))) [])))))))
 (.seq (.w (.cmp .Eq (.ix (.v 7) (.i 0)) (.t "put")) (.z (.put 4 (.ix (.v 7) (.i 1)) (.call 187 (.aC (.call 34 (.aC (.ix (.v 7) (.i 2)) (.u (.v 4))) []) (.aC (.ix (.v 7) (.i 3)) (.u (.call 34 (.aC (.ix (.v 7) (.i 4)) (.u (.v 4))) [])))) []))))
 (.seq (.w (.cmp .Eq (.ix (.v 7) (.i 0)) (.t "go")) (.z (.set 5 (.ix (.v 7) (.i 1)))))
 (.z (.w (.cmp .Eq (.ix (.v 7) (.i 0)) (.t "if")) (.seq (.set 8 (.call 34 (.aC (.ix (.v 7) (.i 1)) (.u (.v 4))) []))
 (.z (.w (.call 33 (.aC (.v 8) (.aC (.ix (.v 7) (.i 2)) (.u (.call 34 (.aC (.ix (.v 7) (.i 3)) (.u (.v 4))) [])))) []) (.z (.set 5 (.ix (.v 7) (.i 4)))))))))))))))
noncomputable def c__law_outcome:FD:=⟨4,9,(.seq (.set 4 (.bin .Add (.listOf (.v 2)) (.bin .Mult (.lstE (.u (.i 0))) (.bin .Sub (.v 1) (.len (.v 2))))))
 (.seq (.set 5 (.i 0))
 (.seq (.for1 6 true (.v 3) Zj)
 (.seq (.w (.cmp .Eq (.v 5) (.len (.v 0))) (.z (.ret (.tupE (.u (.t "none"))))))
 (.z (.ret (.tupE (.u (.t "late")))))))))⟩
noncomputable def Xx:CE:=(.comp false [2,4,5] (.v 1) (.call 188 (.aC (.v 3) (.aC (.v 2) (.aC (.v 0) (.u (.v 1))))) []) (.c (.bl true)))
noncomputable def ZO:CS:=(.z (.w (.cmp .NotEq (.call 188 (.aC (.v 11) (.aC (.v 4) (.aC (.ix (.v 1) (.v 13)) (.u (.v 2))))) []) (.ix (.v 6) (.v 13))) (.z (.set 12 (.bin .Add (.v 12) (.bin .LShift (.i 1) (.v 13)))))))
noncomputable def c__law_due:FD:=⟨3,14,(.seq (.set3 3 4 5 (.v 0))
 (.seq (.set 6 Xx)
 (.seq (.set 7 (.lstE .aN))
 (.seq (.for4 8 9 10 (.call 172 (.u (.v 0)) []) (.seq (.set 11 (.bin .Add (.bin .Add (.slice (.v 5) .nop (.part (.v 8))) (.tupE (.u (.v 10)))) (.slice (.v 5) (.part (.bin .Add (.v 8) (.i 1))) .nop)))
 (.seq (.set 12 (.i 0))
 (.seq (.for1 13 true (.len (.v 1)) ZO)
 (.z (.app 7 (.v 12)))))))
 (.z (.ret (.v 7)))))))⟩
noncomputable def ZL:CE:=(.comp false [] (.v 7) (.v 0) (.not (.call 17 (.u (.v 0)) [])))
noncomputable def Yk:CS:=(.z (.put 4 (.v 6) (.c (.bl true))))
noncomputable def c__law_asked:FD:=⟨5,8,(.seq (.set 5 (.call 38 (.aC (.v 1) (.aC (.v 2) (.u (.v 3)))) []))
 (.seq (.for1 6 false (.v 2) Yk)
 (.seq (.set 7 (.meth [(263,268)] (.v 0) .aN))
 (.seq (.w (.or (.not (.isi .tuple (.v 7))) (.cmp .NotEq ZL (.lstE .aN))) (.z (.ret (.c (.bl false)))))
 (.z (.ret (.and (.cmp .Eq (.listOf (.v 7)) (.v 5)) (.cmp .Eq (.meth [(263,269)] (.v 0) .aN) (.bin .Mult (.len (.v 4)) (.bin .Add (.i 1) (.len (.v 5))))))))))))⟩
noncomputable def c__law_added:FD:=⟨3,4,(.seq (.set 3 (.meth [(263,269)] (.v 0) .aN))
 (.seq (.ite (.cmp .Eq (.len (.v 1)) (.i 10)) (.z (.w (.not (.call 229 (.aC (.v 0) (.u (.v 2))) [])) (.z (.ret (.c (.bl false)))))) (.seq (.w (.cmp .IsNot (.meth [(263,272)] (.v 0) (.u (.v 2))) (.c .non)) (.z (.ret (.c (.bl false)))))
 (.z (.app 1 (.v 2)))))
 (.z (.ret (.cmp .Eq (.meth [(263,269)] (.v 0) .aN) (.v 3))))))⟩
noncomputable def YX:CE:=(.comp true [7,0] (.i 3) (.call 27 (.aC (.v 2) (.u (.bin .Add (.bin .Add (.i 3) (.bin .Mult (.i 3) (.v 1))) (.v 0)))) []) (.c (.bl true)))
noncomputable def X0:CE:=(.comp true [11,0] (.v 2) (.call 185 (.u (.call 27 (.aC (.v 2) (.u (.bin .Add (.bin .Add (.i 9) (.bin .Mult (.i 2) (.v 1))) (.v 0)))) [])) []) (.c (.bl true)))
noncomputable def Ys:CE:=(.comp true [15] (.v 2) (.call 185 (.u (.bin .Mod (.bin .Mult (.bin .FloorDiv (.v 1) (.i 6)) (.ix (.lstE (.aC (.i 1) (.u (.i 48271)))) (.v 0))) (.i 2147483647))) []) (.c (.bl true)))
noncomputable def Yr:CS:=(.seq (.set 15 (.call 27 (.aC (.v 0) (.u (.v 14))) []))
 (.seq (.set 16 (.tOf Ys))
 (.seq (.w (.and (.cmp .Eq (.bin .Mod (.bin .FloorDiv (.v 15) (.i 2)) (.i 3)) (.i 0)) (.cmp .NotEq (.v 10) (.lstE .aN))) (.z (.set 16 (.ix (.v 10) (.bin .Mod (.bin .FloorDiv (.v 15) (.i 6)) (.len (.v 10)))))))
 (.seq (.w (.or (.not (.call 279 (.aC (.v 12) (.aC (.v 10) (.u (.v 16)))) [])) (.cmp .NotEq (.meth [(263,270)] (.v 12) .aN) (.v 8))) (.z (.ret (.c (.bl false)))))
 (.z (.w (.and (.cmp .Eq (.bin .Mod (.v 15) (.i 2)) (.i 1)) (.not (.call 278 (.aC (.v 12) (.aC (.v 8) (.aC (.v 10) (.aC (.v 9) (.u (.v 13)))))) []))) (.z (.ret (.c (.bl false))))))))))
noncomputable def XX:CS:=(.z (.app 10 (.tOf X0)))
noncomputable def XY:CS:=(.z (.app 6 (.call 29 (.aC YX (.aC (.v 3) (.u (.v 4)))) [])))
noncomputable def c_law_k72:FD:=⟨1,17,(.seq (.set 1 (.call 27 (.aC (.v 0) (.u (.i 0))) []))
 (.seq (.set 2 (.bin .Mod (.v 1) (.i 3)))
 (.seq (.set 3 (.bin .Add (.max (.i 1) (.v 2)) (.bin .Mod (.bin .FloorDiv (.v 1) (.i 3)) (.bin .Sub (.i 6) (.max (.i 1) (.v 2))))))
 (.seq (.set 4 (.bin .Mod (.call 27 (.aC (.v 0) (.u (.i 1))) []) (.i 3)))
 (.seq (.set 5 (.bin .Mod (.bin .FloorDiv (.call 27 (.aC (.v 0) (.u (.i 1))) []) (.i 3)) (.i 3)))
 (.seq (.w (.cmp .Eq (.bin .Mod (.call 27 (.aC (.v 0) (.u (.i 2))) []) (.i 4)) (.i 3)) (.seq (.set 4 (.bin .Mod (.v 4) (.i 2)))
 (.z (.set 5 (.bin .Add (.i 7) (.bin .Mod (.bin .FloorDiv (.call 27 (.aC (.v 0) (.u (.i 1))) []) (.i 3)) (.i 4)))))))
 (.seq (.set 6 (.lstE .aN))
 (.seq (.for1 7 true (.v 4) XY)
 (.seq (.set 8 (.tupE (.aC (.bin .Mult (.tupE (.u (.tupE (.aC (.i 0) (.u (.i 9)))))) (.v 2)) (.aC (.v 3) (.u (.tOf (.v 6)))))))
 (.seq (.set 9 (.bin .Mod (.bin .FloorDiv (.call 27 (.aC (.v 0) (.u (.i 2))) []) (.i 4)) (.i 9)))
 (.seq (.set 10 (.lstE .aN))
 (.seq (.for1 11 true (.v 5) XX)
 (.seq (.set 12 (.mk 263 264 (.aC (.v 8) (.aC (.tOf (.v 10)) (.u (.v 9)))) []))
 (.seq (.set 13 .dnew)
 (.seq (.for3 14 (.aC (.bin .Add (.i 9) (.bin .Mult (.i 2) (.v 5))) (.u (.bin .Add (.i 14) (.bin .Mult (.i 2) (.v 5))))) Yr)
 (.z (.ret (.call 278 (.aC (.v 12) (.aC (.v 8) (.aC (.v 10) (.aC (.v 9) (.u (.v 13)))))) []))))))))))))))))))⟩
end Dp
noncomputable section
namespace Dp
open PySem
noncomputable def T:Nat->Ot FD
 |261=>some c__wall
 |42=>some c_replaced
 |113=>some c_operand_places
 |43=>some c_bit_of
 |0=>some c_around
 |1=>some c_divided
 |2=>some c_left_over
 |3=>some c_reckon
 |4=>some c_is_so
 |70=>some c_behind
 |147=>some c_Step_word
 |148=>some c_Step_turned
 |170=>some c_Sign_word
 |171=>some c_Sign_turned
 |150=>some c_More_word
 |151=>some c_More_turned
 |158=>some c_Turn_word
 |159=>some c_Turn_turned
 |153=>some c_Out_word
 |154=>some c_Out_turned
 |161=>some c_Swap_word
 |162=>some c_Swap_turned
 |164=>some c_Far_word
 |165=>some c_Far_turned
 |172=>some c_fakes
 |180=>some c_fake_of
 |5=>some c_worth
 |6=>some c_began
 |7=>some c_at_end
 |8=>some c_values_behind
 |9=>some c_place_behind
 |10=>some c_moved
 |11=>some c_is_outcome
 |12=>some c_trail
 |14=>some c_places_done
 |44=>some c_seen_in
 |181=>some c_check_trials
 |183=>some c_bits_unlike
 |262=>some c_codes_of
 |264=>some c_Book___init__
 |265=>some c_Book_program_of
 |266=>some c_Book_outcome_of
 |267=>some c_Book_outcomes_of
 |268=>some c_Book_bits
 |269=>some c_Book_runs
 |270=>some c_Book_now
 |271=>some c_Book_change
 |272=>some c_Book_add
 |17=>some c__law_whole
 |27=>some c__law_cell_at
 |185=>some c__law_number
 |28=>some c__law_operand
 |29=>some c__law_row
 |89=>some c__law_round
 |187=>some c__law_sum
 |33=>some c__law_so
 |34=>some c__law_worth
 |188=>some c__law_outcome
 |38=>some c__law_due
 |278=>some c__law_asked
 |279=>some c__law_added
 |16=>some c_law_k72
 |229=>some ⟨2,4,.seq (.act (.call 910 .aN [])) (.seq (.act (.meth [(263,270)] (.v 0) .aN)) (.ite (.cmp .Eq (.len (.bin .Add (.fld (S "trials") (.v 0)) (.tupE (.u (.v 1))))) (.i 11)) (.ret (.c (.bl true))) .stop))⟩
 |910=>some ⟨0,0,.ret (.call 911 .aN [])⟩
 |911=>some ⟨0,0,.skip⟩
 |_=>none
noncomputable abbrev rT:=run T
structure Grw(s s':Za):Prop where
 old:∀ i,i < s.length->s'[i]?=s[i]?
 len:s.length<=s'.length
variable{α:Type}{U':Env}{wk:D->Za->Ot (Li D×(Za->Prop))}{fr:Li Nat}{it elt:CE}{lo hi:Ot Int}
variable{F:Nat->Fn}{s st:Za}{e a b c:CE}{U:Env}{d x y:D}{q:CS}{n i j w:Nat}{xs ds:Li D}
section
variable{s' s1 s2:Za}{z:D}{p:CS}{f:Nat}{k m:Bool}{t:Z8}
theorem Zh{l:Li α}{x:α}(h:l[i]?=some x):i < l.length:=(bB.mp h).1
theorem Grw.refl:Grw s s:=⟨λ_ _=>rfl,aD _⟩
theorem Grw.trans(a:Grw s s1)(b:Grw s1 s2):Grw s s2:=⟨λi h=>(b.old i (aS h a.len)).trans (a.old i h),aP a.len b.len⟩
theorem Grw.get(g:Grw s s')(h:s[i]?=some t):s'[i]?=some t:=(g.old i (Zh h)).trans h
theorem Grw.push:Grw s (s++[t]):=⟨λi h=>bU h,by rw[aK];omega⟩
theorem Grw.nil:Grw [] s:=⟨λ_ h=>absurd h (Nat.not_lt_zero _),aV _⟩
def Gv(s:Za)(f:Za->Res)(d:D):Prop:=∀ st,Grw s st->∃ st',f st=some (d,st')/\Grw st st'
def Y(F:Nat->Fn)(s:Za)(e:CE)(U:Env)(d:D):Prop:=Gv s (ev F e U) d
def C(F:Nat->Fn)(s:Za)(f:Nat)(ds:Li D)(d:D):Prop:=Gv s (F f ds) d
def R(F:Nat->Fn)(s:Za)(q:CS)(U:Env)(d:D):Prop:=∀ st,Grw s st->∃ st',ex F q U st=some (.rt d,st')/\Grw st st'
theorem rf{f:Za->Res}(x:Za):f x=f x:=rfl
theorem Y.r(h:∀ st,ev F e U st=some (d,st)):Y F s e U d:=λst _=>⟨st,h st,.refl⟩
theorem Y.at(h:∀ st,Grw s st->ev F e U st=some (d,st)):Y F s e U d:=λst g=>⟨st,h st g,.refl⟩
theorem Gv.mono{f:Za->Res}(h:Gv s f d)(g:Grw s s'):Gv s' f d:=λst k=>h st (g.trans k)
theorem C.up(h:C F [] f ds d):C F s f ds d:=Gv.mono h .nil
theorem g1{g:D->Za->Res}(e:Y F s a U x)(h:Gv s (g x) d):Gv s (Zn (ev F a) g U) d:=λst k=>by
 obtain⟨s1,i,b⟩:=e st k;obtain⟨s2,f,c⟩:=h s1 (k.trans b);exact⟨s2,by unfold Zn;rw[i];exact f,b.trans c⟩
theorem g2{g:D->D->Za->Res}(l:Y F s a U x)(j:Y F s b U y)(h:Gv s (g x y) d):Gv s (Zz (ev F a) (ev F b) g U) d:=λst k=>by
 obtain⟨s1,o,c⟩:=l st k;obtain⟨s2,n,e⟩:=j s1 (k.trans c);obtain⟨f,m,i⟩:=h s2 (k.trans (c.trans e));exact⟨f,by unfold Zz;rw[o];simp only[n];exact m,c.trans (e.trans i)⟩
theorem gp{f:Za->Res}(h:∀ st,f st=some (d,st)):Gv s f d:=λst _=>⟨st,h st,.refl⟩
theorem gs{f:Za->Res}(h:∀ st,Grw s st->f st=some (d,st)):Gv s f d:=λst k=>⟨st,h st k,.refl⟩
theorem Y.cmp{op:CmpOp}(d:Y F s a U x)(c:Y F s b U y)(h:∀ st,VJ op x y st=some k):Y F s (.cmp op a b) U (.bl k):=g2 d c (gp λst=>by unfold Yx;rw[h])
theorem gc{e b c:Ev}(i:Gv s (e U) (.bl k))(h:Gv s ((if k then b else c) U) d):Gv s (Z0 e b c U) d:=λst g=>by
 obtain⟨s1,l,a⟩:=i st g;obtain⟨s2,j,f⟩:=h s1 (g.trans a);exact⟨s2,by unfold Z0;rw[l];cases k<;>exact j,a.trans f⟩
theorem Y.and(c:Y F s a U (.bl k))(d:k=true->Y F s b U (.bl m)):Y F s (.and a b) U (.bl (k&&m)):=by
 cases k
 .exact gc c (gp λ_=>rfl)
 .exact gc c (d rfl)
theorem Y.or(c:Y F s a U (.bl k))(d:k=false->Y F s b U (.bl m)):Y F s (.or a b) U (.bl (k||m)):=by
 cases k
 .exact gc c (d rfl)
 .exact gc c (gp λ_=>rfl)
theorem Y.not(b:Y F s a U (.bl k)):Y F s (.not a) U (.bl (!k)):=g1 b (gp λ_=>rfl)
theorem Y.ife(e:Y F s c U (.bl k))(h:Y F s (if k then a else b) U d):Y F s (.ife c a b) U d:=by
 cases k<;>exact gc e h
theorem Y.call(b:Y F s a U (.tup xs))(h:C F s f (xs++ds) d):Y F s (.call f a ds) U d:=g1 b h
theorem Y.cons(e:Y F s a U x)(d:Y F s b U (.tup xs))(c:xs.length < 1000:=by first|decide | (simp only[aQ,cU];decide)):Y F s (.aC a b) U (.tup (x :: xs)):=g2 e d (gp λst=>if_pos c)
theorem Y.nil:Y F s .aN U (.tup []):=.r rf
theorem Y.call1(b:Y F s a U x)(h:C F s f [x] d):Y F s (.call f (.u a) []) U d:=.call (.cons b .nil) h
theorem R.ret(h:Y F s e U d):R F s (.seq (.ret e) q) U d:=λst g=>by
 obtain⟨s1,b,a⟩:=h st g;exact⟨s1,by show Yh (WN (ev F e)) (ex F q) U st=_;unfold Yh WN;rw[b],a⟩
theorem R.set(h:Y F s e U x)(c:R F s q (Zg U i x) d):R F s (.seq (.set i e) q) U d:=λst g=>by
 obtain⟨s1,j,a⟩:=h st g;obtain⟨s2,f,b⟩:=c s1 (g.trans a);exact⟨s2,by show Yh (WF i (ev F e)) (ex F q) U st=_;unfold Yh WF;rw[j];exact f,a.trans b⟩
theorem R.no(h:Y F s e U (.bl false))(c:R F s q U d):R F s (.seq (.ite e p .skip) q) U d:=λst g=>by
 obtain⟨s1,i,a⟩:=h st g;obtain⟨s2,f,b⟩:=c s1 (g.trans a);exact⟨s2,by show Yh (YI (ev F e) (ex F p) (ex F .skip)) (ex F q) U st=_;unfold Yh YI;rw[i];exact f,a.trans b⟩
theorem R.yB(h:Y F s e U (.bl true))(c:R F s p U d):R F s (.seq (.ite e p .skip) q) U d:=λst g=>by
 obtain⟨s1,i,a⟩:=h st g;obtain⟨s2,f,b⟩:=c s1 (g.trans a);exact⟨s2,by show Yh (YI (ev F e) (ex F p) (ex F .skip)) (ex F q) U st=_;unfold Yh YI;rw[i];simp only[f],a.trans b⟩
theorem R.yes(h:Y F s e U (.bl true))(b:Y F s a U d):R F s (.seq (.ite e (.z (.ret a)) .skip) q) U d:=.yB h (.ret b)
theorem ZgL{v:FD}(h:T f=some v)(a:ds.length=v.ps):rT (n+1) f ds st=match ex (rT n) v.body (ds.map some++List.replicate (v.ns - ds.length) none) st with
  |some (.rt d,st')=>some (d,st')
  |some (.nx _,st')=>some (.non,st')
  |_=>none:=by
 show(match T f with|some f=>fnD (rT n) f|none=>λ_ _=>none) ds st=_
 rw[h];exact if_pos a
theorem Yd{v:FD}(h:T f=some v)(b:ds.length=v.ps)(a:ex (rT n) v.body (ds.map some++List.replicate (v.ns - ds.length) none) st=some (.rt d,s')):rT (n+1) f ds st=some (d,s'):=by rw[ZgL h b,a]
theorem Zfi{v:FD}(h:T f=some v)(b:ds.length=v.ps)(a:ex (rT n) v.body (ds.map some++List.replicate (v.ns - ds.length) none) st=some (.nx U',s')):rT (n+1) f ds st=some (.non,s'):=by rw[ZgL h b,a]
theorem C.of{v:FD}(h:T f=some v)(c:ds.length=v.ps)(b:R (rT n) s v.body (ds.map some++List.replicate (v.ns - ds.length) none) d):C (rT (n+1)) s f ds d:=λst g=>by
 obtain⟨s1,e,a⟩:=b st g;exact⟨s1,Yd h c e,a⟩
theorem Zc(h:ex F p U st=some (.nx U',s')):ex F (.seq p q) U st=ex F q U' s':=by
 show Yh (ex F p) (ex F q) U st=_;unfold Yh;rw[h]
theorem Zp(h:ex F p U st=some (.rt d,s')):ex F (.seq p q) U st=some (.rt d,s'):=by
 show Yh (ex F p) (ex F q) U st=_;unfold Yh;rw[h]
theorem X9{α:Type}{f g:α->D}{ok:Za->Prop}{fe fc:D->Za->Res}(e:∀ d st,fc d st=some (.bl true,st))(b:∀ st,Grw s st->ok st):∀ {l:Li α},(∀ a∈l,Gv s (fe (f a)) (g a))->∀ st,Grw s st->∃ st',ZI ok fe fc (l.map f) st=some (l.map g,st')/\Grw st st'
 |[],_,st,k=>⟨st,if_pos (b st k),.refl⟩
 |x :: xs,h,st,k=>by
  obtain⟨s1,n,c⟩:=h x lQ7 st k;obtain⟨s2,m,i⟩:=X9 e b (λd j=>h d (lM7 _ j)) s1 (k.trans c)
  refine⟨s2,?_,c.trans i⟩;rw[aM,ZI,if_pos (b st k),e];simp only[n,m,aM]
def Lv(s:Za)(f:Za->Res)(xs:Li D):Prop:=∀ st,Grw s st->∃ st' j b,f st=some (.lst j,st')/\st'[j]?=some (b,xs)/\Grw st st'
theorem Zu:(s++[t])[s.length]?=some t:=by rw[bX (aD _),Nat.sub_self];rfl
def Wk(F:Nat->Fn)(s:Za)(it:CE)(U:Env)(wk:D->Za->Ot (Li D×(Za->Prop)))(xs:Li D):Prop:=∀ st,Grw s st->∃ x a ok,ev F it U st=some (x,a)/\Grw st a/\wk x a=some (xs,ok)/\∀ st',Grw a st'->ok st'
theorem Wk.of(hi:Y F s e U x)(h:∀ st,wk x st=some (xs,λ_=>True)):Wk F s e U wk xs:=λst k=>by
 obtain⟨s1,b,a⟩:=hi st k;exact⟨x,s1,_,b,a,h s1,λ_ _=>trivial⟩
theorem V1{b:D->Li (Ot D)}{en g:α->D}{l:Li α}(hi:Wk F s it U wk (l.map en))(j:l.length<=1000)(h:∀ a∈l,Y F s elt (ZQ b U fr (en a)) (g a)):Lv s (Ye b wk fr (ev F it) (ev F elt) (ev F (.c (.bl true))) U) (l.map g):=λst k=>by
 obtain⟨x,s1,ok,p,e,o,i⟩:=hi st k;obtain⟨s2,n,f⟩:=X9 (s:=s1) (ok:=ok) (fe:=λd=>ev F elt (ZQ b U fr d)) (fc:=λd=>ev F (.c (.bl true)) (ZQ b U fr d)) (λ_ _=>rfl) i (λa m=>Gv.mono (h a m) (k.trans e)) s1 .refl
 refine⟨s2++[(true,l.map g)],_,_,?_,Zu,(e.trans f).trans .push⟩;unfold Ye;simp only[p,o,aE,if_pos j,n]
theorem UC(h:xs[j]?=some d):atD xs (j:Int)=some d:=by
 have:=Zh h;unfold atD ixN;rw[if_pos (by omega),if_pos (by omega),oB7,bD,h]
theorem Y.ixl(c:s[w]?=some t)(f:Y F s a U (.lst w))(e:Y F s b U (.int (j:Int)))(h:t.2[j]?=some d):Y F s (.ix a b) U d:=g2 f e (gs λst k=>by
 show ixR (.lst w) (.int (j:Int)) st=_;unfold ixR ixD;simp only[k.get c,UC h])
theorem Y.ixt(e:Y F s a U (.tup xs))(c:Y F s b U (.int (j:Int)))(h:xs[j]?=some d):Y F s (.ix a b) U d:=g2 e c (gp λst=>by
 show ixR (.tup xs) (.int (j:Int)) st=_;unfold ixR ixD;simp only[UC h])
theorem Y.lenl(b:s[w]?=some t)(c:Y F s a U (.lst w)):Y F s (.len a) U (.int (t.2.length:Int)):=g1 c (gs λst k=>by
 show Vi (.lst w) st=_;unfold Vi Vh;simp only[k.get b])
theorem Lv.sl(i:s[w]?=some t)(m:Y F s a U (.lst w))(l:Y F s b U x)(j:Y F s c U y)(h:∀ st,YO (.lst w) x y st=Z7 (.lst w) lo hi st):Lv s (ev F (.slice a b c) U) (Xw t.2 lo hi):=λst k=>by
 obtain⟨s1,p,d⟩:=m st k;obtain⟨s2,o,e⟩:=l s1 (k.trans d);obtain⟨g,n,f⟩:=j s2 (k.trans (d.trans e));refine⟨g++[(true,Xw t.2 lo hi)],_,_,?_,Zu,(d.trans (e.trans f)).trans .push⟩;show XF (ev F a) (ev F b) (ev F c) YO U st=_;unfold XF;simp only[p,o,n,h];unfold Z7;simp only[(k.trans (d.trans (e.trans f))).get i]
theorem Lv.mk(h:Y F s e U (.tup xs)):Lv s (ev F (.lstE e) U) xs:=λst k=>by
 obtain⟨s1,b,a⟩:=h st k;exact⟨_,_,_,by show Zn (ev F e) ZaD U st=_;unfold Zn;rw[b];rfl,Zu,a.trans .push⟩
theorem Yg{c:Z8}(h:ev F e U st=some (.lst j,s'))(a:s'[j]?=some c):ev F (.tOf e) U st=some (.tup c.2,s'):=by
 show Zn (ev F e) Vy U st=_;unfold Zn;rw[h];show(match s'[j]? with
  |some (_,xs)=>some (D.tup xs,s')
  |none=>none)=_
 rw[a]
theorem ZK(h:ev F e U st=some (d,s')):ex F (.ret e) U st=some (.rt d,s'):=by
 show WN (ev F e) U st=_;unfold WN;rw[h]
theorem Zk(h:ev F e U st=some (v,st')):ex F (.set i e) U st=some (.nx (Zg U i v),st'):=by
 show WF i (ev F e) U st=_;unfold WF;rw[h]
theorem ZR(h:ev F e U st=some (.bl false,st')):ex F (.ite e p q) U st=ex F q U st':=by
 show YI (ev F e) (ex F p) (ex F q) U st=_;unfold YI;rw[h]
theorem Z9(h:ev F e U st=some (.bl true,st')):ex F (.ite e p q) U st=ex F p U st':=by
 show YI (ev F e) (ex F p) (ex F q) U st=_;unfold YI;rw[h]
theorem Ze:ex F .skip U st=some (.nx U,st):=rfl
theorem QI(h:ev F e U st=some (d,s')):ex F (.act e) U st=some (.nx U,s'):=by
 show Ux (ev F e) U st=_;unfold Ux;rw[h]
end
variable{st' st1:Za}{U':Env}{ys:Li D}
section
variable{U'':Env}{p:CS}{k:Bool}
structure Kj(j:Nat)(st st':Za):Prop where
 old:∀ i,i < st.length->i≠j->st'[i]?=st[i]?
 len:st.length<=st'.length
theorem Grw.kj(g:Grw st st'):Kj j st st':=⟨λi h _=>g.old i h,g.len⟩
theorem Kj.trans(a:Kj j st st1)(b:Kj j st1 st'):Kj j st st':=⟨λi h c=>(b.old i (aS h a.len) c).trans (a.old i h c),aP a.len b.len⟩
theorem Kj.grw(k:Kj j st st')(a:s.length<=j)(g:Grw s st):Grw s st':=⟨λi h=>(k.old i (aS h g.len) (by omega)).trans (g.old i h),aP g.len k.len⟩
theorem Zv{c:Z8}(h:i < st.length):(st.set i c)[j]?=if i=j then some c else st[j]?:=by
 rw[List.getElem?_set];split
 .rename_i e;subst e
  first|rfl|rw[if_pos h]
 .rfl
def Ap(F:Nat->Fn)(s:Za)(j:Nat)(q:CS)(U U':Env)(xs:Li D):Prop:=∀ st a,Grw s st->st[j]?=some (true,a)->a.length+xs.length<=900->∃ st',ex F q U st=some (.nx U',st')/\Kj j st st'/\st'[j]?=some (true,a++xs)
theorem Ap.skip:Ap F s j .skip U U []:=λst a g h _=>⟨st,rfl,Grw.refl.kj,by rw[bC];exact h⟩
theorem Ap.seq(i:s.length<=j)(l:Ap F s j q U U' xs)(k:Ap F s j p U' U'' ys):Ap F s j (.seq q p) U U'' (xs++ys):=λst a g h f=>by
 rw[aK]at f;obtain⟨c,n,g1,e⟩:=l st a g h (by omega)
 obtain⟨b,m,g2,d⟩:=k c _ (g1.grw i g) e (by rw[aK];omega)
 exact⟨b,by show Yh (ex F q) (ex F p) U st=_;unfold Yh;rw[n];exact m,g1.trans g2,by rw[<-bP];exact d⟩
theorem Ap.one(h:Ap F s j q U U' xs):Ap F s j (.z q) U U' xs:=λst a g e d=>by
 obtain⟨b,f,g1,c⟩:=h st a g e d;exact⟨b,by show Yh (ex F q) (ex F .skip) U st=_;unfold Yh;rw[f];rfl,g1,c⟩
theorem Ap.app(hi:U[i]?=some (jL j))(h:Y F s e U d):Ap F s j (.app i e) U U [d]:=λst a g o f=>by
 obtain⟨k,p,b⟩:=h st g;have c:=b.get o;have f:a.length+1<=900:=f;refine⟨k.set j (true,a++[d]),?_,⟨λm n l=>?_,by rw[bF];exact b.len⟩,by rw[Zv (Zh c),if_pos rfl]⟩
 .show W6 i (ev F e) U st=_
  unfold W6 UA;simp only[hi,p,c];rw[if_pos (by unfold Zm;omega)]
 .rw[Zv (Zh c),if_neg (Ne.symm l)]
  exact b.old m n
theorem Ap.ite(h:Y F s e U (.bl k))(i:Ap F s j (if k then q else p) U U' xs):Ap F s j (.ite e q p) U U' xs:=λst b g m l=>by
 obtain⟨d,o,a⟩:=h st g;obtain⟨c,n,g2,f⟩:=i d b (g.trans a) (a.get m) l;exact⟨c,by show YI (ev F e) (ex F q) (ex F p) U st=_;unfold YI;rw[o];cases k<;>exact n,a.kj.trans g2,f⟩
theorem Ap.set(h:Y F s e U d):Ap F s j (.set i e) U (Zg U i d) []:=λst k g c l=>by
 obtain⟨b,f,a⟩:=h st g;exact⟨b,by show WF i (ev F e) U st=_;unfold WF;rw[f],a.kj,by rw[bC];exact a.get c⟩
end
variable{st2:Za}
variable{Q:D->Za->Prop}
section
variable{m:Bool}{c:Nat}{tx:Str}{q':CS}
theorem Lv.v(c:s[j]?=some (m,xs))(h:Y F s e U (.lst j)):Lv s (ev F e U) xs:=λst g=>by
 obtain⟨b,d,a⟩:=h st g;exact⟨b,j,m,d,(g.trans a).get c,a⟩
theorem Lv.mono{f:Za->Res}(h:Lv s f xs)(g:Grw s st):Lv st f xs:=λst1 k=>h st1 (g.trans k)
theorem Lv.cat(l:Lv s (ev F a U) xs)(k:Lv s (ev F b U) ys)(j:xs.length+ys.length<=Zm):Lv s (ev F (.bin .Add a b) U) (xs++ys):=λst g=>by
 obtain⟨f,i,r,p,n,e⟩:=l st g;obtain⟨c,h,q,o,m,d⟩:=k f (g.trans e);refine⟨c++[(true,xs++ys)],_,_,?_,Zu,(e.trans d).trans .push⟩;show Zz (ev F a) (ev F b) (WI .Add) U st=_;unfold Zz;simp only[p,o];show QS i h c=_;unfold QS;simp only[d.get n,m];exact if_pos j
def RP(F:Nat->Fn)(q:CS)(U:Env)(st:Za)(Q:D->Za->Prop):Prop:=∃ d st',ex F q U st=some (.rt d,st')/\Grw st st'/\Q d st'
theorem RP.pre(h:ex F q U st=ex F q' U' st1)(g:Grw st st1)(a:RP F q' U' st1 Q):RP F q U st Q:=by
 obtain⟨d,st',e,b,k⟩:=a;exact⟨d,st',h.trans e,g.trans b,k⟩
theorem RP.no{p:CS}(h:Y F s e U (.bl false))(g:Grw s st)(d:∀ a,Grw st a->RP F q U a Q):RP F (.seq (.ite e p .skip) q) U st Q:=by
 obtain⟨c,f,b⟩:=h st g;exact .pre (Zc ((ZR f).trans Ze)) b (d c b)
theorem RP.ret(h:Y F s e U d)(g:Grw s st)(f:∀ b,Grw st b->Q d b):RP F (.seq (.ret e) q) U st Q:=by
 obtain⟨a,i,c⟩:=h st g;exact⟨d,a,Zp (ZK i),c,f a c⟩
theorem RP.yes{p:CS}(h:Y F s e U (.bl true))(g:Grw s st)(j:∀ a,Grw st a->RP F p U a Q):RP F (.seq (.ite e p .skip) q) U st Q:=by
 obtain⟨f,m,b⟩:=h st g;obtain⟨d,c,l,i,k⟩:=j f b;exact⟨d,c,Zp ((Z9 m).trans l),b.trans i,k⟩
def CP(F:Nat->Fn)(f:Nat)(ds:Li D)(st:Za)(Q:D->Za->Prop):Prop:=∃ d st',F f ds st=some (d,st')/\Grw st st'/\Q d st'
theorem CP.of{v:FD}{f:Nat}{ds:Li D}(h:T f=some v)(e:ds.length=v.ps)(c:RP (rT n) v.body (ds.map some++List.replicate (v.ns - ds.length) none) st Q):CP (rT (n+1)) f ds st Q:=by
 obtain⟨d,a,i,b,g⟩:=c;exact⟨d,a,Yd h e i,b,g⟩
end
def Sm(a:Int):Prop:=-1000000000<=a/\a<=999999999
variable{m sz:Nat}{ns:Li Int}
section
variable{i j k c:Int}{op:Operator}
theorem Y.bi(d:Y F s a U (.int i))(c:Y F s b U (.int j))(h:ZbC op i j=some k):Y F s (.bin op a b) U (.int k):=g2 d c (gp λst=>by
 show WI op (.int i) (.int j) st=_;unfold WI;simp only[h])
theorem Y.add(d:Y F s a U (.int i))(c:Y F s b U (.int j)):Y F s (.bin .Add a b) U (.int (i+j)):=.bi d c rfl
theorem Y.sub(d:Y F s a U (.int i))(c:Y F s b U (.int j)):Y F s (.bin .Sub a b) U (.int (i - j)):=.bi d c rfl
theorem Y.mul(d:Y F s a U (.int i))(c:Y F s b U (.int j))(h:ZU j=true):Y F s (.bin .Mult a b) U (.int (i * j)):=.bi d c (by show(if ZU i||ZU j then some (i * j) else none)=_;rw[h,dF];rfl)
theorem Y.md(d:Y F s a U (.int i))(c:Y F s b U (.int j))(h:0 < j):Y F s (.bin .Mod a b) U (.int (i % j)):=.bi d c (if_pos h)
theorem Y.fd(d:Y F s a U (.int i))(c:Y F s b U (.int j))(h:0 < j/\j < 1073741824):Y F s (.bin .FloorDiv a b) U (.int (i / j)):=.bi d c (if_pos h)
theorem Y.ixL{j:Nat}(l:Lv s (ev F a U) xs)(k:Y F s b U (.int (j:Int)))(h:xs[j]?=some d):Y F s (.ix a b) U d:=λst g=>by
 obtain⟨i,q,t,o,m,f⟩:=l st g;obtain⟨c,n,e⟩:=k i (g.trans f);refine⟨c,?_,f.trans e⟩;show Zz (ev F a) (ev F b) ixR U st=_;unfold Zz;simp only[o,n];show ixR (.lst q) (.int (j:Int)) c=_;unfold ixR ixD;simp only[e.get m,UC h]
theorem Y.ixE{l:Li α}{f:α->D}(d:Lv s (ev F a U) (l.map f))(c:Y F s b U (.int i))(e:0<=i)(g:i < l.length):∃ x∈l,Y F s (.ix a b) U (f x):=by
 have hi:i.toNat < l.length:=by omega
 refine⟨l[i.toNat],dG hi,.ixL d (j:=i.toNat) (by rw[bR e];exact c) ?_⟩
 rw[aT,lG7 hi];rfl
theorem Zt(i:Int)(h:0 < j):0<=i % j/\i % j < j:=⟨Int.emod_nonneg _ (by omega),Int.emod_lt_of_pos _ h⟩
theorem UR(h:-(2 ^ 64) < i/\i < 2 ^ 64):ZU i=true:=by unfold ZU;rw[aG h.1,aG h.2];rfl
end
section
variable{N:Nat}
theorem Uk{I:Env->Prop}{P:Nat->D->Prop}(o:s.length<=j)(p:∀ k,k < N->∀ U,I U->∃ d U',P k d/\I U'/\Ap F s j q (Zg U i (.int (k:Int))) U' [d]):∀ (M a:Nat),a+M=N->∀ U,I U->∃ xs U',xs.length=M/\(∀ t d,xs[t]?=some d->P (a+t) d)/\I U'/\∀ st b,Grw s st->st[j]?=some (true,b)->b.length+M<=900->∃ st',Zl (λd U s=>ex F q (Zg U i d) s) ((List.range' a M).map λ(k:Nat)=>D.int (k:Int)) U st=some (.nx U',st')/\Kj j st st'/\st'[j]?=some (true,b++xs)
 |0,a,_,U,m=>⟨[],U,rfl,λt d h=>(nomatch h),m,λst b g h _=>⟨st,rfl,Grw.refl.kj,by rw[bC];exact h⟩⟩
 |M+1,a,L,U,m=>by
  obtain⟨d,e,A,l,B⟩:=p a (by omega) U m
  obtain⟨xs,c,z,x,f,y⟩:=Uk o p M (a+1) (by omega) e l
  refine⟨d :: xs,c,by rw[aQ,z],λt J h=>?_,f,λst b g h K=>?_⟩
  .cases t with
   |zero=>cases h;exact A
   |succ t=>have:=x t J h;rw[show a+1+t=a+(t+1) by omega]at this;exact this
  .obtain⟨u,H,n,E⟩:=B st b g h (by show _+1<=900;omega)
   obtain⟨r,G,w,C⟩:=y u _ (n.grw o g) E (by rw[aK];show _+1+M<=900;omega)
   refine⟨r,?_,n.trans w,by rw[C,bP];rfl⟩
   rw[dP,aM];show(match ex F q (Zg U i (.int (a:Int))) st with
    |some (.nx U',st')=>Zl _ _ U' st'
    |some (.ct U',st')=>Zl _ _ U' st'
    |some (.bk U',st')=>some (.nx U',st')
    |some (.rt v,st')=>some (.rt v,st')
    |none=>none)=_
   rw[H];exact G
theorem Zat{v:Int}(b:v < 2 ^ 62)(a:-(2 ^ 62)<=v):Wx true (.int v)=some ((List.range v.toNat).map λ(k:Nat)=>D.int (k:Int)):=by
 show(if v < 2 ^ 62/\-(2 ^ 62)<=v then some ((List.range v.toNat).map λ(k:Nat)=>D.int (k:Int)) else none)=_
 rw[if_pos ⟨b,a⟩]
theorem Y7{v:Int}{a:Za}(c:v < 2 ^ 62)(b:-(2 ^ 62)<=v)(f:ev F e U st=some (.int v,a)):ex F (.for1 i true e q) U st=Zl (λd U s=>ex F q (Zg U i d) s) ((List.range v.toNat).map λ(k:Nat)=>D.int (k:Int)) U a:=by
 show Wq i true (ev F e) (ex F q) U st=_;unfold Wq;rw[f];simp only[Zat c b]
theorem RP.fill{I:Nat->Env->Prop}{P:Nat->D->Prop}{v:Int}{i0:Nat}{q':CS}(z:∀ j,Y F s e (Zg U i0 (.lst j)) (.int v))(r:v=(N:Int))(hN:N<=800)(A:∀ j,I j (Zg U i0 (.lst j)))(g:Grw s st)(y:∀ j,s.length<=j->∀ k,k < N->∀ U,I j U->∃ d U',P k d/\I j U'/\Ap F s j q (Zg U i (.int (k:Int))) U' [d])(w:∀ j xs U' st',xs.length=N->(∀ t d,xs[t]?=some d->P t d)->I j U'->Grw st st'->st'[j]?=some (true,xs)->RP F q' U' st' Q):RP F (.seq (.set i0 (.lstE .aN)) (.seq (.for1 i true e q) q')) U st Q:=by
 have l:Grw s (st++[(true,[])]):=g.trans .push;obtain⟨m,E,a⟩:=z st.length (st++[(true,[])]) l;obtain⟨xs,U',x,o,b,u⟩:=Uk (I:=I st.length) g.len (y st.length g.len) N 0 (by omega) _ (A st.length)
 obtain⟨c,C,n,B⟩:=u m [] (l.trans a) (a.get Zu) (by show 0+N<=900;omega)
 have f:Grw st c:=(a.kj.trans n).grw (aD _) .push;refine .pre ((Zc (p:=.set i0 (.lstE .aN)) (s':=st++[(true,[])]) rfl).trans (Zc ?_)) f (w st.length xs U' c x (λt d h=>by have:=o t d h;rw[bG]at this;exact this) b f B)
 rw[Y7 (v:=v) (by omega) (by omega) E,r,bD,eG]
 exact C
end
def arI(x:Int):Int:=(x+1000000000) % 2000000000 - 1000000000
def fdI(i j:Int):Int:=if 0 < j then i / j else i.fdiv j
def rkI(a:Int)(g:Str)(b:Int):Int:=if g=S "+" then arI (a+b) else if g=S "-" then arI (a - b) else if g=S "*" then arI (a * b) else if g=S "/" then (if b=0 then 0 else arI (fdI a b)) else if b=0 then a else a - b * fdI a b
def soI(a:Int)(g:Str)(b:Int):Bool:=if g=S "<" then decide (a < b) else if g=S "<=" then decide (a<=b) else if g=S "=" then decide (a=b) else if g=S ">=" then decide (b<=a) else if g=S ">" then decide (b < a) else !decide (a=b)
def psL:Li Str:=[S "+",S "-",S "*",S "/",S "mod"]
def isL:Li Str:=[S "<",S "<=",S "=",S ">=",S ">",S "!="]
inductive Op where
 |nm (i:Nat)|nu (v:Int)
 deriving DecidableEq
def opE:Op->D
 |.nm i=>.tup [.str "name",.int (i:Int)]
 |.nu v=>.tup [.str "number",.int v]
def X6(m:Nat):Op->Prop
 |.nm i=>i < m
 |.nu v=>Sm v
inductive Rw where
 |put (x:Nat) (y:Op) (g:Str) (z:Op)|ifr (y:Op) (g:Str) (z:Op) (t:Nat)|go (t:Nat)|tell (y:Op)|skip
 deriving DecidableEq
def rwE:Rw->D
 |.put x y g z=>.tup [.str "put",.int (x:Int),opE y,.str g,opE z]
 |.ifr y g z t=>.tup [.str "if",opE y,.str g,opE z,.int (t:Int)]
 |.go t=>.tup [.str "go",.int (t:Int)]
 |.tell y=>.tup [.str "tell",opE y]
 |.skip=>.tup [.str "skip"]
def YS(m sz:Nat):Rw->Prop
 |.put x y g z=>x < m/\X6 m y/\g∈psL/\X6 m z
 |.ifr y g z t=>X6 m y/\g∈isL/\X6 m z/\t<=sz
 |.go t=>t<=sz
 |.tell y=>X6 m y
 |.skip=>True
def woI(vs:Li Int):Op->Int
 |.nm i=>vs.getD i 0
 |.nu v=>v
structure Vs(m:Nat)(vs:List Int):Prop where
 l:vs.length=m
 s:∀ v∈vs,Sm v
def inZ(vs:Li Int):Li D:=vs.map D.int
variable{vs:Li Int}{g:Str}{o:Op}{r:Rw}
section
variable{i j:Int}
theorem VA:Sm (arI i):=by
 have:=Zt (i+1000000000) (j:=2000000000) (by decide)
 unfold Sm arI;omega
theorem Zhf(h:j≠0):(0 < j/\j * fdI i j<=i/\i < j * fdI i j+j)\/(j < 0/\i<=j * fdI i j/\j * fdI i j+j < i):=by
 unfold fdI;by_cases a:0 < j
 .rw[if_pos a]
  have b:=Int.mul_ediv_add_emod i j;have d:=Int.emod_nonneg i h;have e:=Int.emod_lt_of_pos i a;exact .inl ⟨a,by omega,by omega⟩
 .rw[if_neg a]
  have b:=Int.fmod_def i j;have d:j < 0:=by omega
  have e:=Int.emod_nonneg i h;have g:i % j < -j:=by have:=Int.emod_lt i h;omega
  rw[Int.fmod_eq_emod]at b;by_cases c:j ∣ i
  .rw[if_pos (.inr c),Int.emod_eq_zero_of_dvd c]at b
   exact .inr ⟨d,by omega,by omega⟩
  .have f:i % j≠0:=λz=>c (Int.dvd_of_emod_eq_zero z)
   rw[if_neg (by omega)]at b
   exact .inr ⟨d,by omega,by omega⟩
theorem ZgM(a:Sm i)(e:Sm j):Sm (rkI i g j):=by
 unfold rkI;split
 .exact VA
 .split
  .exact VA
  .split
   .exact VA
   .split
    .split
     .exact⟨by decide,by decide⟩
     .exact VA
    .split
     .exact a
     .rename_i h
      have:=Zhf (i:=i) h;unfold Sm at *
      rcases this with⟨d,c,b⟩|⟨d,c,b⟩
      .generalize j * fdI i j=q at *
       omega
      .generalize j * fdI i j=q at *
       omega
theorem Y.v{i:Nat}(h:U[i]?=some (some d)):Y F s (.v i) U d:=.r λst=>by show YE i U st=_;unfold YE;rw[h]
theorem Y.fdv(f:Y F s a U (.int i))(e:Y F s b U (.int j))(h:j≠0)(d:Sm j):Y F s (.bin .FloorDiv a b) U (.int (fdI i j)):=.bi f e (by
 unfold Sm at d;show(if 0 < j/\j < 1073741824 then some (i / j) else if j < 0/\-1073741824 < j then some (i.fdiv j) else none)=_
 unfold fdI;by_cases c:0 < j
 .rw[if_pos c,if_pos ⟨c,by omega⟩]
 .rw[if_neg c,if_neg (by omega),if_pos ⟨by omega,by omega⟩])
theorem Vj(h:Sm j):ZU j=true:=UR (by unfold Sm at h;omega)
theorem Y.arx(b:Y F s a U (.int i)):Y F s (.bin .Sub (.bin .Mod (.bin .Add a (.i 1000000000)) (.i 2000000000)) (.i 1000000000)) U (.int (arI i)):=.sub (.md (.add b (.r rf)) (.r rf) (by decide)) (.r rf)
theorem YU:C (rT (n+1)) s 0 [.int i] (.int (arI i)):=.of (v:=c_around) rfl rfl (.ret (.arx (.r rf)))
theorem ZfR(a:Sm j):C (rT (n+2)) s 1 [.int i,.int j] (.int (if j=0 then 0 else arI (fdI i j))):=by
 by_cases h:j=0
 .subst h;exact .of (v:=c_divided) rfl rfl (.yes (.r rf) (.r rf))
 .rw[if_neg h]
  exact .of (v:=c_divided) rfl rfl (.no (.cmp (.r rf) (.r rf) λ_=>congrArg some (aF h)) (.ret (.call1 (.fdv (.r rf) (.r rf) h a) YU)))
theorem ZdU(a:Sm j):C (rT (n+1)) s 2 [.int i,.int j] (.int (if j=0 then i else i - j * fdI i j)):=by
 by_cases h:j=0
 .subst h;exact .of (v:=c_left_over) rfl rfl (.yes (.r rf) (.r rf))
 .rw[if_neg h]
  refine .of (v:=c_left_over) rfl rfl (.no (.cmp (.r rf) (.r rf) λ_=>congrArg some (aF h)) (.ret (.sub (.r rf) (.bi (i:=j) (j:=fdI i j) (.r rf) (.fdv (.r rf) (.r rf) h a) ?_))))
  show(if ZU j||ZU (fdI i j) then some (j * fdI i j) else none)=_
  rw[Vj a];rfl
theorem Y.eqs{x y:Str}(d:Y F s a U (.str x))(c:Y F s b U (.str y)):Y F s (.cmp .Eq a b) U (.bl (decide (x=y))):=.cmp d c λ_=>rfl
theorem R.pick{k:Bool}{q p:CS}(h:Y F s e U (.bl k))(b:k=true->R F s p U d)(a:k=false->R F s q U d):R F s (.seq (.ite e p .skip) q) U d:=by
 cases k
 .exact .no h (a rfl)
 .exact .yB h (b rfl)
theorem Zg5(hi:Sm i)(c:Sm j):C (rT (n+3)) s 3 [.int i,.str g,.int j] (.int (rkI i g j)):=by
 unfold rkI;refine .of (v:=c_reckon) rfl rfl (.pick (.eqs (.r rf) (.r rf)) (λh=>?_) λh=>.pick (.eqs (.r rf) (.r rf)) (λa=>?_) λa=>.pick (.eqs (.r rf) (.r rf)) (λb=>?_) λb=>.pick (.eqs (.r rf) (.r rf)) (λd=>?_) λd=>?_)
 .rw[if_pos (of_decide_eq_true h)];exact .ret (.call1 (.add (.r rf) (.r rf)) YU)
 .rw[if_neg (of_decide_eq_false h),if_pos (of_decide_eq_true a)];exact .ret (.call1 (.sub (.r rf) (.r rf)) YU)
 .rw[if_neg (of_decide_eq_false h),if_neg (of_decide_eq_false a),if_pos (of_decide_eq_true b)];exact .ret (.call1 (.mul (.r rf) (.r rf) (Vj c)) YU)
 .rw[if_neg (of_decide_eq_false h),if_neg (of_decide_eq_false a),if_neg (of_decide_eq_false b),if_pos (of_decide_eq_true d)];exact .ret (.call (xs:=[.int i,.int j]) (.r rf) (ZfR c))
 .rw[if_neg (of_decide_eq_false h),if_neg (of_decide_eq_false a),if_neg (of_decide_eq_false b),if_neg (of_decide_eq_false d)];exact .ret (.call (xs:=[.int i,.int j]) (.r rf) (ZdU c))
theorem Zg7:C (rT (n+1)) s 4 [.int i,.str g,.int j] (.bl (soI i g j)):=by
 unfold soI;refine .of (v:=c_is_so) rfl rfl (.pick (.eqs (.r rf) (.r rf)) (λh=>?_) λh=>.pick (.eqs (.r rf) (.r rf)) (λa=>?_) λa=>.pick (.eqs (.r rf) (.r rf)) (λb=>?_) λb=>.pick (.eqs (.r rf) (.r rf)) (λc=>?_) λc=>.pick (.eqs (.r rf) (.r rf)) (λd=>?_) λd=>?_)
 .rw[if_pos (of_decide_eq_true h)];exact .ret (.r rf)
 .rw[if_neg (of_decide_eq_false h),if_pos (of_decide_eq_true a)];exact .ret (.r rf)
 .rw[if_neg (of_decide_eq_false h),if_neg (of_decide_eq_false a),if_pos (of_decide_eq_true b)];exact .ret (.r rf)
 .rw[if_neg (of_decide_eq_false h),if_neg (of_decide_eq_false a),if_neg (of_decide_eq_false b),if_pos (of_decide_eq_true c)];exact .ret (.r rf)
 .rw[if_neg (of_decide_eq_false h),if_neg (of_decide_eq_false a),if_neg (of_decide_eq_false b),if_neg (of_decide_eq_false c),if_pos (of_decide_eq_true d)];exact .ret (.r rf)
 .rw[if_neg (of_decide_eq_false h),if_neg (of_decide_eq_false a),if_neg (of_decide_eq_false b),if_neg (of_decide_eq_false c),if_neg (of_decide_eq_false d)];exact .ret (.r rf)
theorem ZdR{i:Nat}(a:Vs m vs)(h:i < m):(inZ vs)[i]?=some (.int (woI vs (.nm i))):=by
 have b:=a.l;unfold inZ;rw[aT,lG7 (by omega)]
 show some (D.int vs[i])=some (D.int (vs.getD i 0));rw[eI,lG7 (by omega)];rfl
theorem W0(a:Vs m vs)(h:X6 m o):Sm (woI vs o):=by
 cases o with
 |nm i=>
  have b:=a.l;have hi:i < m:=h;show Sm (vs.getD i 0);rw[eI,lG7 (by omega)]
  exact a.s _ (dG _)
 |nu v=>exact h
theorem Xt(a:Vs m vs)(h:X6 m o):C (rT (n+1)) s 5 [opE o,.tup (inZ vs)] (.int (woI vs o)):=by
 cases o with
 |nm i=>exact .of (v:=c_worth) rfl rfl (.yes (.r rf) (.ixt (j:=i) (.r rf) (.r rf) (ZdR a h)))
 |nu v=>exact .of (v:=c_worth) rfl rfl (.no (.r rf) (.ret (.r rf)))
end
def pgD(a:D)(m:Nat)(rs:Li Rw):D:=.tup [a,.int (m:Int),.tup (rs.map rwE)]
def stD(k:Nat)(vs:Li Int):D:=.tup [.int (k:Int),.tup (inZ vs)]
def noD:D:=.tup [.str "none"]
def laD:D:=.tup [.str "late"]
def teD(v:Int):D:=.tup [.str "told",.int v]
def vsN(vs:Li Int):Rw->Li Int
 |.put x y g z=>vs.set x (rkI (woI vs y) g (woI vs z))
 |_=>vs
def pkN(k:Nat)(vs:Li Int):Rw->Nat
 |.go t=>t
 |.ifr y g z t=>if soI (woI vs y) g (woI vs z)=true then t else k+1
 |_=>k+1
def mv(rs:Li Rw)(k:Nat)(vs:Li Int):Sum D (Nat×Li Int):=match rs[k]? with
 |none=>.inl noD
 |some (.tell y)=>.inl (teD (woI vs y))
 |some r=>.inr (pkN k vs r,vsN vs r)
def oc(rs:Li Rw):Nat->Nat->Li Int->D
 |0,k,_=>if rs.length<=k then noD else laD
 |n+1,k,vs=>match mv rs k vs with
  |.inl o=>o
  |.inr p=>oc rs n p.1 p.2
def tl(rs:Li Rw):Nat->Nat->Li Int->Li D
 |0,k,_=>[if rs.length<=k then noD else laD]
 |n+1,k,vs=>match mv rs k vs with
  |.inl o=>[o]
  |.inr p=>stD p.1 p.2 :: tl rs n p.1 p.2
structure Rs(m:Nat)(rs:List Rw):Prop where
 l:rs.length<=50
 ok:∀ r∈rs,YS m rs.length r
def v0(m:Nat)(ins:Li Int):Li Int:=ins++List.replicate (m - ins.length) 0
variable{tk:D}{k:Nat}{ins:Li Int}{rs:Li Rw}
theorem JI{j:Nat}:sIx w j (some (i:Int))=Nat.min i w:=by
 show(if (i:Int) < 0 then ((i:Int)+(w:Int)).toNat else Nat.min (i:Int).toNat w)=_
 rw[if_neg (by omega),bD]
theorem Zei(h:i<=xs.length):Xw xs none (some (i:Int))=xs.take i:=by
 unfold Xw;rw[JI,show Nat.min i xs.length=i from Nat.min_eq_left h];rfl
theorem Zeh(h:i<=xs.length):Xw xs (some (i:Int)) none=xs.drop i:=by
 unfold Xw;rw[JI,show Nat.min i xs.length=i from Nat.min_eq_left h];exact eQ (by rw[dJ];exact aD _)
theorem sl_tup:Z7 (.tup xs) lo hi st=some (.tup (Xw xs lo hi),st):=by
 show(if sIx xs.length 0 lo=0/\sIx xs.length xs.length hi=xs.length then some (D.tup xs,st) else some (.tup (Xw xs lo hi),st))=_
 split
 .rename_i h
  unfold Xw;rw[h.1,h.2,cV,Nat.sub_zero,List.take_length]
 .rfl
theorem Y.tkT(k:Y F s a U (.tup xs))(j:Y F s b U (.int (i:Int)))(h:i<=xs.length):Y F s (.slice a .nop (.part b)) U (.tup (xs.take i)):=λst g=>by
 obtain⟨e,m,d⟩:=k st g;obtain⟨c,l,f⟩:=j e (g.trans d);refine⟨c,?_,d.trans f⟩;show XF (ev F a) (evC .non) (Zn (ev F b) Uf) YO U st=_;unfold XF Zn evC;simp only[m,l];show Z7 (.tup xs) none (some (i:Int)) c=_;rw[sl_tup,Zei h]
theorem Y.dpT(k:Y F s a U (.tup xs))(j:Y F s b U (.int (i:Int)))(h:i<=xs.length):Y F s (.slice a (.part b) .nop) U (.tup (xs.drop i)):=λst g=>by
 obtain⟨e,m,d⟩:=k st g;obtain⟨c,l,f⟩:=j e (g.trans d);refine⟨c,?_,d.trans f⟩;show XF (ev F a) (Zn (ev F b) Uf) (evC .non) YO U st=_;unfold XF Zn evC;simp only[m,l];show Z7 (.tup xs) (some (i:Int)) none c=_;rw[sl_tup,Zeh h]
theorem Y.adT(d:Y F s a U (.tup xs))(c:Y F s b U (.tup ys))(h:xs.length+ys.length<=100000):Y F s (.bin .Add a b) U (.tup (xs++ys)):=g2 d c (gp λst=>by
 show(if Wu .Add=true/\xs.length+ys.length<=Zm then some (D.tup (xs++ys),st) else none)=_
 exact if_pos ⟨rfl,by unfold Zm;omega⟩)
theorem Y.rep(e:Y F s a U d)(c:Y F s b U (.int (i:Int)))(h:i<=1000):Y F s (.bin .Mult (.tupE (.u a)) b) U (.tup (List.replicate i d)):=g2 (x:=.tup [d]) (.cons e .nil) c (gp λst=>by
 show(if (i:Int)<=1000/\-1000<=(i:Int) then some (D.tup (List.replicate (i:Int).toNat d),st) else none)=_
 rw[if_pos ⟨by omega,by omega⟩,bD])
theorem Y.lnT(b:Y F s a U (.tup xs)):Y F s (.len a) U (.int (xs.length:Int)):=g1 b (gp λst=>rfl)
theorem XI(h:i < xs.length)(a:xs.length<=1000):C (rT (n+1)) s 42 [.tup xs,.int (i:Int),d] (.tup (xs.set i d)):=by
 rw[show xs.set i d=(xs.take i++[d])++xs.drop (i+1) by rw[bP];exact List.set_eq_take_append_cons_drop.trans (if_pos h)]
 refine .of (v:=c_replaced) rfl rfl (.ret (.adT (.adT (.tkT (.r rf) (.r rf) (by omega)) (.cons (.r rf) .nil) ?_) (.dpT (i:=i+1) (.r rf) (by rw[cD];exact .add (.r rf) (.r rf)) (by omega)) ?_))
 .rw[bT];show _+1<=_;omega
 .rw[aK,bT,dJ];show _+1+_<=_;omega
theorem ZdQ(a:ins.length<=m)(h:∀ v∈ins,Sm v):Vs m (v0 m ins):=by
 unfold v0;refine⟨by rw[aK,cJ];omega,λv hv=>?_⟩
 rcases aU.mp hv with hv|hv
 .exact h v hv
 .rw[(List.mem_replicate.mp hv).2];exact⟨by decide,by decide⟩
theorem Zbu(b:ins.length<=m)(d:m<=1000):C (rT (n+1)) s 6 [pgD tk m rs,.tup (inZ ins)] (stD 0 (v0 m ins)):=by
 unfold stD v0 inZ;rw[bN,List.map_replicate];refine .of (v:=c_began) rfl rfl (.ret (.cons (.r rf) (.cons (.adT (.r rf) (.rep (i:=m - ins.length) (.r rf) ?_ (by omega)) (by rw[aE,cJ];omega)) .nil)))
 have c:Y (rT n) s (.len (.v 1)) [some (pgD tk m rs),some (.tup (ins.map D.int))] (.int (ins.length:Int)):=by
  have:=Y.lnT (F:=rT n) (s:=s) (a:=.v 1) (U:=[some (pgD tk m rs),some (.tup (ins.map D.int))]) (xs:=ins.map D.int) (.r rf);rw[aE]at this;exact this
 rw[Int.natCast_sub b];exact .sub (.r rf) c
theorem Zdf:C (rT (n+1)) s 7 [pgD tk m rs,stD k vs] (.bl (decide (rs.length<=k))):=by
 have b:Y (rT n) s (.len (.ix (.v 0) (.i 2))) [some (pgD tk m rs),some (stD k vs)] (.int (rs.length:Int)):=by
  have:=Y.lnT (F:=rT n) (s:=s) (a:=.ix (.v 0) (.i 2)) (U:=[some (pgD tk m rs),some (stD k vs)]) (xs:=rs.map rwE) (.r rf);rw[aE]at this;exact this
 exact .of (v:=c_at_end) rfl rfl (.ret (.cmp (.r rf) b λ_=>by show some (decide ((rs.length:Int)<=(k:Int)))=_;exact congrArg some (decide_eq_decide.mpr (by omega))))
theorem Ul{j:Int}:(inZ vs).set i (.int j)=inZ (vs.set i j):=by unfold inZ;rw[List.map_set]
theorem Zd0(a:Vs m vs)(j:m<=1000)(h:YS m w r)(e:∀ y,r≠.tell y):C (rT (n+4)) s 8 [rwE r,.tup (inZ vs)] (.tup (inZ (vsN vs r))):=by
 cases r with
 |put x y g z=>
  obtain⟨f,c,o,b⟩:=h;have k:=a.l;refine .of (v:=c_values_behind) rfl rfl (.no (.r rf) (.set (.call (xs:=[.int (woI vs y),.str g,.int (woI vs z)]) (.cons (.call (xs:=[opE y,.tup (inZ vs)]) (.r rf) (Xt a c)) (.cons (.r rf) (.cons (.call (xs:=[opE z,.tup (inZ vs)]) (.r rf) (Xt a b)) .nil))) (Zg5 (W0 a c) (W0 a b))) (.ret (.call (xs:=[.tup (inZ vs),.int (x:Int),.int (rkI (woI vs y) g (woI vs z))]) (.r rf) ?_))))
  have:=XI (n:=n+2) (s:=s) (xs:=inZ vs) (i:=x) (d:=.int (rkI (woI vs y) g (woI vs z))) (by unfold inZ;rw[aE];omega) (by unfold inZ;rw[aE];omega)
  rw[Ul]at this;exact this
 |ifr y g z t=>exact .of (v:=c_values_behind) rfl rfl (.yes (.r rf) (.r rf))
 |go t=>exact .of (v:=c_values_behind) rfl rfl (.yes (.r rf) (.r rf))
 |tell y=>exact absurd rfl (e y)
 |skip=>exact .of (v:=c_values_behind) rfl rfl (.yes (.r rf) (.r rf))
theorem Zbx(a:Vs m vs)(h:YS m w r)(d:∀ y,r≠.tell y):C (rT (n+2)) s 9 [rwE r,.int (k:Int),.tup (inZ vs)] (.int (pkN k vs r:Int)):=by
 have one:∀ {U:Env},U[1]?=some (jN k)->Y (rT (n+1)) s (.bin .Add (.v 1) (.i 1)) U (.int ((k+1:Nat):Int)):=λ{U} h=>by
  rw[cD];exact .add (.v h) (.r rf)
 cases r with
 |put x y g z=>exact .of (v:=c_place_behind) rfl rfl (.no (.r rf) (.no (.r rf) (.ret (one rfl))))
 |go t=>exact .of (v:=c_place_behind) rfl rfl (.yes (.r rf) (.r rf))
 |skip=>exact .of (v:=c_place_behind) rfl rfl (.no (.r rf) (.no (.r rf) (.ret (one rfl))))
 |tell y=>exact absurd rfl (d y)
 |ifr y g z t=>
  obtain⟨c,f,b,e⟩:=h;refine .of (v:=c_place_behind) rfl rfl (.no (.r rf) (.pick (k:=true&&soI (woI vs y) g (woI vs z)) (.and (.r rf) λ_=>.call (xs:=[.int (woI vs y),.str g,.int (woI vs z)]) (.cons (.call (xs:=[opE y,.tup (inZ vs)]) (.r rf) (Xt a c)) (.cons (.r rf) (.cons (.call (xs:=[opE z,.tup (inZ vs)]) (.r rf) (Xt a b)) .nil))) Zg7) (λq=>?_) λq=>?_))
  .rw[dS]at q
   show R _ _ _ _ (.int ((if soI (woI vs y) g (woI vs z)=true then t else k+1:Nat):Int))
   rw[if_pos q];exact .ret (.r rf)
  .rw[dS]at q
   show R _ _ _ _ (.int ((if soI (woI vs y) g (woI vs z)=true then t else k+1:Nat):Int))
   rw[if_neg (by rw[q];decide)]
   exact .ret (one rfl)
def mvD(rs:Li Rw)(k:Nat)(vs:Li Int):D:=match mv rs k vs with
 |.inl o=>o
 |.inr p=>stD p.1 p.2
theorem Zbw(h:Rs m rs)(l:m<=1000)(d:Vs m vs):C (rT (n+5)) s 10 [pgD tk m rs,stD k vs] (mvD rs k vs):=by
 have c:=Y.call (F:=rT (n+4)) (s:=s) (a:=.aC (.v 0) (.u (.v 1))) (U:=[some (pgD tk m rs),some (stD k vs),none,none,none]) (xs:=[pgD tk m rs,stD k vs]) (ds:=[]) (.r rf) (Zdf (n:=n+3));unfold mvD mv;cases q:rs[k]? with
 |none=>
  rw[aG (dQ.mp q)]at c;exact .of (v:=c_moved) rfl rfl (.yes c (.r rf))
 |some r=>
  have o:=Zh q;rw[aF (by omega)]at c
  have ok:=h.ok r (aZ q);have f:Y (rT (n+4)) s (.ix (.ix (.v 0) (.i 2)) (.v 2)) [some (pgD tk m rs),some (stD k vs),jN k,some (.tup (inZ vs)),none] (rwE r):=.ixt (j:=k) (xs:=rs.map rwE) (.r rf) (.r rf) (by rw[aT,q];rfl)
  refine .of (v:=c_moved) rfl rfl (.no c (.set (.r rf) (.set (.r rf) (.set f ?_))));have b:(∀ y,r≠.tell y)->R (rT (n+4)) s (.z (.ret (.tupE (.aC (.call 9 (.aC (.v 4) (.aC (.v 2) (.u (.v 3)))) []) (.u (.call 8 (.aC (.v 4) (.u (.v 3))) [])))))) [some (pgD tk m rs),some (stD k vs),jN k,some (.tup (inZ vs)),some (rwE r)] (stD (pkN k vs r) (vsN vs r)):=λe=>.ret (.cons (.call (xs:=[rwE r,.int (k:Int),.tup (inZ vs)]) (.r rf) (Zbx (n:=n+2) d ok e)) (.cons (.call (xs:=[rwE r,.tup (inZ vs)]) (.r rf) (Zd0 d l ok e)) .nil))
  cases r with
  |tell y=>exact .yes (.r rf) (.cons (.r rf) (.cons (.call (xs:=[opE y,.tup (inZ vs)]) (.r rf) (Xt d ok)) .nil))
  |put x y g z=>exact .no (.r rf) (b λy z=>nomatch z)
  |ifr y g z t=>exact .no (.r rf) (b λy z=>nomatch z)
  |go t=>exact .no (.r rf) (b λy z=>nomatch z)
  |skip=>exact .no (.r rf) (b λy z=>nomatch z)
variable{L:Nat}{acc:Li D}
def enD(rs:Li Rw)(k:Nat):D:=if rs.length<=k then noD else laD
def isO:D->Bool
 |.tup (.str _ :: _)=>true
 |_=>false
theorem ZdC(a:Vs m vs)(d:Rs m rs){p:Nat×Li Int}(h:mv rs k vs=.inr p):Vs m p.2:=by
 unfold mv at h;cases q:rs[k]? with
 |none=>rw[q]at h;cases h
 |some r=>
  rw[q]at h;have ok:=d.ok r (aZ q);cases r with
  |tell y=>cases h
  |put x y g z=>
   cases h;obtain⟨e,c,f,b⟩:=ok;refine⟨by show(vs.set x _).length=m;rw[bF];exact a.l,λv h=>?_⟩
   rcases List.mem_or_eq_of_mem_set h with h|h
   .exact a.s v h
   .rw[h];exact ZgM (W0 a c) (W0 a b)
  |ifr y g z t=>cases h;exact a
  |go t=>cases h;exact a
  |skip=>cases h;exact a
theorem Zcm{o:D}(h:mv rs k vs=.inl o):isO o=true/\∃ a,o=.tup (.str (if rs.length<=k then S "none" else S "told") :: a):=by
 unfold mv at h;cases q:rs[k]? with
 |none=>rw[q]at h;cases h;exact⟨rfl,[],by rw[if_pos (dQ.mp q)];rfl⟩
 |some r=>
  rw[q]at h;have:=Zh q;cases r with
  |tell y=>cases h;exact⟨rfl,[.int (woI vs y)],by rw[if_neg (by omega)];rfl⟩
  |_=>cases h
theorem Zdg{k:Bool}(h:(∃ x a,d=.tup (.str x :: a)/\k=true)\/(∃ i a,d=.tup (.int i :: a)/\k=false)):C (rT (n+1)) s 11 [d] (.bl k):=by
 rcases h with⟨x,a,rfl,rfl⟩|⟨i,a,rfl,rfl⟩
 .exact .of (v:=c_is_outcome) rfl rfl (.ret (g1 (x:=.str x) (.ixt (j:=0) (.r rf) (.r rf) rfl) (gp λ_=>rfl)))
 .exact .of (v:=c_is_outcome) rfl rfl (.ret (g1 (x:=.int i) (.ixt (j:=0) (.r rf) (.r rf) rfl) (gp λ_=>rfl)))
theorem Zda{y z:Ot D}(J:Rs m rs)(L:m<=1000)(I:Vs m vs)(P:s.length<=j)(g:Grw s st)(h:st[j]?=some (true,acc))(O:acc.length < 900){x0 x2:Ot D}:match mv rs k vs with
  |.inl o=>∃ st',Kj j st st'/\ex (rT (n+5)) ZE [some (pgD tk m rs),x0,x2,some (stD k vs),jL j,y,z] st=some (.rt (.tup (acc++[o])),st')
  |.inr p=>∃ st',Kj j st st'/\st'[j]?=some (true,acc++[stD p.1 p.2])/\ex (rT (n+5)) ZE [some (pgD tk m rs),x0,x2,some (stD k vs),jL j,y,z] st=some (.nx [some (pgD tk m rs),x0,x2,some (stD p.1 p.2),jL j,y,some (stD p.1 p.2)],st'):=by
 obtain⟨G,N,w⟩:=Y.call (F:=rT (n+5)) (s:=s) (a:=.aC (.v 0) (.u (.v 3))) (U:=[some (pgD tk m rs),x0,x2,some (stD k vs),jL j,y,z]) (xs:=[pgD tk m rs,stD k vs]) (ds:=[]) (.r rf) (Zbw J L I) st g;obtain⟨b,M,H,l⟩:=Ap.app (F:=rT (n+5)) (s:=s) (j:=j) (i:=4) (e:=.v 6) (U:=[some (pgD tk m rs),x0,x2,some (stD k vs),jL j,y,some (mvD rs k vs)]) (d:=mvD rs k vs) rfl (.r rf) G acc (g.trans w) (w.get h) (by show _+1<=900;omega)
 have pre:∀ {r},ex (rT (n+5)) (.seq (.ite (.call 11 (.u (.v 6)) []) (.z (.ret (.tOf (.v 4)))) .skip) (.z (.set 3 (.v 6)))) [some (pgD tk m rs),x0,x2,some (stD k vs),jL j,y,some (mvD rs k vs)] b=r->ex (rT (n+5)) ZE [some (pgD tk m rs),x0,x2,some (stD k vs),jL j,y,z] st=r:=λh=>(Zc (Zk N)).trans ((Zc M).trans h)
 have C:=w.kj.trans H;cases q:mv rs k vs with
 |inl o=>
  have A:mvD rs k vs=o:=by unfold mvD;rw[q]
  rw[A]at l pre;obtain⟨_,E,K⟩:=Zcm q;obtain⟨t,B,c⟩:=Y.call1 (F:=rT (n+5)) (s:=b) (f:=11) (a:=.v 6) (x:=o) (U:=[some (pgD tk m rs),x0,x2,some (stD k vs),jL j,y,some o]) (.r rf) (Zdg (n:=n+4) (.inl ⟨_,E,K,rfl⟩)) b .refl;exact⟨t,C.trans c.kj,pre (Zp ((Z9 B).trans (Zp (ZK (Yg rfl (c.get l))))))⟩
 |inr p=>
  have A:mvD rs k vs=stD p.1 p.2:=by unfold mvD;rw[q]
  rw[A]at l pre;obtain⟨t,B,c⟩:=Y.call1 (F:=rT (n+5)) (s:=b) (f:=11) (a:=.v 6) (x:=stD p.1 p.2) (U:=[some (pgD tk m rs),x0,x2,some (stD k vs),jL j,y,some (stD p.1 p.2)]) (.r rf) (Zdg (n:=n+4) (.inr ⟨_,_,rfl,rfl⟩)) b .refl;exact⟨t,C.trans c.kj,c.get l,pre ((Zc ((ZR B).trans Ze)).trans ((Zc (Zk rfl)).trans Ze))⟩
theorem QG(F:Rs m rs)(I:m<=1000)(H:s.length<=j){x0 x2:Ot D}:∀ (M a k:Nat) (vs:Li Int) (acc:Li D) (st:Za) (y z:Ot D),Vs m vs->Grw s st->st[j]?=some (true,acc)->acc.length+M<=900->
  (∃ l b c x w st',Vs m b/\tl rs M k vs=c++[enD rs l]/\Zl (λd U s=>ex (rT (n+5)) ZE (Zg U 5 d) s) ((List.range' a M).map λ(k:Nat)=>D.int (k:Int)) [some (pgD tk m rs),x0,x2,some (stD k vs),jL j,y,z] st=some (.nx [some (pgD tk m rs),x0,x2,some (stD l b),jL j,x,w],st')/\Kj j st st'/\st'[j]?=some (true,acc++c)) \/
  (∃ st',Zl (λd U s=>ex (rT (n+5)) ZE (Zg U 5 d) s) ((List.range' a M).map λ(k:Nat)=>D.int (k:Int)) [some (pgD tk m rs),x0,x2,some (stD k vs),jL j,y,z] st=some (.rt (.tup (acc++tl rs M k vs)),st')/\Kj j st st')
 |0,a,k,vs,acc,st,y,z,t,g,h,_=>.inl ⟨k,vs,[],y,z,st,t,rfl,rfl,Grw.refl.kj,by rw[bC];exact h⟩
 |M+1,a,k,vs,acc,st,y,z,t,g,h,O=>by
  have i:=Zda (n:=n) (tk:=tk) (k:=k) (y:=jN a) (z:=z) (x0:=x0) (x2:=x2) F I t H g h (by omega)
  rw[dP,aM];have E:∀ {r},ex (rT (n+5)) ZE [some (pgD tk m rs),x0,x2,some (stD k vs),jL j,jN a,z] st=r->Zl (λd U s=>ex (rT (n+5)) ZE (Zg U 5 d) s) (D.int (a:Int) :: (List.range' (a+1) M).map λ(k:Nat)=>D.int (k:Int)) [some (pgD tk m rs),x0,x2,some (stD k vs),jL j,y,z] st=match r with
    |some (.nx U',st')=>Zl (λd U s=>ex (rT (n+5)) ZE (Zg U 5 d) s) ((List.range' (a+1) M).map λ(k:Nat)=>D.int (k:Int)) U' st'
    |some (.ct U',st')=>Zl (λd U s=>ex (rT (n+5)) ZE (Zg U 5 d) s) ((List.range' (a+1) M).map λ(k:Nat)=>D.int (k:Int)) U' st'
    |some (.bk U',st')=>some (.nx U',st')
    |some (.rt v,st')=>some (.rt v,st')
    |none=>none:=λ{r} e=>by rw[<-e];rfl
  unfold tl;cases q:mv rs k vs with
  |inl o=>
   rw[q]at i;obtain⟨st',f,u⟩:=i;exact .inr ⟨st',E u,f⟩
  |inr p=>
   rw[q]at i;obtain⟨C,f,N,u⟩:=i;have G:(acc++[stD p.1 p.2]).length+M<=900:=by rw[aK];show _+1+M<=900;omega
   rcases QG F I H M (a+1) p.1 p.2 _ C (jN a) (some (stD p.1 p.2)) (ZdC t F q) (f.grw H g) N G with⟨l,b,c,x,w,st',L,K,B,A,J⟩|⟨st',B,A⟩
   .exact .inl ⟨l,b,stD p.1 p.2 :: c,x,w,st',L,by show stD p.1 p.2 :: tl rs M p.1 p.2=_;rw[K];rfl,(E u).trans B,f.trans A,by rw[J,bP];rfl⟩
   .exact .inr ⟨st',(E u).trans (B.trans (by rw[bP];rfl)),f.trans A⟩
theorem Zby(V:Rs m rs)(J:m<=1000)(hi:ins.length<=m)(T:∀ v∈ins,Sm v)(hL:L<=800):C (rT (n+6)) s 12 [pgD tk m rs,.tup (inZ ins),.int (L:Int)] (.tup (stD 0 (v0 m ins) :: tl rs L 0 (v0 m ins))):=λst g=>by
 have S:=ZdQ hi T;obtain⟨b,O,y⟩:=Y.call (F:=rT (n+5)) (s:=s) (f:=6) (a:=.aC (.v 0) (.u (.v 1))) (U:=[some (pgD tk m rs),some (.tup (inZ ins)),jN L,none,none,none,none]) (xs:=[pgD tk m rs,.tup (inZ ins)]) (ds:=[]) (.r rf) (Zbu hi J) st g;have I:ex (rT (n+5)) (.set 4 (.lstE (.u (.v 3)))) [some (pgD tk m rs),some (.tup (inZ ins)),jN L,some (stD 0 (v0 m ins)),none,none,none] b=some (.nx [some (pgD tk m rs),some (.tup (inZ ins)),jN L,some (stD 0 (v0 m ins)),jL b.length,none,none],b++[(true,[stD 0 (v0 m ins)])]):=Zk rfl
 have g2:Grw s (b++[(true,[stD 0 (v0 m ins)])]):=(g.trans y).trans .push;have N:Grw st (b++[(true,[stD 0 (v0 m ins)])]):=y.trans .push;have fr:=Y7 (F:=rT (n+5)) (i:=5) (e:=.v 2) (q:=ZE) (U:=[some (pgD tk m rs),some (.tup (inZ ins)),jN L,some (stD 0 (v0 m ins)),jL b.length,none,none]) (st:=b++[(true,[stD 0 (v0 m ins)])]) (v:=(L:Int)) (by omega) (by omega) rfl
 rw[bD,eG]at fr;have K:s.length<=b.length:=aP g.len y.len;have w:st.length<=b.length:=y.len;rcases QG (n:=n) (tk:=tk) (x0:=some (.tup (inZ ins))) (x2:=jN L) V J K L 0 0 (v0 m ins) [stD 0 (v0 m ins)] _ none none S g2 Zu (by show 1+L<=900;omega) with⟨l,h,o,E,B,A,w1,G,z,x,P⟩|⟨A,z,x⟩
 .obtain⟨H,e4,Q,W⟩:=Ap.app (F:=rT (n+5)) (s:=s) (j:=b.length) (i:=4) (e:=.ife (.call 7 (.aC (.v 0) (.u (.v 3))) []) (.tupE (.u (.t "none"))) (.tupE (.u (.t "late")))) (U:=[some (pgD tk m rs),some (.tup (inZ ins)),jN L,some (stD l h),jL b.length,E,B]) (d:=enD rs l) rfl (.ife (.call (xs:=[pgD tk m rs,stD l h]) (.r rf) (Zdf (n:=n+4))) (by
   unfold enD;by_cases c:rs.length<=l
   .rw[if_pos c,aG c];exact .r rf
   .rw[if_neg c,aF c];exact .r rf)) A _ (x.grw K g2) P (by
    have:o.length<=L:=by
     have Z:=congrArg List.length G;rw[aK]at Z;have X:∀ {M k:Nat}{vs:Li Int},(tl rs M k vs).length<=M+1:=λ{M}=>by
      induction M with
      |zero=>intro k vs;exact aD _
      |succ M R=>
       intro k vs;unfold tl;split
       .show 1<=_;omega
       .rename_i p _;have:=R (k:=p.1) (vs:=p.2);rw[aQ];omega
     have:=X (M:=L) (k:=0) (vs:=v0 m ins);have h3:([enD rs l]:Li D).length=1:=rfl;omega
    rw[aK];show 1+o.length+1<=900;omega)
  refine⟨H,Yd (v:=c_trail) rfl rfl ((Zc (Zk O)).trans ((Zc I).trans ((Zc (fr.trans z)).trans ((Zc e4).trans (Zp (ZK ?_)))))),(x.trans Q).grw w N⟩;have:=Yg (F:=rT (n+5)) (e:=.v 4) (U:=[some (pgD tk m rs),some (.tup (inZ ins)),jN L,some (stD l h),jL b.length,E,B]) (st:=H) rfl W;rw[this,G];rfl
 .exact⟨A,Yd (v:=c_trail) rfl rfl ((Zc (Zk O)).trans ((Zc I).trans (Zp (fr.trans z)))),x.grw w N⟩
def sn(rs:Li Rw):Nat->Nat->Li Int->Li Nat
 |0,_,_=>[]
 |n+1,k,vs=>match mv rs k vs with
  |.inl _=>if rs.length<=k then [] else [k]
  |.inr p=>k :: sn rs n p.1 p.2
def YQ(l:Li Nat):Nat:=l.foldl (λb k=>b ||| 2 ^ k) 0
def UN:D->Bool
 |.tup (.str x :: _)=>decide (x=S "told")
 |_=>false
def hdD:D->D
 |.tup (x :: _)=>x
 |_=>.non
variable{l:Li Nat}
theorem QF:tl rs n k vs≠[]:=by
 cases n with
 |zero=>exact eJ _ _
 |succ n=>unfold tl;split<;>exact eJ _ _
theorem Vx:∀ {n k:Nat}{vs:Li Int},(tl rs n k vs).getLastD .non=oc rs n k vs
 |0,k,vs=>rfl
 |n+1,k,vs=>by
  unfold tl oc;cases q:mv rs k vs with
  |inl o=>rfl
  |inr p=>
   show(stD p.1 p.2 :: tl rs n p.1 p.2).getLastD .non=oc rs n p.1 p.2;rw[<-Vx (n:=n)];cases h:tl rs n p.1 p.2 with
   |nil=>exact absurd h QF
   |cons z a=>rfl
theorem ZdF:∀ {n k:Nat}{vs:Li Int},isO (oc rs n k vs)=true
 |0,k,vs=>by unfold oc;split<;>rfl
 |n+1,k,vs=>by
  unfold oc;cases q:mv rs k vs with
  |inl o=>exact(Zcm q).1
  |inr p=>exact ZdF
theorem ZdE:∃ x a,oc rs n k vs=.tup (.str x :: a):=by
 have:=ZdF (rs:=rs) (n:=n) (k:=k) (vs:=vs);unfold isO at this;split at this
 .exact⟨_,_,‹_›⟩
 .cases this
theorem ZdL:∀ {n k:Nat}{vs:Li Int},(if UN (oc rs n k vs)=true then (stD k vs :: tl rs n k vs).dropLast else (stD k vs :: tl rs n k vs).dropLast.dropLast).map hdD=(sn rs n k vs).map λ(k:Nat)=>D.int (k:Int)
 |0,k,vs=>by
  have:UN (oc rs 0 k vs)=false:=by
   unfold oc;split
   .show decide (S "none"=S "told")=false;decide +kernel
   .show decide (S "late"=S "told")=false;decide +kernel
  rw[this];rfl
 |n+1,k,vs=>by
  have a:=λp:Nat×Li Int=>@ZdL n p.1 p.2
  unfold oc tl sn;cases q:mv rs k vs with
  |inl o=>
   obtain⟨_,b,e⟩:=Zcm q;dsimp only;rw[e];by_cases c:rs.length<=k
   .rw[if_pos c,if_pos c,show UN (.tup (.str "none" :: b))=false from by show decide (S "none"=S "told")=false;decide +kernel];rfl
   .rw[if_neg c,if_neg c,show UN (.tup (.str "told" :: b))=true from by show decide (S "told"=S "told")=true;decide +kernel];rfl
  |inr p=>
   dsimp only;have a:=a p;cases h:tl rs n p.1 p.2 with
   |nil=>exact absurd h QF
   |cons z b=>
    rw[h]at a;cases d:UN (oc rs n p.1 p.2) with
    |true=>
     rw[d,if_pos rfl]at a;rw[if_pos rfl];rw[aM,<-a];rfl
    |false=>
     rw[d,if_neg (by decide)]at a
     rw[if_neg (by decide),aM,<-a];rfl
theorem ZbB(h:xs≠[])(a:xs.length<=100000):atD xs (-1)=some (xs.getLastD .non):=by
 have b:0 < xs.length:=List.length_pos_iff.mpr h;unfold atD ixN;rw[if_neg (by decide),if_pos (by omega),oB7,show(-1+(xs.length:Int)).toNat=xs.length - 1 by omega,<-List.getLast?_eq_getElem?,List.getLastD_eq_getLast?]
 cases q:xs.getLast? with
 |none=>exact absurd (List.getLast?_eq_none_iff.mp q) h
 |some z=>rfl
theorem Y.lastT(c:Y F s a U (.tup xs))(h:xs≠[])(b:xs.length<=100000):Y F s (.ix a (.neg (.i 1))) U (xs.getLastD .non):=g2 (y:=.int (-1)) c (.r rf) (gp λst=>by
 show ixR (.tup xs) (.int (-1)) st=_;unfold ixR ixD;simp only[ZbB h b])
theorem Y.dlT(d:Y F s a U (.tup xs)):Y F s (.slice a .nop (.part (.neg (.i 1)))) U (.tup xs.dropLast):=λst g=>by
 obtain⟨b,e,c⟩:=d st g;refine⟨b,?_,c⟩;show XF (ev F a) (evC .non) (λ_ st=>some (.int (-1),st)) YO U st=_
 unfold XF evC;simp only[e];show Z7 (.tup xs) none (some (-1)) b=_;rw[sl_tup];unfold Xw;rw[show sIx xs.length 0 none=0 from rfl,cV,Nat.sub_zero];have:sIx xs.length xs.length (some (-1))=xs.length - 1:=by
  show(if (-1:Int) < 0 then (-1+(xs.length:Int)).toNat else Nat.min (-1:Int).toNat xs.length)=_
  rw[if_pos (by decide)];omega
 rw[this,List.dropLast_eq_take]
theorem U4:∀ {M k:Nat}{vs:Li Int},(tl rs M k vs).length<=M+1
 |0,k,vs=>aD _
 |M+1,k,vs=>by
  unfold tl;split
  .show 1<=_;omega
  .rename_i p _;have:=U4 (M:=M) (k:=p.1) (vs:=p.2);rw[aQ];omega
theorem Zdu{l:Li D}(h:∀ d∈l,∃ x e,d=.tup (x :: e))(f:l.length<=1000)(m:Y F s a U (.tup l)):Lv s (ev F (.comp false [] a (.ix (.v 0) (.i 0)) (.c (.bl true))) U) (l.map hdD):=by
 have:=V1 (F:=F) (s:=s) (U:=U) (b:=one) (fr:=[]) (it:=a) (elt:=.ix (.v 0) (.i 0)) (en:=id) (g:=hdD) (l:=l) (wk:=Yt false) (by rw[List.map_id];exact .of m λst=>rfl) f λd k=>by
  obtain⟨x,e,rfl⟩:=h d k;exact .ixt (j:=0) (.r rf) (.r rf) rfl
 exact this
theorem Zbf:∀ {n k:Nat}{vs:Li Int},∀ d∈stD k vs :: tl rs n k vs,∃ x a,d=.tup (x :: a)
 |0,k,vs=>λd hd=>by
  rcases aH.mp hd with rfl|hd
  .exact⟨_,_,rfl⟩
  .obtain⟨x,a,h⟩:=ZdE (rs:=rs) (n:=0) (k:=k) (vs:=vs)
   rw[aJ.mp hd];exact⟨_,a,h⟩
 |n+1,k,vs=>λd hd=>by
  rcases aH.mp hd with rfl|hd
  .exact⟨_,_,rfl⟩
  .unfold tl at hd
   cases q:mv rs k vs with
   |inl o=>
    rw[q]at hd;obtain⟨_,a,b⟩:=Zcm q;rw[aJ.mp hd];exact⟨_,a,b⟩
   |inr p=>rw[q]at hd;exact Zbf (n:=n) d hd
theorem Jp(R:L<=800):∀ st,Grw s st->∃ st' q b,rT (n+1) 14 [.tup (stD k vs :: tl rs L k vs)] st=some (.lst q,st')/\st'[q]?=some (b,(sn rs L k vs).map λ(k:Nat)=>D.int (k:Int))/\Grw st st':=λst g=>by
 have Q:=U4 (rs:=rs) (M:=L) (k:=k) (vs:=vs);have lo:(stD k vs :: tl rs L k vs).getLastD .non=oc rs L k vs:=by
  rw[<-Vx (n:=L)];cases h:tl rs L k vs with
  |nil=>exact absurd h QF
  |cons z o=>rfl
 obtain⟨x,o,B⟩:=ZdE (rs:=rs) (n:=L) (k:=k) (vs:=vs);have O:∀ {z:Ot D},Y (rT n) s (.cmp .NotEq (.ix (.ix (.v 0) (.neg (.i 1))) (.i 0)) (.t "told")) [some (.tup (stD k vs :: tl rs L k vs)),z] (.bl (!UN (oc rs L k vs))):=λ{z}=>by
  have y:=Y.lastT (F:=rT n) (s:=s) (a:=.v 0) (U:=[some (.tup (stD k vs :: tl rs L k vs)),z]) (xs:=stD k vs :: tl rs L k vs) (.r rf) (eJ _ _) (by rw[aQ];omega)
  rw[lo,B]at y;rw[B];exact .cmp (.ixt (j:=0) y (.r rf) rfl) (.r rf) λ_=>rfl
 have P:=Zbf (rs:=rs) (n:=L) (k:=k) (vs:=vs);have E:∀ d∈(stD k vs :: tl rs L k vs).dropLast,∃ x o,d=.tup (x :: o):=λd u=>P d (List.dropLast_subset _ u)
 have f:=ZdL (rs:=rs) (n:=L) (k:=k) (vs:=vs);obtain⟨H,C,c⟩:=Y.dlT (F:=rT n) (s:=s) (a:=.v 0) (U:=[some (.tup (stD k vs :: tl rs L k vs)),none]) (xs:=stD k vs :: tl rs L k vs) (.r rf) st g;obtain⟨A,m,e⟩:=O (z:=some (.tup (stD k vs :: tl rs L k vs).dropLast)) H (g.trans c);cases q:UN (oc rs L k vs) with
 |true=>
  rw[q,if_pos rfl]at f;rw[q]at m;obtain⟨p,j,b,w,K,l⟩:=Zdu (F:=rT n) (s:=s) (a:=.v 1) (U:=[some (.tup (stD k vs :: tl rs L k vs)),some (.tup (stD k vs :: tl rs L k vs).dropLast)]) E (by rw[List.length_dropLast,aQ];omega) (.r rf) A (g.trans (c.trans e))
  exact⟨p,j,b,Yd (v:=c_places_done) rfl rfl ((Zc (Zk C)).trans ((Zc ((ZR m).trans Ze)).trans (Zp (ZK w)))),by rw[K,f],c.trans (e.trans l)⟩
 |false=>
  rw[q,if_neg (by decide)]at f
  rw[q]at m;obtain⟨p,w,l⟩:=Y.dlT (F:=rT n) (s:=s) (a:=.v 1) (U:=[some (.tup (stD k vs :: tl rs L k vs)),some (.tup (stD k vs :: tl rs L k vs).dropLast)]) (xs:=(stD k vs :: tl rs L k vs).dropLast) (.r rf) A (g.trans (c.trans e));obtain⟨G,j,b,N,J,I⟩:=Zdu (F:=rT n) (s:=s) (a:=.v 1) (U:=[some (.tup (stD k vs :: tl rs L k vs)),some (.tup (stD k vs :: tl rs L k vs).dropLast.dropLast)]) (λd u=>E d (List.dropLast_subset _ u)) (by rw[List.length_dropLast,List.length_dropLast,aQ];omega) (.r rf) p (g.trans (c.trans (e.trans l)))
  exact⟨G,j,b,Yd (v:=c_places_done) rfl rfl ((Zc (Zk C)).trans ((Zc ((Z9 m).trans ((Zc (Zk w)).trans Ze))).trans (Zp (ZK N)))),by rw[J,f],c.trans (e.trans (l.trans I))⟩
theorem V8{I:Nat->Env->Prop}{bb:Bool}{body:D->Env->Za->Ot (Fl×Za)}(e:st[j]?=some (bb,xs))(l:∀ i d U st1,xs[i]?=some d->I i U->Grw st st1->∃ U' a,body d U st1=some (.nx U',a)/\Grw st1 a/\I (i+1) U'):∀ (M i:Nat) (U:Env) (st1:Za),i+M=xs.length->I i U->Grw st st1->∃ U' a,ZM body j M i U st1=some (.nx U',a)/\Grw st1 a/\I xs.length U'
 |0,i,U,st1,h,f,g=>⟨U,st1,by unfold ZM;rw[g.get e];exact if_pos (by omega),.refl,by rw[<-h];exact f⟩
 |M+1,i,U,st1,h,f,g=>by
  have hi:i < xs.length:=by omega
  obtain⟨c,n,q,k,s⟩:=l i _ U st1 (lG7 hi) f g;obtain⟨b,m,p,o,r⟩:=V8 e l M (i+1) c n (by omega) s (g.trans k)
  refine⟨b,m,?_,k.trans o,r⟩
  conv=>lhs;unfold ZM
  simp only[g.get e,lG7 hi,q];exact p
theorem Wz{I:Nat->Env->Prop}{body:D->Env->Za->Ot (Fl×Za)}:∀ {xs:Li D} (a:Nat) (U:Env) (st1:Za),(∀ i d U b,xs[i]?=some d->I (a+i) U->Grw st1 b->∃ U' c,body d U b=some (.nx U',c)/\Grw b c/\I (a+i+1) U')->I a U->∃ U' b,Zl body xs U st1=some (.nx U',b)/\Grw st1 b/\I (a+xs.length) U'
 |[],a,U,st1,_,h=>⟨U,st1,rfl,.refl,h⟩
 |x :: xs,a,U,st1,k,h=>by
  obtain⟨f,m,r,j,t⟩:=k 0 x U st1 rfl h .refl;obtain⟨e,l,q,n,s⟩:=Wz (xs:=xs) (a+1) f m (λi d U b p o g=>by
   have:=k (i+1) d U b p (by rw[show a+(i+1)=a+1+i by omega];exact o) (j.trans g)
   rw[show a+(i+1)+1=a+1+i+1 by omega]at this
   exact this) t
  refine⟨e,l,?_,j.trans n,by rw[aQ,show a+(xs.length+1)=a+1+xs.length by omega];exact s⟩
  show(match body x U st1 with
   |some (.nx U',st')=>Zl body xs U' st'
   |some (.ct U',st')=>Zl body xs U' st'
   |some (.bk U',st')=>some (.nx U',st')
   |some (.rt v,st')=>some (.rt v,st')
   |none=>none)=_
  rw[r];exact q
theorem Va{bb:Bool}(a:ev F e U st=some (.lst j,st1))(h:st1[j]?=some (bb,xs)):ex F (.for1 i false e q) U st=ZM (λd U s=>ex F q (Zg U i d) s) j xs.length 0 U st1:=by
 show Wq i false (ev F e) (ex F q) U st=_;unfold Wq;rw[a];show(match st1[j]? with
  |some (_,xs)=>ZM (λd U s=>ex F q (Zg U i d) s) j xs.length 0 U st1
  |none=>none)=_
 rw[h]
theorem for_tup(a:ev F e U st=some (.tup xs,st1)):ex F (.for1 i false e q) U st=Zl (λd U s=>ex F q (Zg U i d) s) xs U st1:=by
 show Wq i false (ev F e) (ex F q) U st=_;unfold Wq;rw[a];rfl
theorem ZfQ(t:k<=60):C (rT (n+1)) s 43 [.int (k:Int)] (.int ((2 ^ k:Nat):Int)):=λst g=>by
 obtain⟨U',j,f,m,y,rfl⟩:=Wz (st1:=st) (I:=λi U=>∃ y,U=[jN k,some (.int ((2 ^ i:Nat):Int)),y]) (body:=λd U s=>ex (rT n) Xf (Zg U 2 d) s) (xs:=(List.range k).map λ(k:Nat)=>D.int (k:Int)) 0 [jN k,some (.int ((2 ^ 0:Nat):Int)),none] (λi d U c u o g2=>by
  obtain⟨y,rfl⟩:=o;obtain⟨h,p,l⟩:=Y.mul (F:=rT n) (s:=c) (a:=.v 1) (b:=.i 2) (U:=[jN k,some (.int ((2 ^ (0+i):Nat):Int)),some d]) (.r rf) (.r rf) rfl c .refl;refine⟨_,h,(Zc (Zk p)).trans Ze,l,some d,?_⟩;rw[show((2 ^ (0+i+1):Nat):Int)=((2 ^ (0+i):Nat):Int) * 2 by rw[Nat.pow_succ,Int.natCast_mul];rfl]
  rfl) ⟨none,rfl⟩
 have fr:=Y7 (F:=rT n) (i:=2) (e:=.v 0) (q:=Xf) (U:=[jN k,some (.int ((2 ^ 0:Nat):Int)),none]) (st:=st) (v:=(k:Int)) (by omega) (by omega) rfl
 rw[bD]at fr;rw[aE,cM,bG]at f;exact⟨j,Yd (v:=c_bit_of) rfl rfl ((Zc (Zk rfl)).trans ((Zc (fr.trans f)).trans (Zp (ZK rfl)))),m⟩
theorem QO{z:Nat}:YQ (l++[z])=YQ l ||| 2 ^ z:=by unfold YQ;rw[List.foldl_append];rfl
theorem ZdZ(D:L<=800)(B:∀ z∈sn rs L k vs,z<=60):C (rT (n+2)) s 44 [.tup (stD k vs :: tl rs L k vs)] (.int (YQ (sn rs L k vs):Int)):=λst g=>by
 obtain⟨f,q,bb,H,m,A⟩:=Jp (n:=n) (s:=s) (rs:=rs) (k:=k) (vs:=vs) D st g;have e:ev (rT (n+1)) (.call 14 (.u (.v 0)) []) [some (.tup (stD k vs :: tl rs L k vs)),some (.int ((0:Nat):Int)),none] st=some (.lst q,f):=H;obtain⟨U',t,o,x,y,rfl⟩:=V8 (I:=λi U=>∃ y,U=[some (.tup (stD k vs :: tl rs L k vs)),some (.int (YQ ((sn rs L k vs).take i):Int)),y]) (body:=λd U s=>ex (rT (n+1)) XZ (Zg U 2 d) s) m (λi d U c l E g2=>by
  obtain⟨y,rfl⟩:=E;rw[aT]at l;obtain⟨z,h,rfl⟩:=dM.mp l;obtain⟨p,G,w⟩:=Y.bi (op:=.BitOr) (F:=rT (n+1)) (s:=c) (a:=.v 1) (b:=.call 43 (.u (.v 2)) []) (U:=[some (.tup (stD k vs :: tl rs L k vs)),some (.int (YQ ((sn rs L k vs).take i):Int)),jN z]) (i:=(YQ ((sn rs L k vs).take i):Int)) (j:=((2 ^ z:Nat):Int)) (k:=(YQ ((sn rs L k vs).take (i+1)):Int)) (.r rf) (.call1 (.r rf) (ZfQ (B z (aZ h)))) (by
   rw[List.take_succ,h,Option.toList_some,QO];show(if 0<=(YQ ((sn rs L k vs).take i):Int)/\0<=((2 ^ z:Nat):Int) then some ((((YQ ((sn rs L k vs).take i):Int)).toNat ||| ((2 ^ z:Nat):Int).toNat:Nat):Int) else none)=_
   rw[if_pos ⟨Int.natCast_nonneg _,Int.natCast_nonneg _⟩,bD,bD]) c .refl
  exact⟨_,p,(Zc (Zk G)).trans Ze,w,jN z,rfl⟩) _ 0 [some (.tup (stD k vs :: tl rs L k vs)),some (.int ((0:Nat):Int)),none] f (bG _) ⟨none,rfl⟩ .refl
 rw[aE,List.take_length]at o;exact⟨t,Yd (v:=c_seen_in) rfl rfl ((Zc (Zk rfl)).trans ((Zc ((Va e m).trans (by rw[aE];exact o))).trans (Zp (ZK rfl)))),A.trans x⟩
def nxt(l:Li Str)(g:Str):Str:=l.getD ((l.idxOf g+1) % l.length) (S "")
def cnt(g:Str):Str:=if g=S "<" then S ">=" else if g=S ">=" then S "<" else if g=S "<=" then S ">" else if g=S ">" then S "<=" else if g=S "=" then S "!=" else S "="
def Yz:Op->Li Op
 |.nu v=>[.nu (arI (v+1))]
 |.nm _=>[]
def sgR:Rw->Li Rw
 |.put x y g z=>[.put x y (nxt psL g) z]
 |.ifr y g z t=>[.ifr y (nxt isL g) z t]
 |_=>[]
def moR:Rw->Li Rw
 |.put x y g z=>(Yz y).map (λq=>.put x q g z)++(Yz z).map (λq=>.put x y g q)
 |.ifr y g z t=>(Yz y).map (λq=>.ifr q g z t)++(Yz z).map (λq=>.ifr y g q t)
 |.tell y=>(Yz y).map .tell
 |_=>[]
def tuR:Rw->Li Rw
 |.ifr y g z t=>[.ifr y (cnt g) z t]
 |_=>[]
def ouR:Rw->Li Rw
 |.skip=>[]
 |_=>[.skip]
def swR:Rw->Li Rw
 |.put x y g z=>if y=z then [] else [.put x z g y]
 |.ifr y g z t=>if y=z then [] else [.ifr z g y t]
 |_=>[]
def faR(sz:Nat):Rw->Li Rw
 |.ifr y g z t=>if sz<=t then [] else [.ifr y g z (t+1)]
 |.go t=>if sz<=t then [] else [.go (t+1)]
 |_=>[]
variable{z:Op}{obj:D}
theorem ZfP(h:(xs=[.kt psL,.str g]/\g∈psL/\d=.str (nxt psL g))\/(xs=[.kt isL,.str g]/\g∈isL/\d=.str (nxt isL g))):C (rT (n+1)) s 70 xs d:=by
 rcases h with⟨rfl,h,rfl⟩|⟨rfl,h,rfl⟩
 .simp only[psL,aH,bE,or_false]at h
  rcases h with rfl|rfl|rfl|rfl|rfl<;>exact .of (v:=c_behind) rfl rfl (.ret (.r λst=>by rfl))
 .simp only[isL,aH,bE,or_false]at h
  rcases h with rfl|rfl|rfl|rfl|rfl|rfl<;>exact .of (v:=c_behind) rfl rfl (.ret (.r λst=>by rfl))
theorem Zg6(h:YS m sz r):C (rT (n+2)) s 171 [obj,rwE r,.int (sz:Int)] (.tup ((sgR r).map rwE)):=by
 cases r with
 |put x y g z=>
  obtain⟨_,_,a,_⟩:=h;exact .of (v:=c_Sign_turned) rfl rfl (.yes (.r rf) (.cons (.call (xs:=[rwE (.put x y g z),.int ((3:Nat):Int),.str (nxt psL g)]) (.cons (.r rf) (.cons (.r rf) (.cons (.call (xs:=[.kt psL,.str g]) (.r rf) (ZfP (.inl ⟨rfl,a,rfl⟩))) .nil))) (XI (i:=3) (by show 3 < 5;decide) (by show 5<=1000;decide))) .nil))
 |ifr y g z t=>
  obtain⟨_,a,_,_⟩:=h;exact .of (v:=c_Sign_turned) rfl rfl (.no (.r rf) (.yes (.r rf) (.cons (.call (xs:=[rwE (.ifr y g z t),.int ((2:Nat):Int),.str (nxt isL g)]) (.cons (.r rf) (.cons (.r rf) (.cons (.call (xs:=[.kt isL,.str g]) (.r rf) (ZfP (.inr ⟨rfl,a,rfl⟩))) .nil))) (XI (i:=2) (by show 2 < 5;decide) (by show 5<=1000;decide))) .nil)))
 |go t=>exact .of (v:=c_Sign_turned) rfl rfl (.no (.r rf) (.no (.r rf) (.ret (.r rf))))
 |tell y=>exact .of (v:=c_Sign_turned) rfl rfl (.no (.r rf) (.no (.r rf) (.ret (.r rf))))
 |skip=>exact .of (v:=c_Sign_turned) rfl rfl (.no (.r rf) (.no (.r rf) (.ret (.r rf))))
theorem Zg9(h:YS m sz r):C (rT (n+2)) s 159 [obj,rwE r,.int (sz:Int)] (.tup ((tuR r).map rwE)):=by
 cases r with
 |ifr y g z t=>
  obtain⟨_,a,_,_⟩:=h;refine .of (v:=c_Turn_turned) rfl rfl (.no (.r rf) (.ret (.cons (.call (xs:=[rwE (.ifr y g z t),.int ((2:Nat):Int),.str (cnt g)]) (.cons (.r rf) (.cons (.r rf) (.cons ?_ .nil))) (XI (i:=2) (by show 2 < 5;decide) (by show 5<=1000;decide))) .nil)))
  simp only[isL,aH,bE,or_false]at a;rcases a with rfl|rfl|rfl|rfl|rfl|rfl<;>exact .r λst=>rfl
 |put x y g z=>exact .of (v:=c_Turn_turned) rfl rfl (.yes (.r rf) (.r rf))
 |go t=>exact .of (v:=c_Turn_turned) rfl rfl (.yes (.r rf) (.r rf))
 |tell y=>exact .of (v:=c_Turn_turned) rfl rfl (.yes (.r rf) (.r rf))
 |skip=>exact .of (v:=c_Turn_turned) rfl rfl (.yes (.r rf) (.r rf))
theorem Zg4:C (rT (n+1)) s 154 [obj,rwE r,.int (sz:Int)] (.tup ((ouR r).map rwE)):=by
 cases r with
 |skip=>exact .of (v:=c_Out_turned) rfl rfl (.yes (.r rf) (.r rf))
 |put x y g z=>exact .of (v:=c_Out_turned) rfl rfl (.no (.r rf) (.ret (.r rf)))
 |ifr y g z t=>exact .of (v:=c_Out_turned) rfl rfl (.no (.r rf) (.ret (.r rf)))
 |go t=>exact .of (v:=c_Out_turned) rfl rfl (.no (.r rf) (.ret (.r rf)))
 |tell y=>exact .of (v:=c_Out_turned) rfl rfl (.no (.r rf) (.ret (.r rf)))
theorem op_eq:eqS st (opE o) (opE z)=some (decide (o=z)):=by
 cases o with
 |nm i=>cases z with
  |nm j=>
   show some (decide (S "name"=S "name")&&(decide ((i:Int)=(j:Int))&&true))=_;rw[aG rfl,dS,dD];exact congrArg some (decide_eq_decide.mpr ⟨λh=>by rw[Int.ofNat_inj.mp h],λh=>by cases h;rfl⟩)
  |nu v=>
   show some (decide (S "name"=S "number")&&(decide ((i:Int)=v)&&true))=_;rw[show decide (S "name"=S "number")=false by decide +kernel]
   exact congrArg some (aF λh=>nomatch h).symm
 |nu u=>cases z with
  |nm j=>
   show some (decide (S "number"=S "name")&&(decide (u=(j:Int))&&true))=_;rw[show decide (S "number"=S "name")=false by decide +kernel]
   exact congrArg some (aF λh=>nomatch h).symm
  |nu v=>
   show some (decide (S "number"=S "number")&&(decide (u=v)&&true))=_;rw[aG rfl,dS,dD];exact congrArg some (decide_eq_decide.mpr ⟨λh=>by rw[h],λh=>by cases h;rfl⟩)
theorem Y.neO(d:Y F s a U (opE o))(c:Y F s b U (opE z)):Y F s (.cmp .NotEq a b) U (.bl (!decide (o=z))):=.cmp d c λst=>by
 show(eqS st (opE o) (opE z)).map Bool.not=_;rw[op_eq];rfl
theorem Zg8:C (rT (n+1)) s 162 [obj,rwE r,.int (sz:Int)] (.tup ((swR r).map rwE)):=by
 cases r with
 |put x y g z=>
  refine .of (v:=c_Swap_turned) rfl rfl (.pick (k:=true&&!decide (y=z)) (.and (.r rf) λ_=>.neO (.r rf) (.r rf)) (λh=>?_) λh=>.no (.r rf) ?_)
  .have:¬y=z:=λe=>by rw[aG e]at h;cases h
   show R _ _ _ _ (.tup ((if y=z then [] else [Rw.put x z g y]).map rwE))
   rw[if_neg this];exact .ret (.r rf)
  .have:y=z:=by
    by_cases e:y=z
    .exact e
    .rw[aF e]at h;cases h
   show R _ _ _ _ (.tup ((if y=z then [] else [Rw.put x z g y]).map rwE))
   rw[if_pos this];exact .ret (.r rf)
 |ifr y g z t=>
  refine .of (v:=c_Swap_turned) rfl rfl (.no (.r rf) (.pick (k:=true&&!decide (y=z)) (.and (.r rf) λ_=>.neO (.r rf) (.r rf)) (λh=>?_) λh=>?_))
  .have:¬y=z:=λe=>by rw[aG e]at h;cases h
   show R _ _ _ _ (.tup ((if y=z then [] else [Rw.ifr z g y t]).map rwE))
   rw[if_neg this];exact .ret (.r rf)
  .have:y=z:=by
    by_cases e:y=z
    .exact e
    .rw[aF e]at h;cases h
   show R _ _ _ _ (.tup ((if y=z then [] else [Rw.ifr z g y t]).map rwE))
   rw[if_pos this];exact .ret (.r rf)
 |go t=>exact .of (v:=c_Swap_turned) rfl rfl (.no (.r rf) (.no (.r rf) (.ret (.r rf))))
 |tell y=>exact .of (v:=c_Swap_turned) rfl rfl (.no (.r rf) (.no (.r rf) (.ret (.r rf))))
 |skip=>exact .of (v:=c_Swap_turned) rfl rfl (.no (.r rf) (.no (.r rf) (.ret (.r rf))))
theorem Zg2:C (rT (n+1)) s 165 [obj,rwE r,.int (sz:Int)] (.tup ((faR sz r).map rwE)):=by
 have a:∀ {t:Nat},decide ((sz:Int)<=(t:Int))=decide (sz<=t):=λ{t}=>decide_eq_decide.mpr (by omega)
 cases r with
 |go t=>
  refine .of (v:=c_Far_turned) rfl rfl (.pick (k:=false||decide (sz<=t)) (.or (.r rf) λ_=>.cmp (x:=.int (t:Int)) (.r rf) (.r rf) λ_=>congrArg some a) (λh=>?_) λh=>?_)
  .show R _ _ _ _ (.tup ((if sz<=t then [] else [Rw.go (t+1)]).map rwE))
   rw[if_pos (of_decide_eq_true h)];exact .ret (.r rf)
  .show R _ _ _ _ (.tup ((if sz<=t then [] else [Rw.go (t+1)]).map rwE))
   rw[if_neg (of_decide_eq_false h)];exact .ret (.cons (.adT (xs:=[.str "go"]) (ys:=[.int ((t+1:Nat):Int)]) (.r rf) (.cons (by rw[cD];exact .add (i:=(t:Int)) (.r rf) (.r rf)) .nil) (by show 1+1<=_;decide)) .nil)
 |ifr y g z t=>
  refine .of (v:=c_Far_turned) rfl rfl (.pick (k:=false||decide (sz<=t)) (.or (.r rf) λ_=>.cmp (x:=.int (t:Int)) (.r rf) (.r rf) λ_=>congrArg some a) (λh=>?_) λh=>?_)
  .show R _ _ _ _ (.tup ((if sz<=t then [] else [Rw.ifr y g z (t+1)]).map rwE))
   rw[if_pos (of_decide_eq_true h)];exact .ret (.r rf)
  .show R _ _ _ _ (.tup ((if sz<=t then [] else [Rw.ifr y g z (t+1)]).map rwE))
   rw[if_neg (of_decide_eq_false h)];exact .ret (.cons (.adT (xs:=[.str "if",opE y,.str g,opE z]) (ys:=[.int ((t+1:Nat):Int)]) (.r rf) (.cons (by rw[cD];exact .add (i:=(t:Int)) (.r rf) (.r rf)) .nil) (by show 4+1<=_;decide)) .nil)
 |put x y g z=>exact .of (v:=c_Far_turned) rfl rfl (.yes (.or (k:=true) (m:=false) (.r rf) λh=>nomatch h) (.r rf))
 |tell y=>exact .of (v:=c_Far_turned) rfl rfl (.yes (.or (k:=true) (m:=false) (.r rf) λh=>nomatch h) (.r rf))
 |skip=>exact .of (v:=c_Far_turned) rfl rfl (.yes (.or (k:=true) (m:=false) (.r rf) λh=>nomatch h) (.r rf))
variable{i0:Nat}
section
variable{g0:Str}
theorem Zf1{α:Type}{b:α->D}{g:α->Li D}{E:Ot D->Env}(n:∀ y d,Zg (E y) i d=E (some d))(m:s.length<=j):∀ {l:Li α},(∀ a∈l,Ap F s j q (E (some (b a))) (E (some (b a))) (g a))->∀ {y:Ot D}{st:Za}{acc:Li D},Grw s st->st[j]?=some (true,acc)->acc.length+(l.flatMap g).length<=900->∃ e st',Zl (λd U s=>ex F q (Zg U i d) s) (l.map b) (E y) st=some (.nx (E e),st')/\Kj j st st'/\st'[j]?=some (true,acc++l.flatMap g)
 |[],_,y,st,acc,k,f,_=>⟨y,st,rfl,Grw.refl.kj,by rw[List.flatMap_nil,bC];exact f⟩
 |a :: l,h,y,st,acc,k,f,t=>by
  rw[cF,aK]at t;obtain⟨z,x,g1,r⟩:=h a lQ7 st acc k f (by omega)
  obtain⟨e,o,w,g2,p⟩:=Zf1 n m (λc u=>h c (lM7 _ u)) (y:=some (b a)) (g1.grw m k) r (by rw[aK];omega)
  refine⟨e,o,?_,g1.trans g2,by rw[cF,<-bP];exact p⟩
  rw[aM];show(match ex F q (Zg (E y) i (b a)) st with
   |some (.nx U',st')=>Zl _ (l.map b) U' st'
   |some (.ct U',st')=>Zl _ (l.map b) U' st'
   |some (.bk U',st')=>some (.nx U',st')
   |some (.rt v,st')=>some (.rt v,st')
   |none=>none)=_
  rw[n,x];exact w
theorem Zf2{α:Type}{en:α->D}{g:α->Li D}{E:Ot D->Env}{la:Nat}{bb:Bool}{all:Li α}(m:∀ y d,Zg (E y) i d=E (some d))(l:s.length<=j)(f:la≠j)(h:∀ a∈all,Ap F s j q (E (some (en a))) (E (some (en a))) (g a)):∀ (M t:Nat) {y:Ot D}{st:Za}{acc:Li D},t+M=all.length->Grw s st->st[la]?=some (bb,all.map en)->st[j]?=some (true,acc)->acc.length+((all.drop t).flatMap g).length<=900->∃ c st',ZM (λd U s=>ex F q (Zg U i d) s) la M t (E y) st=some (.nx (E c),st')/\Kj j st st'/\st'[j]?=some (true,acc++(all.drop t).flatMap g)
 |0,t,y,st,acc,u,k,b,e,_=>⟨y,st,by unfold ZM;rw[b];exact if_pos (by rw[aE];omega),Grw.refl.kj,by rw[List.drop_of_length_le (by omega),List.flatMap_nil,bC];exact e⟩
 |M+1,t,y,st,acc,u,k,b,e,v=>by
  have hi:t < all.length:=by omega
  rw[bZ hi,cF,aK]at v;obtain⟨z,x,g1,p⟩:=h _ (dG hi) st acc k e (by omega)
  obtain⟨c,n,w,g2,o⟩:=Zf2 m l f h M (t+1) (y:=some (en all[t])) (by omega) (g1.grw l k) ((g1.old _ (Zh b) f).trans b) p (by rw[aK];omega)
  refine⟨c,n,?_,g1.trans g2,by rw[bZ hi,cF,<-bP];exact o⟩
  conv=>lhs;unfold ZM
  have r:(all.map en)[t]?=some (en all[t]):=by rw[aT,lG7 hi];rfl
  simp only[b,r,m,x];exact w
theorem Zha{u v:α->D}{g:α->Li D}{E:Ot D->Ot D->Ot D->Env}{i':Nat}(H:∀ y z w u v,Zg (Zg (E y z w) i u) i' v=E (some u) (some v) w)(C:s.length<=j){l:Li α}:(∀ a∈l,∀ w st acc,Grw s st->st[j]?=some (true,acc)->acc.length+(g a).length<=900->∃ U' st',(∃ y z w,U'=E y z w)/\ex F q (E (some (u a)) (some (v a)) w) st=some (.nx U',st')/\Kj j st st'/\st'[j]?=some (true,acc++g a))->∀ {y z w:Ot D}{st:Za}{acc:Li D},Grw s st->st[j]?=some (true,acc)->acc.length+(l.flatMap g).length<=900->∃ d b e st',ZX (λ_=>True) (λx y U S=>ex F q (Zg (Zg U i x) i' y) S) (l.map λa=>(u a,v a)) (E y z w) st=some (.nx (E d b e),st')/\Kj j st st'/\st'[j]?=some (true,acc++l.flatMap g):=by
 induction l with
 |nil=>intro _ y z w st acc k f _;exact⟨y,z,w,st,if_pos trivial,Grw.refl.kj,by rw[List.flatMap_nil,bC];exact f⟩
 |cons a l A=>
  intro h y z w st acc k f B;rw[cF,aK]at B;obtain⟨_,K,⟨n,m,o,rfl⟩,J,g1,t⟩:=h a lQ7 w st acc k f (by omega)
  obtain⟨d,b,e,p,I,g2,r⟩:=A (λc G=>h c (lM7 _ G)) (y:=n) (z:=m) (w:=o) (g1.grw C k) t (by rw[aK];omega)
  refine⟨d,b,e,p,?_,g1.trans g2,by rw[cF,<-bP];exact r⟩
  rw[aM,ZX,if_pos trivial];simp only[H,J];exact I
def Lf(s:Za)(f:Za->Res)(xs:Li D):Prop:=∀ st,Grw s st->∃ st' j,f st=some (.lst j,st')/\st'[j]?=some (true,xs)/\Grw st st'
theorem ZeC{b:D->Li (Ot D)}{en g:α->D}{l:Li α}(hi:Wk F s it U wk (l.map en))(n:l.length<=1000)(h:∀ a∈l,Y F s elt (ZQ b U fr (en a)) (g a)):Lf s (Ye b wk fr (ev F it) (ev F elt) (ev F (.c (.bl true))) U) (l.map g):=λst k=>by
 obtain⟨x,e,ok,r,f,q,m⟩:=hi st k;obtain⟨i,p,j⟩:=X9 (s:=e) (ok:=ok) (fe:=λd=>ev F elt (ZQ b U fr d)) (fc:=λd=>ev F (.c (.bl true)) (ZQ b U fr d)) (λ_ _=>rfl) m (λa o=>Gv.mono (h a o) (k.trans f)) e .refl
 refine⟨i++[(true,l.map g)],_,?_,Zu,(f.trans j).trans .push⟩;unfold Ye;simp only[r,q,aE,if_pos n,p]
theorem Ap.ext(hi:U[i]?=some (jL j))(h:Lf s (ev F e U) xs):Ap F s j (.ext i e) U U xs:=λst acc g k o=>by
 obtain⟨c,q,n,l,a⟩:=h st g;have b:=a.get k;refine⟨c.set j (true,acc++xs),?_,⟨λm f d=>?_,by rw[bF];exact a.len⟩,by rw[Zv (Zh b),if_pos rfl]⟩
 .show JR i (ev F e) U st=_
  unfold JR Zen;simp only[hi,n,b,l];rw[if_pos (by unfold Zm;omega)]
 .rw[Zv (Zh b),if_neg (Ne.symm d)]
  exact a.old m f
theorem R.gather{l:Li α}{en:α->D}{g:α->Li D}{E:Ot D->Nat->Env}(w:∀ j,Zg U i0 (.lst j)=E none j)(t:∀ y j d,Zg (E y j) i d=E (some d) j)(n:∀ y j,(E y j)[i0]?=some (jL j))(p:∀ j,Y F s e (E none j) (.tup (l.map en)))(r:∀ j,s.length<=j->∀ a∈l,Ap F s j q (E (some (en a)) j) (E (some (en a)) j) (g a))(o:(l.flatMap g).length<=900):R F s (.seq (.set i0 (.lstE .aN)) (.seq (.for1 i false e q) (.z (.ret (.tOf (.v i0)))))) U (.tup (l.flatMap g)):=λst b=>by
 obtain⟨C,A,f⟩:=p st.length (st++[(true,[])]) (b.trans .push);obtain⟨B,h,x,m,u⟩:=Zf1 (i:=i) (E:=λy=>E y st.length) (λy d=>t y st.length d) b.len (r st.length b.len) (y:=none) ((b.trans .push).trans f) (f.get Zu) (by rw[cU,bG];exact o)
 refine⟨h,?_,(f.kj.trans m).grw (aD _) .push⟩;have k:ex F (.set i0 (.lstE .aN)) U st=some (.nx (E none st.length),st++[(true,[])]):=by rw[<-w];exact Zk rfl
 exact(Zc k).trans ((Zc ((for_tup A).trans x)).trans (Zp (ZK (Yg (c:=(true,[]++l.flatMap g)) (by show YE i0 _ _=_;unfold YE;rw[n]) u))))
theorem Zg3(h:YS m sz r):C (rT (n+2)) s 151 [obj,rwE r,.int (sz:Int)] (.tup ((moR r).map rwE)):=by
 have c:∀ (l:Li (Nat×Li Rw)),(∀ {s:Za},C (rT (n+1)) s 113 [rwE r] (.tup (l.map λp=>D.int (p.1:Int))))->(l.flatMap λp=>p.2.map rwE)=(moR r).map rwE->((moR r).map rwE).length<=900->(∀ p∈l,∀ j,s.length<=j->Ap (rT (n+1)) s j Yb [some obj,some (rwE r),jN sz,jL j,jN p.1] [some obj,some (rwE r),jN sz,jL j,jN p.1] (p.2.map rwE))->C (rT (n+2)) s 151 [obj,rwE r,.int (sz:Int)] (.tup ((moR r).map rwE)):=λl J I F H=>by
  rw[<-I]at F ⊢;exact .of (v:=c_More_turned) rfl rfl (.gather (i0:=3) (i:=4) (E:=λy j=>[some obj,some (rwE r),jN sz,jL j,y]) (en:=λp:Nat×Li Rw=>D.int (p.1:Int)) (g:=λp=>p.2.map rwE) (λ_=>rfl) (λ_ _ _=>rfl) (λ_ _=>rfl) (λj=>.call1 (.r rf) J) (λj A p b=>H p b j A) F)
 have one:∀ {a:Li D}{p j:Nat}{o:Op}{f:Op->Rw},rwE r=.tup a->a.length<=5->a[p]?=some (opE o)->(∀ q,.tup (a.set p (opE q))=rwE (f q))->Ap (rT (n+1)) s j Yb [some obj,some (rwE r),jN sz,jL j,jN p] [some obj,some (rwE r),jN sz,jL j,jN p] (((Yz o).map f).map rwE):=λ{a p j o f} L M G K=>by
  rw[L];have B:∀ {s:Za},Y (rT (n+1)) s (.ix (.v 1) (.v 4)) [some obj,some (.tup a),jN sz,jL j,jN p] (opE o):=.ixt (j:=p) (.r rf) (.r rf) G;cases o with
  |nm i=>exact .one (.ite (k:=false) (.cmp (x:=.str "name") (.ixt (j:=0) B (.r rf) rfl) (.r rf) λ_=>rfl) .skip)
  |nu v=>
   refine .one (.ite (k:=true) (.cmp (x:=.str "number") (.ixt (j:=0) B (.r rf) rfl) (.r rf) λ_=>rfl) (.one (.app rfl ?_)))
   have:=XI (n:=n) (s:=s) (xs:=a) (i:=p) (d:=opE (.nu (arI (v+1)))) (Zh G) (by omega)
   rw[K]at this;exact .call (xs:=[.tup a,.int (p:Int),opE (.nu (arI (v+1)))]) (.cons (.r rf) (.cons (.r rf) (.cons (.cons (.r rf) (.cons (.call1 (.add (.ixt (j:=1) B (.r rf) rfl) (.r rf)) YU) .nil)) .nil))) this
 have w:∀ {o:Op},(Yz o).length<=1:=λ{o}=>by cases o with
  |nm i=>exact aV _
  |nu v=>exact aD _
 have u:∀ {s:Za}{l:Li D},(match r with|.put _ _ _ _=>[D.int 2,.int 4]|.ifr _ _ _ _=>[.int 1,.int 3]|.tell _=>[.int 1]|_=>[])=l->C (rT (n+1)) s 113 [rwE r] (.tup l):=λ{s l} e=>by
  rw[<-e];cases r<;>exact .of (v:=c_operand_places) rfl rfl (.ret (.r rf))
 cases r with
 |put x y g z=>
  refine c [(2,(Yz y).map λq=>.put x q g z),(4,(Yz z).map λq=>.put x y g q)] (u rfl) (by show _++(_++[])=List.map rwE (_++_);rw[bC,bN]) (by show(List.map rwE (_++_)).length<=900;rw[aE,aK,aE,aE];have:=w (o:=y);have:=w (o:=z);omega) λp b j A=>?_
  simp only[aH,bE,or_false]at b;rcases b with rfl|rfl
  .exact one (f:=λq=>.put x q g z) rfl (by show 5<=5;decide) rfl λq=>rfl
  .exact one (f:=λq=>.put x y g q) rfl (by show 5<=5;decide) rfl λq=>rfl
 |ifr y g z t=>
  refine c [(1,(Yz y).map λq=>.ifr q g z t),(3,(Yz z).map λq=>.ifr y g q t)] (u rfl) (by show _++(_++[])=List.map rwE (_++_);rw[bC,bN]) (by show(List.map rwE (_++_)).length<=900;rw[aE,aK,aE,aE];have:=w (o:=y);have:=w (o:=z);omega) λp b j A=>?_
  simp only[aH,bE,or_false]at b;rcases b with rfl|rfl
  .exact one (f:=λq=>.ifr q g z t) rfl (by show 5<=5;decide) rfl λq=>rfl
  .exact one (f:=λq=>.ifr y g q t) rfl (by show 5<=5;decide) rfl λq=>rfl
 |tell y=>
  refine c [(1,(Yz y).map .tell)] (u rfl) (by show _++[]=_;rw[bC];rfl) (by show(List.map rwE (List.map _ _)).length<=900;rw[aE,aE];have:=w (o:=y);omega) λp b j A=>?_
  rw[aJ.mp b];exact one (f:=.tell) rfl (by show 2<=5;decide) rfl λq=>rfl
 |go t=>exact c [] (u rfl) rfl (aV _) λp b=>nomatch b
 |skip=>exact c [] (u rfl) rfl (aV _) λp b=>nomatch b
end
structure Stp where
 c:Nat
 t:Nat
 v:Nat
 w:Str
 f:Rw->List Rw
def stp(sz:Nat):Li Stp:=[⟨169,171,170,S "sign",sgR⟩,⟨149,151,150,S "more",moR⟩,⟨157,159,158,S "turn",tuR⟩,⟨152,154,153,S "out",ouR⟩,⟨160,162,161,S "swap",swR⟩,⟨163,165,164,S "far",faR sz⟩]
def tD(p:Nat×Str×Rw):D:=.tup [.int (p.1:Int),.str p.2.1,rwE p.2.2]
def fkR(sz k:Nat)(r:Rw):Li (Nat×Str×Rw):=(stp sz).flatMap λp=>(p.f r).map λq=>(k,p.w,q)
def fkL(rs:Li Rw):Li (Nat×Str×Rw):=rs.zipIdx.flatMap λp=>fkR rs.length p.2 p.1
theorem Y.methO{c:Nat}{tab:Li (Nat×Nat)}(p:Y F s e U (.obj c))(o:tab.lookup c=some j)(q:Y F s a U (.tup xs))(h:C F s j (.obj c :: xs) d):Y F s (.meth tab e a) U d:=λst g=>by
 obtain⟨f,u,i⟩:=p st g;obtain⟨m,t,k⟩:=q f (g.trans i);obtain⟨l,r,n⟩:=h m (g.trans (i.trans k));refine⟨l,?_,i.trans (k.trans n)⟩;show X2 F tab (ev F e) (ev F a) U st=_;unfold X2;rw[u];show(match tab.lookup c with
  |some j=>(match ev F a U f with
   |some (.tup xs,b)=>F j (.obj c :: xs) b
   |_=>none)
  |none=>none)=_
 rw[o];show(match ev F a U f with
   |some (.tup xs,b)=>F j (.obj c :: xs) b
   |_=>none)=_
 rw[t];exact r
theorem ZeH:(moR r).length<=2:=by
 have a:∀ {o:Op},(Yz o).length<=1:=λ{o}=>by
  cases o with
  |nm i=>exact aV _
  |nu v=>exact aD _
 cases r with
 |put x y g z=>show(_++_:Li Rw).length<=2;rw[aK,aE,aE];have:=a (o:=y);have:=a (o:=z);omega
 |ifr y g z t=>show(_++_:Li Rw).length<=2;rw[aK,aE,aE];have:=a (o:=y);have:=a (o:=z);omega
 |tell y=>show(List.map _ _).length<=2;rw[aE];have:=a (o:=y);omega
 |go t=>exact aV _
 |skip=>exact aV _
theorem QC{p:Stp}(a:p∈stp sz):(p.f r).length<=2:=by
 simp only[stp,aH,bE,or_false]at a;rcases a with rfl|rfl|rfl|rfl|rfl|rfl
 .cases r<;>first|exact aV _|exact(by decide:1<=2)
 .exact ZeH
 .cases r<;>first|exact aV _|exact(by decide:1<=2)
 .cases r<;>first|exact aV _|exact(by decide:1<=2)
 .cases r with
  |put x y g z=>show(if y=z then [] else [Rw.put x z g y]).length<=2;split<;>first|exact aV _|exact(by decide:1<=2)
  |ifr y g z t=>show(if y=z then [] else [Rw.ifr z g y t]).length<=2;split<;>first|exact aV _|exact(by decide:1<=2)
  |_=>exact aV _
 .cases r with
  |go t=>show(if sz<=t then [] else [Rw.go (t+1)]).length<=2;split<;>first|exact aV _|exact(by decide:1<=2)
  |ifr y g z t=>show(if sz<=t then [] else [Rw.ifr y g z (t+1)]).length<=2;split<;>first|exact aV _|exact(by decide:1<=2)
  |_=>exact aV _
theorem W3{p:Stp}(a:p∈stp sz)(h:YS m sz r):C (rT (n+2)) s p.t [.obj p.c,rwE r,.int (sz:Int)] (.tup ((p.f r).map rwE))/\C (rT (n+2)) s p.v [.obj p.c] (.str p.w)/\List.lookup p.c [(146,148),(169,171),(149,151),(157,159),(152,154),(160,162),(163,165)]=some p.t/\List.lookup p.c [(146,147),(169,170),(149,150),(157,158),(152,153),(160,161),(163,164)]=some p.v:=by
 simp only[stp,aH,bE,or_false]at a;rcases a with rfl|rfl|rfl|rfl|rfl|rfl
 .exact⟨Zg6 h,.of (v:=c_Sign_word) rfl rfl (.ret (.r rf)),rfl,rfl⟩
 .exact⟨Zg3 h,.of (v:=c_More_word) rfl rfl (.ret (.r rf)),rfl,rfl⟩
 .exact⟨Zg9 h,.of (v:=c_Turn_word) rfl rfl (.ret (.r rf)),rfl,rfl⟩
 .exact⟨Zg4,.of (v:=c_Out_word) rfl rfl (.ret (.r rf)),rfl,rfl⟩
 .exact⟨Zg8,.of (v:=c_Swap_word) rfl rfl (.ret (.r rf)),rfl,rfl⟩
 .exact⟨Zg2,.of (v:=c_Far_word) rfl rfl (.ret (.r rf)),rfl,rfl⟩
theorem Zgj{e:Nat}{p:Stp}(i:Rs m rs)(d:p∈stp rs.length)(h:YS m rs.length r):Ap (rT (n+3)) s j XL [some (pgD tk m rs),some (.tup (rs.map rwE)),jL e,jL j,jN k,some (rwE r),some (.obj p.c)] [some (pgD tk m rs),some (.tup (rs.map rwE)),jL e,jL j,jN k,some (rwE r),some (.obj p.c)] (((p.f r).map λq=>(k,p.w,q)).map tD):=by
 refine .one (.ext rfl ?_);rw[bQ];refine ZeC (b:=one) (en:=rwE) (g:=tD ∘ λq=>(k,p.w,q)) (l:=p.f r) (.of (x:=.tup ((p.f r).map rwE)) (.methO (xs:=[rwE r,.int (rs.length:Int)]) (.r rf) (W3 (n:=n) (s:=s) d h).2.2.1 (.cons (.r rf) (.cons ?_ .nil)) ?_) λst=>rfl) (by have:=QC (r:=r) d;omega) λq o=>.cons (.r rf) (.cons (.methO (xs:=[]) (.r rf) (W3 (n:=n) (s:=s) d h).2.2.2 (.r rf) ?_) (.cons (.r rf) .nil))
 .have:=Y.lnT (F:=rT (n+3)) (s:=s) (a:=.v 1) (U:=[some (pgD tk m rs),some (.tup (rs.map rwE)),jL e,jL j,jN k,some (rwE r),some (.obj p.c)]) (xs:=rs.map rwE) (.r rf)
  rw[aE]at this;exact this
 .exact(W3 (n:=n+1) d h).1
 .exact(W3 (n:=n+1) d h).2.1
theorem Zeo:(fkR sz k r).length<=12:=by
 have h:∀ l:Li Stp,(∀ p∈l,(p.f r).length<=2)->(l.flatMap λp=>(p.f r).map λq=>(k,p.w,q)).length<=2 * l.length:=λl=>by
  induction l with
  |nil=>intro _;exact aD _
  |cons p l a=>
   intro h;rw[cF,aK,aE,aQ];have e:=h p lQ7;have d:=a λq b=>h q (lM7 _ b)
   omega
 exact h (stp sz) λp c=>QC c
theorem JO:∀ {rs:Li Rw}{k:Nat},Wp k (rs.map rwE)=(rs.zipIdx k).map λp=>(D.int (p.2:Int),rwE p.1)
 |[],_=>rfl
 |r :: rs,k=>by
  rw[aM,Wp,JO,List.zipIdx_cons,aM]
theorem Xz:(fkL rs).length<=12 * rs.length:=by
 have h:∀ {l:Li (Rw×Nat)},(l.flatMap λp=>fkR rs.length p.2 p.1).length<=12 * l.length:=λ{l}=>by
  induction l with
  |nil=>exact aD _
  |cons p l a=>
   rw[cF,aK,aQ];have:=Zeo (sz:=rs.length) (k:=p.2) (r:=p.1);omega
 have:=h (l:=rs.zipIdx);rw[List.length_zipIdx]at this;exact this
theorem U8(h:Rs m rs):C (rT (n+4)) s 172 [pgD tk m rs] (.tup ((fkL rs).map tD)):=λst g=>by
 have fl:=Xz (rs:=rs);have R:=h.l;have r:ex (rT (n+3)) (.set 2 (.lstE (.aC (.new 169) (.aC (.new 149) (.aC (.new 157) (.aC (.new 152) (.aC (.new 160) (.u (.new 163))))))))) [some (pgD tk m rs),some (.tup (rs.map rwE)),none,none,none,none,none] st=some (.nx [some (pgD tk m rs),some (.tup (rs.map rwE)),jL st.length,none,none,none,none],st++[(true,(stp rs.length).map λp=>.obj p.c)]):=Zk rfl
 have b:(st++[(true,(stp rs.length).map λp=>D.obj p.c)])[st.length]?=some (true,(stp rs.length).map λp=>.obj p.c):=Zu
 obtain⟨a,d⟩:∃ a,st++[(true,(stp rs.length).map λp=>D.obj p.c)]=a:=⟨_,rfl⟩
 rw[d]at r b;have g2:Grw st a:=by rw[<-d];exact .push
 have H:ex (rT (n+3)) (.set 3 (.lstE .aN)) [some (pgD tk m rs),some (.tup (rs.map rwE)),jL st.length,none,none,none,none] a=some (.nx [some (pgD tk m rs),some (.tup (rs.map rwE)),jL st.length,jL a.length,none,none,none],a++[(true,[])]):=Zk rfl;have M:=Zh b;obtain⟨B,A,e,o,Q,J,x⟩:=Zha (F:=rT (n+3)) (s:=a) (j:=a.length) (q:=XM) (i:=4) (i':=5) (E:=λy z w=>[some (pgD tk m rs),some (.tup (rs.map rwE)),jL st.length,jL a.length,y,z,w]) (u:=λp:Rw×Nat=>D.int (p.2:Int)) (v:=λp=>rwE p.1) (g:=λp=>(fkR rs.length p.2 p.1).map tD) (l:=rs.zipIdx) (λ_ _ _ _ _=>rfl) (aD _) (λp L w st1 acc g1 N k=>by
  have ok:YS m rs.length p.1:=h.ok _ (eS L);obtain⟨e,G,P,I,t⟩:=Zf2 (F:=rT (n+3)) (s:=a) (j:=a.length) (q:=XL) (i:=6) (la:=st.length) (bb:=true) (E:=λw=>[some (pgD tk m rs),some (.tup (rs.map rwE)),jL st.length,jL a.length,jN p.2,some (rwE p.1),w]) (en:=λp:Stp=>D.obj p.c) (g:=λq=>((q.f p.1).map λz=>(p.2,q.w,z)).map tD) (all:=stp rs.length) (λ_ _=>rfl) (aD _) (by omega) (λq K=>Zgj h K ok) 6 0 (y:=w) rfl g1 (g1.get b) N (by rw[cV];rw[show(stp rs.length).flatMap (λq=>((q.f p.1).map λz=>(p.2,q.w,z)).map tD)=(fkR rs.length p.2 p.1).map tD from(dH ..).symm];exact k)
  rw[cV,show(stp rs.length).flatMap (λq=>((q.f p.1).map λz=>(p.2,q.w,z)).map tD)=(fkR rs.length p.2 p.1).map tD from(dH ..).symm]at t
  exact⟨_,G,⟨_,_,e,rfl⟩,(Zc ((Va (bb:=true) (xs:=(stp rs.length).map λp=>.obj p.c) rfl (g1.get b)).trans P)).trans Ze,I,t⟩) (y:=none) (z:=none) (w:=none) (.push:Grw a (a++[(true,[])])) Zu (by rw[cU,bG,<-dH,aE];show(fkL rs).length<=900;omega)
 rw[dL,<-dH]at x;have O:ex (rT (n+3)) (.forE 4 5 (.v 1) XM) [some (pgD tk m rs),some (.tup (rs.map rwE)),jL st.length,jL a.length,none,none,none] (a++[(true,[])])=some (.nx [some (pgD tk m rs),some (.tup (rs.map rwE)),jL st.length,jL a.length,B,A,e],o):=by
  rw[<-Q,<-JO];rfl
 refine⟨o,Yd (v:=c_fakes) rfl rfl ((Zc (Zk rfl)).trans ((Zc r).trans ((Zc H).trans ((Zc O).trans (Zp (ZK (Yg (c:=(true,(fkL rs).map tD)) rfl x))))))),?_⟩;exact g2.trans (J.grw (aD _) .push)
section
variable{q:Rw}{v:Int}
theorem Zev(h:Sm v):arI (v+1)≠v:=by
 unfold Sm at h;unfold arI;have:=Zt (v+1+1000000000) (j:=2000000000) (by decide)
 intro e;have a:=Int.mul_ediv_add_emod (v+1+1000000000) 2000000000;generalize (v+1+1000000000) / 2000000000=u at *
 omega
theorem YL(h:X6 m o):∀ q∈Yz o,X6 m q/\q≠o:=λq a=>by
 cases o with
 |nm i=>cases a
 |nu v=>
  rw[aJ.mp a];exact⟨VA,λe=>Zev h (by injection e)⟩
theorem Zbd:(∀ g∈psL,nxt psL g∈psL/\nxt psL g≠g)/\∀ g∈isL,(nxt isL g∈isL/\nxt isL g≠g)/\(cnt g∈isL/\cnt g≠g)/\nxt isL g≠cnt g:=by decide +kernel
theorem ZfC(h:YS m sz r){p:Stp}(b:p∈stp sz):∀ q∈p.f r,YS m sz q:=λq hq=>by
 simp only[stp,aH,bE,or_false]at b;rcases b with rfl|rfl|rfl|rfl|rfl|rfl
 .cases r with
  |put x y g z=>rw[aJ.mp hq];exact⟨h.1,h.2.1,(Zbd.1 g h.2.2.1).1,h.2.2.2⟩
  |ifr y g z t=>rw[aJ.mp hq];exact⟨h.1,(Zbd.2 g h.2.1).1.1,h.2.2⟩
  |_=>cases hq
 .cases r with
  |put x y g z=>
   rcases aU.mp hq with hq|hq
   .obtain⟨u,a,rfl⟩:=aR.mp hq;exact⟨h.1,(YL h.2.1 u a).1,h.2.2⟩
   .obtain⟨u,a,rfl⟩:=aR.mp hq;exact⟨h.1,h.2.1,h.2.2.1,(YL h.2.2.2 u a).1⟩
  |ifr y g z t=>
   rcases aU.mp hq with hq|hq
   .obtain⟨u,a,rfl⟩:=aR.mp hq;exact⟨(YL h.1 u a).1,h.2⟩
   .obtain⟨u,a,rfl⟩:=aR.mp hq;exact⟨h.1,h.2.1,(YL h.2.2.1 u a).1,h.2.2.2⟩
  |tell y=>obtain⟨u,a,rfl⟩:=aR.mp hq;exact(YL h u a).1
  |_=>cases hq
 .cases r with
  |ifr y g z t=>rw[aJ.mp hq];exact⟨h.1,(Zbd.2 g h.2.1).2.1.1,h.2.2⟩
  |_=>cases hq
 .cases r with
  |skip=>cases hq
  |_=>rw[aJ.mp hq];trivial
 .cases r with
  |put x y g z=>
   have hq:q∈if y=z then [] else [Rw.put x z g y]:=hq
   split at hq
   .cases hq
   .rw[aJ.mp hq];exact⟨h.1,h.2.2.2,h.2.2.1,h.2.1⟩
  |ifr y g z t=>
   have hq:q∈if y=z then [] else [Rw.ifr z g y t]:=hq
   split at hq
   .cases hq
   .rw[aJ.mp hq];exact⟨h.2.2.1,h.2.1,h.1,h.2.2.2⟩
  |_=>cases hq
 .cases r with
  |go t=>
   have hq:q∈if sz<=t then [] else [Rw.go (t+1)]:=hq
   split at hq
   .cases hq
   .rw[aJ.mp hq];show t+1<=sz;omega
  |ifr y g z t=>
   have hq:q∈if sz<=t then [] else [Rw.ifr y g z (t+1)]:=hq
   split at hq
   .cases hq
   .rw[aJ.mp hq];exact⟨h.1,h.2.1,h.2.2.1,by omega⟩
  |_=>cases hq
def alR(sz:Nat)(r:Rw):Li Rw:=(stp sz).flatMap λp=>p.f r
theorem ZbQ:(fkR sz k r).map (λp=>(p.1,p.2.2))=(alR sz r).map λq=>(k,q):=by
 unfold fkR alR;rw[dH,dH]
 congr 1
 funext p
 rw[bQ];rfl
theorem UL{p:Nat×Str×Rw}(d:Rs m rs)(h:p∈fkL rs):p.1 < rs.length/\YS m rs.length p.2.2:=by
 obtain⟨u,b,f⟩:=eK.mp h;obtain⟨t,c,e⟩:=eK.mp f;obtain⟨q,a,rfl⟩:=aR.mp e;exact⟨by have:=List.snd_lt_of_mem_zipIdx b;simpa using this,ZfC (d.ok _ (eS b)) c q a⟩
theorem Rs.set(a:Rs m rs)(h:YS m rs.length q):Rs m (rs.set k q):=by
 refine⟨by rw[bF];exact a.l,λr h'=>?_⟩
 rw[bF];rcases List.mem_or_eq_of_mem_set h' with h'|h'
 .exact a.ok r h'
 .rw[h'];exact h
theorem Jr(h:YS m sz r):(alR sz r).Nodup:=by
 have cat:∀ {a b:Li Rw},a.Nodup->b.Nodup->(∀ x∈a,∀ y∈b,x≠y)->(a++b).Nodup:=λL K J=>dC.mpr ⟨L,K,J⟩
 have B:∀ {o:Op}{f:Op->Rw},((Yz o).map f).Nodup:=λ{o f}=>by
  cases o with
  |nm i=>exact bH
  |nu v=>exact bM.mpr ⟨(λh=>nomatch h),bH⟩
 have n:∀ {q:Rw},([q]:Li Rw).Nodup:=λ{q}=>bM.mpr ⟨(λh=>nomatch h),bH⟩
 cases r with
 |put x y g z=>
  obtain⟨N,F,G,E⟩:=h;have g1:=(Zbd.1 g G).2;have D:=YL F;have H:=YL E;have e:alR sz (.put x y g z)=[.put x y (nxt psL g) z]++(((Yz y).map (λq=>.put x q g z)++(Yz z).map (λq=>.put x y g q))++([.skip]++if y=z then [] else [.put x z g y])):=by
   show _++(_++([]++([Rw.skip]++((if y=z then [] else [Rw.put x z g y])++([]++[])))))=_
   rw[dL,bC,bC];rfl
  rw[e];have A:∀ q∈(if y=z then [] else [Rw.put x z g y]:Li Rw),y≠z/\q=.put x z g y:=λq s=>by
   split at s
   .cases s
   .exact⟨‹_›,aJ.mp s⟩
  refine cat n (cat (cat B B λa ha b hb=>?_) (cat n (by split<;>first|exact bH|exact n) λa ha b hb=>?_) λa ha b hb=>?_) λa ha b hb=>?_
  .obtain⟨u,k,rfl⟩:=aR.mp ha
   obtain⟨w,I,rfl⟩:=aR.mp hb;intro e
   injection e with _ d _ C
   exact(D u k).2 d
  .rw[aJ.mp ha,(A b hb).2];exact λe=>nomatch e
  .have p:∀ c,c∈([.skip]++if y=z then [] else [.put x z g y]:Li Rw)->c=.skip\/(y≠z/\c=.put x z g y):=λc hc=>by
    rcases aU.mp hc with hc|hc
    .exact .inl (aJ.mp hc)
    .exact .inr (A c hc)
   rcases aU.mp ha with ha|ha
   .obtain⟨u,k,rfl⟩:=aR.mp ha
    rcases p b hb with rfl|⟨j,rfl⟩
    .exact λe=>nomatch e
    .intro e
     injection e with _ d _ C
     exact j C.symm
   .obtain⟨u,k,rfl⟩:=aR.mp ha
    rcases p b hb with rfl|⟨j,rfl⟩
    .exact λe=>nomatch e
    .intro e
     injection e with _ d _ C
     exact j d
  .rw[aJ.mp ha]
   rcases aU.mp hb with hb|hb
   .rcases aU.mp hb with hb|hb
    .obtain⟨u,k,rfl⟩:=aR.mp hb
     intro e;injection e with _ _ d _;exact g1 d
    .obtain⟨u,k,rfl⟩:=aR.mp hb
     intro e;injection e with _ _ d _;exact g1 d
   .rcases aU.mp hb with hb|hb
    .rw[aJ.mp hb];exact λe=>nomatch e
    .rw[(A b hb).2]
     intro e;injection e with _ _ d _;exact g1 d
 |ifr y g z t=>
  obtain⟨F,G,E,O⟩:=h;obtain⟨⟨_,g1⟩,⟨_,g2⟩,M⟩:=Zbd.2 g G;have D:=YL F;have H:=YL E;have e:alR sz (.ifr y g z t)=[.ifr y (nxt isL g) z t]++(((Yz y).map (λq=>.ifr q g z t)++(Yz z).map (λq=>.ifr y g q t))++([.ifr y (cnt g) z t]++([.skip]++((if y=z then [] else [.ifr z g y t])++if sz<=t then [] else [.ifr y g z (t+1)])))):=by
   show _++(_++(_++([Rw.skip]++((if y=z then [] else [Rw.ifr z g y t])++((if sz<=t then [] else [Rw.ifr y g z (t+1)])++[])))))=_
   rw[bC];rfl
  rw[e];have A:∀ q∈(if y=z then [] else [Rw.ifr z g y t]:Li Rw),y≠z/\q=.ifr z g y t:=λq s=>by
   split at s
   .cases s
   .exact⟨‹_›,aJ.mp s⟩
  have fr:∀ q∈(if sz<=t then [] else [Rw.ifr y g z (t+1)]:Li Rw),q=.ifr y g z (t+1):=λq s=>by
   split at s
   .cases s
   .exact aJ.mp s
  have l:∀ c,c∈([.skip]++((if y=z then [] else [.ifr z g y t])++if sz<=t then [] else [.ifr y g z (t+1)]):Li Rw)->c=.skip\/(y≠z/\c=.ifr z g y t)\/c=.ifr y g z (t+1):=λc hc=>by
   rcases aU.mp hc with hc|hc
   .exact .inl (aJ.mp hc)
   .rcases aU.mp hc with hc|hc
    .exact .inr (.inl (A c hc))
    .exact .inr (.inr (fr c hc))
  refine cat n (cat (cat B B λa ha b hb=>?_) (cat n (cat n (cat (by split<;>first|exact bH|exact n) (by split<;>first|exact bH|exact n) λa ha b hb=>?_) λa ha b hb=>?_) λa ha b hb=>?_) λa ha b hb=>?_) λa ha b hb=>?_
  .obtain⟨u,k,rfl⟩:=aR.mp ha
   obtain⟨w,I,rfl⟩:=aR.mp hb;intro e
   injection e with d _ C _
   exact(D u k).2 d
  .rw[(A a ha).2,fr b hb]
   intro e;injection e with _ _ _ d;omega
  .rw[aJ.mp ha]
   rcases aU.mp hb with hb|hb
   .rw[(A b hb).2];exact λe=>nomatch e
   .rw[fr b hb];exact λe=>nomatch e
  .rw[aJ.mp ha]
   rcases l b hb with rfl|⟨_,rfl⟩|rfl
   .exact λe=>nomatch e
   .intro e;injection e with _ d _ _;exact g2 d
   .intro e;injection e with _ d _ _;exact g2 d
  .have p:b=.ifr y (cnt g) z t\/b=.skip\/(y≠z/\b=.ifr z g y t)\/b=.ifr y g z (t+1):=by
    rcases aU.mp hb with hb|hb
    .exact .inl (aJ.mp hb)
    .exact .inr (l b hb)
   rcases aU.mp ha with ha|ha
   .obtain⟨u,k,rfl⟩:=aR.mp ha
    rcases p with rfl|rfl|⟨j,rfl⟩|rfl
    .intro e;injection e with _ d _ _;exact g2 d.symm
    .exact λe=>nomatch e
    .intro e;injection e with _ _ d _;exact j d.symm
    .intro e;injection e with _ _ _ d;omega
   .obtain⟨u,k,rfl⟩:=aR.mp ha
    rcases p with rfl|rfl|⟨j,rfl⟩|rfl
    .intro e;injection e with _ d _ _;exact g2 d.symm
    .exact λe=>nomatch e
    .intro e;injection e with d _ _ _;exact j d
    .intro e;injection e with _ _ _ d;omega
  .rw[aJ.mp ha]
   rcases aU.mp hb with hb|hb
   .rcases aU.mp hb with hb|hb
    .obtain⟨u,k,rfl⟩:=aR.mp hb
     intro e;injection e with _ d _ _;exact g1 d
    .obtain⟨u,k,rfl⟩:=aR.mp hb
     intro e;injection e with _ d _ _;exact g1 d
   .rcases aU.mp hb with hb|hb
    .rw[aJ.mp hb]
     intro e;injection e with _ d _ _;exact M d
    .rcases l b hb with rfl|⟨_,rfl⟩|rfl
     .exact λe=>nomatch e
     .intro e;injection e with _ d _ _;exact g1 d
     .intro e;injection e with _ d _ _;exact g1 d
 |go t=>
  have e:alR sz (.go t)=[.skip]++if sz<=t then [] else [.go (t+1)]:=by
   show[]++([]++([]++([Rw.skip]++([]++((if sz<=t then [] else [Rw.go (t+1)])++[])))))=_
   rw[bC];rfl
  rw[e];refine cat n (by split<;>first|exact bH|exact n) λa ha b hb=>?_
  rw[aJ.mp ha];split at hb
  .cases hb
  .rw[aJ.mp hb];exact λe=>nomatch e
 |tell y=>
  have e:alR sz (.tell y)=(Yz y).map .tell++[.skip]:=by
   show[]++((Yz y).map Rw.tell++([]++([Rw.skip]++([]++([]++[])))))=_;rfl
  rw[e];refine cat B n λa ha b hb=>?_
  obtain⟨u,k,rfl⟩:=aR.mp ha;rw[aJ.mp hb];exact λe=>nomatch e
 |skip=>exact bH
def cdL(rs:Li Rw):Li (Nat×Rw):=(fkL rs).map λp=>(p.1,p.2.2)
theorem JG(k:Rs m rs):(cdL rs).Nodup:=by
 have go:∀ {l:Li (Rw×Nat)},(∀ p∈l,YS m rs.length p.1)->(l.map (·.2)).Nodup->((l.flatMap λp=>fkR rs.length p.2 p.1).map λp=>(p.1,p.2.2)).Nodup:=λ{l}=>by
  induction l with
  |nil=>intro _ _;exact bH
  |cons p l i=>
   intro h d;rw[aM,bM]at d;rw[cF,bN,ZbQ];refine dC.mpr ⟨?_,i (λq g=>h q (lM7 _ g)) d.2,λa r b o=>?_⟩
   .exact List.Pairwise.map _ (λa b e z=>e (by injection z)) (Jr (h p lQ7))
   .obtain⟨u,v,rfl⟩:=aR.mp r
    obtain⟨w,c,rfl⟩:=aR.mp o;obtain⟨t,j,c⟩:=eK.mp c;obtain⟨f,x,c⟩:=eK.mp c;obtain⟨q,g,rfl⟩:=aR.mp c;intro e
    injection e with s y
    exact d.1 (aR.mpr ⟨t,j,s.symm⟩)
 refine go (λp n=>k.ok _ (eS n)) ?_
 rw[List.zipIdx_map_snd];exact List.nodup_range'
end
variable{bb:Bool}
section
variable{i j:Int}
theorem Qo{k:Str}:∀ {M:Li Str},Yy k (M.map D.str)=some (decide (k∈M))
 |[]=>rfl
 |x :: M=>by
  show(Yy k (M.map D.str)).map (λb=>decide (x=k)||b)=_
  rw[Qo];show some (decide (x=k)||decide (k∈M))=_;rw[show decide (k∈x :: M)=(decide (x=k)||decide (k∈M)) by rw[<-Bool.decide_or];exact decide_eq_decide.mpr ⟨λh=>(aH.mp h).imp Eq.symm id,λh=>aH.mpr (h.imp Eq.symm id)⟩]
theorem Y.inL{l:Li Str}(j:Y F s a U (.str g))(i:Lv s (ev F b U) (l.map D.str)):Y F s (.cmp .In a b) U (.bl (decide (g∈l))):=λst e=>by
 obtain⟨f,n,d⟩:=j st e;obtain⟨c,q,bb,m,k,h⟩:=i f (e.trans d);refine⟨c,?_,d.trans h⟩;show Zz (ev F a) (ev F b) (Yx .In) U st=_;unfold Zz;simp only[n,m];show Yx .In (.str g) (.lst q) c=_;unfold Yx;have:VJ .In (.str g) (.lst q) c=some (decide (g∈l)):=by
  show(match c[q]? with
   |some (_,xs)=>Yy g xs
   |none=>none)=_
  rw[k];exact Qo
 rw[this]
theorem Xs:C (rT (n+1)) s 89 [.int i] (.int (arI i)):=.of (v:=c__law_round) rfl rfl (.ret (.arx (.r rf)))
theorem Y.eq0(b:Y F s a U (.int j)):Y F s (.cmp .Eq a (.i 0)) U (.bl (decide (j=0))):=.cmp b (.r rf) λ_=>rfl
theorem ZdX(hi:Sm i)(b:Sm j):C (rT (n+2)) s 187 [.int i,.str g,.int j] (.int (rkI i g j)):=by
 unfold rkI;refine .of (v:=c__law_sum) rfl rfl (.pick (.eqs (.r rf) (.r rf)) (λh=>?_) λh=>.pick (.eqs (.r rf) (.r rf)) (λa=>?_) λa=>.pick (.eqs (.r rf) (.r rf)) (λd=>?_) λd=>.pick (.eqs (.r rf) (.r rf)) (λe=>?_) λe=>?_)
 .rw[if_pos (of_decide_eq_true h)];exact .ret (.call1 (.add (.r rf) (.r rf)) Xs)
 .rw[if_neg (of_decide_eq_false h),if_pos (of_decide_eq_true a)];exact .ret (.call1 (.sub (.r rf) (.r rf)) Xs)
 .rw[if_neg (of_decide_eq_false h),if_neg (of_decide_eq_false a),if_pos (of_decide_eq_true d)];exact .ret (.call1 (.mul (.r rf) (.r rf) (Vj b)) Xs)
 .rw[if_neg (of_decide_eq_false h),if_neg (of_decide_eq_false a),if_neg (of_decide_eq_false d),if_pos (of_decide_eq_true e)]
  refine .ret (.ife (.eq0 (.r rf)) ?_);by_cases c:j=0
  .rw[aG c,if_pos c];exact .r rf
  .rw[aF c,if_neg c];exact .call1 (.fdv (.r rf) (.r rf) c b) Xs
 .rw[if_neg (of_decide_eq_false h),if_neg (of_decide_eq_false a),if_neg (of_decide_eq_false d),if_neg (of_decide_eq_false e)]
  refine .ret (.ife (.eq0 (.r rf)) ?_);by_cases c:j=0
  .rw[aG c,if_pos c];exact .r rf
  .rw[aF c,if_neg c]
   refine .sub (.r rf) (.bi (i:=j) (j:=fdI i j) (.r rf) (.fdv (.r rf) (.r rf) c b) ?_);show(if ZU j||ZU (fdI i j) then some (j * fdI i j) else none)=_
   rw[Vj b];rfl
theorem ZfU(o:g∈isL):C (rT (n+1)) s 33 [.int i,.str g,.int j] (.bl (soI i g j)):=by
 have l:∀ {F:Nat->Fn}{U:Env}{a b c:Str},Lv s (ev F (.lstE (.aC (.c (.str a)) (.aC (.c (.str b)) (.u (.c (.str c)))))) U) ([a,b,c].map D.str):=.mk (.r rf);have e:∀ {k:Bool},k=soI i g j->C (rT (n+1)) s 33 [.int i,.str g,.int j] (.bl k)->C (rT (n+1)) s 33 [.int i,.str g,.int j] (.bl (soI i g j)):=λq p=>q ▸ p
 have d:g=S "<"\/g=S "<="\/g=S "="\/g=S ">="\/g=S ">"\/g=S "!=":=by simpa[isL] using o
 by_cases h:i < j
 .refine e ?_ (.of (v:=c__law_so) rfl rfl (.yes (.cmp (.r rf) (.r rf) λ_=>congrArg some (aG h)) (.inL (.r rf) l)))
  rcases d with rfl|rfl|rfl|rfl|rfl|rfl
  .exact(by decide +kernel:decide (S "<"∈[S "<",S "<=",S "!="])=true).trans (aG h).symm
  .exact(by decide +kernel:decide (S "<="∈[S "<",S "<=",S "!="])=true).trans (aG (by omega:i<=j)).symm
  .exact(by decide +kernel:decide (S "="∈[S "<",S "<=",S "!="])=false).trans (aF (by omega:¬i=j)).symm
  .exact(by decide +kernel:decide (S ">="∈[S "<",S "<=",S "!="])=false).trans (aF (by omega:¬j<=i)).symm
  .exact(by decide +kernel:decide (S ">"∈[S "<",S "<=",S "!="])=false).trans (aF (by omega:¬j < i)).symm
  .show _=!decide (i=j)
   rw[aF (by omega:¬i=j)];decide +kernel
 .have m:Y (rT n) s (.cmp .Lt (.v 0) (.v 2)) [jI i,some (.str g),jI j] (.bl false):=.cmp (.r rf) (.r rf) λ_=>congrArg some (aF h)
  by_cases f:j < i
  .refine e ?_ (.of (v:=c__law_so) rfl rfl (.no m (.yes (.cmp (.r rf) (.r rf) λ_=>congrArg some (aG f)) (.inL (.r rf) l))))
   rcases d with rfl|rfl|rfl|rfl|rfl|rfl
   .exact(by decide +kernel:decide (S "<"∈[S ">",S ">=",S "!="])=false).trans (aF h).symm
   .exact(by decide +kernel:decide (S "<="∈[S ">",S ">=",S "!="])=false).trans (aF (by omega:¬i<=j)).symm
   .exact(by decide +kernel:decide (S "="∈[S ">",S ">=",S "!="])=false).trans (aF (by omega:¬i=j)).symm
   .exact(by decide +kernel:decide (S ">="∈[S ">",S ">=",S "!="])=true).trans (aG (by omega:j<=i)).symm
   .exact(by decide +kernel:decide (S ">"∈[S ">",S ">=",S "!="])=true).trans (aG f).symm
   .show _=!decide (i=j)
    rw[aF (by omega:¬i=j)];decide +kernel
  .refine e ?_ (.of (v:=c__law_so) rfl rfl (.no m (.no (.cmp (.r rf) (.r rf) λ_=>congrArg some (aF f)) (.ret (.inL (.r rf) l)))))
   rcases d with rfl|rfl|rfl|rfl|rfl|rfl
   .exact(by decide +kernel:decide (S "<"∈[S "<=",S "=",S ">="])=false).trans (aF h).symm
   .exact(by decide +kernel:decide (S "<="∈[S "<=",S "=",S ">="])=true).trans (aG (by omega:i<=j)).symm
   .exact(by decide +kernel:decide (S "="∈[S "<=",S "=",S ">="])=true).trans (aG (by omega:i=j)).symm
   .exact(by decide +kernel:decide (S ">="∈[S "<=",S "=",S ">="])=true).trans (aG (by omega:j<=i)).symm
   .exact(by decide +kernel:decide (S ">"∈[S "<=",S "=",S ">="])=false).trans (aF f).symm
   .show _=!decide (i=j)
    rw[aG (by omega:i=j)];decide +kernel
theorem Jl(b:Vs m vs)(h:X6 m o)(a:s[w]?=some (bb,inZ vs)):C (rT (n+1)) s 34 [opE o,.lst w] (.int (woI vs o)):=by
 cases o with
 |nm i=>exact .of (v:=c__law_worth) rfl rfl (.yes (.r rf) (.ixl (j:=i) a (.r rf) (.r rf) (ZdR b h)))
 |nu v=>exact .of (v:=c__law_worth) rfl rfl (.no (.r rf) (.ret (.r rf)))
end
abbrev loE(m:Nat)(rs:Li Rw)(ins L:D)(w:Nat)(k:Int)(y z u:Ot D):Env:=[some (.tup (rs.map rwE)),jN m,some ins,some L,jL w,jI k,y,z,u]
theorem ZgF(h:YS m rs.length r)(a:k < rs.length):pkN k vs r<=rs.length:=by
 cases r with
 |put x y g z=>exact a
 |ifr y g z t=>show(if _ then t else k+1)<=_;split;exact h.2.2.2;exact a
 |go t=>exact h
 |tell y=>exact a
 |skip=>exact a
theorem Zg0{v:D}{p:Nat}(d:ev F e U st=some (v,st1))(hi:U[i0]?=some (jL w))(c:ev F a U st1=some (.int (p:Int),st1))(h:st1[w]?=some (true,xs))(f:p < xs.length):ex F (.put i0 a e) U st=some (.nx U,st1.set w (true,xs.set p v)):=by
 show UX i0 (ev F a) (ev F e) U st=_;unfold UX;simp only[d,hi,c];show(match We w (p:Int) v st1 with
  |some b=>some (Fl.nx U,b)
  |none=>none)=_
 unfold We ixN;simp only[h];rw[if_pos (by omega),if_pos (by omega),bD]
theorem Zck{ins L:D}{y z u:Ot D}(hr:Rs m rs)(P:Vs m vs)(hk:k<=rs.length)(h:st[w]?=some (true,inZ vs)):match mv rs k vs with
  |.inl d=>∃ st',Kj w st st'/\ex (rT (n+3)) Zj (loE m rs ins L w k y z u) st=some (.rt d,st')
  |.inr p=>∃ st' S T,Kj w st st'/\st'[w]?=some (true,inZ p.2)/\ex (rT (n+3)) Zj (loE m rs ins L w k y z u) st=some (.nx (loE m rs ins L w p.1 y S T),st'):=by
 have ln:∀ {s:Za}{k:Int}{y z u:Ot D},Y (rT (n+3)) s (.len (.v 0)) (loE m rs ins L w k y z u) (.int (rs.length:Int)):=λ{s k y z u}=>by
  have:=Y.lnT (F:=rT (n+3)) (s:=s) (a:=.v 0) (U:=loE m rs ins L w k y z u) (xs:=rs.map rwE) (.r rf);rw[aE]at this;exact this
 have c1:∀ {s:Za},Y (rT (n+3)) s (.cmp .Eq (.v 5) (.len (.v 0))) (loE m rs ins L w k y z u) (.bl (decide (k=rs.length))):=.cmp (.r rf) ln λ_=>by show some (decide ((k:Int)=(rs.length:Int)))=_;exact congrArg some (decide_eq_decide.mpr (by omega))
 obtain⟨V,R,W⟩:=c1 (s:=st) st .refl;unfold mv;cases q:rs[k]? with
 |none=>
  have:k=rs.length:=by have:=dQ.mp q;omega
  rw[aG this]at R;exact⟨V,W.kj,Zp ((Z9 R).trans (Zp (ZK rfl)))⟩
 |some r=>
  have hlt:=Zh q;rw[aF (by omega)]at R
  have ok:=hr.ok r (aZ q);have h1:=W.get h;have y7:Y (rT (n+3)) V (.ix (.v 0) (.v 5)) (loE m rs ins L w k y z u) (rwE r):=.ixt (j:=k) (xs:=rs.map rwE) (.r rf) (.r rf) (by rw[aT,q];rfl)
  obtain⟨Z,e2,k2⟩:=y7 V .refl;have y5:Y (rT (n+3)) Z (.bin .Add (.v 5) (.i 1)) (loE m rs ins L w k y (some (rwE r)) u) (.int ((k+1:Nat):Int)):=by rw[cD];exact .add (.r rf) (.r rf)
  obtain⟨g,e3,k3⟩:=y5 Z .refl;have B:=(k2.trans k3).get h1;have G:Kj w st g:=(W.trans (k2.trans k3)).kj;have pre:∀ {C},ex (rT (n+3)) _ (loE m rs ins L w ((k+1:Nat):Int) y (some (rwE r)) u) g=C->ex (rT (n+3)) Zj (loE m rs ins L w k y z u) st=C:=λ{C} hh=>(Zc ((ZR R).trans Ze)).trans ((Zc (Zk e2)).trans ((Zc (Zk e3)).trans hh))
  have K:∀ {s:Za}{o:Op}{a:CE}{k':Int}{u:Ot D},X6 m o->s[w]?=some (true,inZ vs)->Y (rT (n+3)) s a (loE m rs ins L w k' y (some (rwE r)) u) (opE o)->Y (rT (n+3)) s (.call 34 (.aC a (.u (.v 4))) []) (loE m rs ins L w k' y (some (rwE r)) u) (.int (woI vs o)):=λ{s o a k' u} ho hw ha=>.call (xs:=[opE o,.lst w]) (.cons ha (.cons (.r rf) .nil)) (Jl (n:=n+2) P ho hw)
  cases r with
  |tell b=>
   obtain⟨E,I,A⟩:=Y.cons (F:=rT (n+3)) (s:=g) (a:=.t "told") (U:=loE m rs ins L w ((k+1:Nat):Int) y (some (rwE (.tell b))) u) (.r rf) (.cons (K (a:=.ix (.v 7) (.i 1)) ok B (.r rf)) .nil) (by show 1 < 1000;decide) g .refl
   exact⟨E,G.trans A.kj,pre (Zp ((Z9 rfl).trans (Zp (ZK I))))⟩
  |put J b e c=>
   obtain⟨hx,O,hg,N⟩:=ok;obtain⟨E,I,A⟩:=Y.call (F:=rT (n+3)) (s:=g) (f:=187) (ds:=[]) (xs:=[.int (woI vs b),.str e,.int (woI vs c)]) (U:=loE m rs ins L w ((k+1:Nat):Int) y (some (rwE (.put J b e c))) u) (.cons (a:=.call 34 (.aC (.ix (.v 7) (.i 2)) (.u (.v 4))) []) (K O B (.r rf)) (.cons (a:=.ix (.v 7) (.i 3)) (.r rf) (.cons (K (a:=.ix (.v 7) (.i 4)) N B (.r rf)) .nil))) (ZdX (n:=n+1) (W0 P O) (W0 P N)) g .refl
   have H:=A.get B;have hl:=P.l;have pu:=Zg0 (F:=rT (n+3)) (i0:=4) (a:=.ix (.v 7) (.i 1)) (p:=J) (U:=loE m rs ins L w ((k+1:Nat):Int) y (some (rwE (.put J b e c))) u) I rfl rfl H (by unfold inZ;rw[aE];omega)
   rw[Ul]at pu;refine⟨E.set w (true,inZ (vs.set J (rkI (woI vs b) e (woI vs c)))),some (rwE (.put J b e c)),u,⟨λi hi hn=>?_,by rw[bF];exact(G.trans A.kj).len⟩,(Zv (Zh H)).trans (if_pos rfl),pre ((Zc ((ZR rfl).trans Ze)).trans ((Zc ((Z9 rfl).trans ((Zc pu).trans Ze))).trans ((Zc ((ZR rfl).trans Ze)).trans ((Zc ((ZR rfl).trans Ze)).trans Ze))))⟩
   rw[Zv (Zh H),if_neg (Ne.symm hn)];exact(G.trans A.kj).old i hi hn
  |go t=>exact⟨g,some (rwE (.go t)),u,G,B,pre ((Zc ((ZR rfl).trans Ze)).trans ((Zc ((ZR rfl).trans Ze)).trans ((Zc ((Z9 rfl).trans ((Zc (Zk rfl)).trans Ze))).trans ((Zc ((ZR rfl).trans Ze)).trans Ze))))⟩
  |skip=>exact⟨g,some (rwE .skip),u,G,B,pre ((Zc ((ZR rfl).trans Ze)).trans ((Zc ((ZR rfl).trans Ze)).trans ((Zc ((ZR rfl).trans Ze)).trans ((Zc ((ZR rfl).trans Ze)).trans Ze))))⟩
  |ifr b e c t=>
   obtain⟨O,hg,N,ht⟩:=ok;obtain⟨E,I,A⟩:=K (s:=g) (a:=.ix (.v 7) (.i 1)) (k':=((k+1:Nat):Int)) (u:=u) O B (.r rf) g .refl;have H:=A.get B;obtain⟨X,Q,k5⟩:=Y.call (F:=rT (n+3)) (s:=E) (f:=33) (ds:=[]) (xs:=[.int (woI vs b),.str e,.int (woI vs c)]) (U:=loE m rs ins L w ((k+1:Nat):Int) y (some (rwE (.ifr b e c t))) (jI (woI vs b))) (.cons (a:=.v 8) (.r rf) (.cons (a:=.ix (.v 7) (.i 2)) (.r rf) (.cons (K (a:=.ix (.v 7) (.i 3)) N H (.r rf)) .nil))) (ZfU (n:=n+2) hg) E .refl
   have x:∀ {k':Nat},ex (rT (n+3)) (.seq (.set 8 (.call 34 (.aC (.ix (.v 7) (.i 1)) (.u (.v 4))) [])) (.z (.ite (.call 33 (.aC (.v 8) (.aC (.ix (.v 7) (.i 2)) (.u (.call 34 (.aC (.ix (.v 7) (.i 3)) (.u (.v 4))) [])))) []) (.z (.set 5 (.ix (.v 7) (.i 4)))) .skip))) (loE m rs ins L w ((k+1:Nat):Int) y (some (rwE (.ifr b e c t))) u) g=some (.nx (loE m rs ins L w (k':Int) y (some (rwE (.ifr b e c t))) (jI (woI vs b))),X)->k'=pkN k vs (.ifr b e c t)->∃ st' S T,Kj w st st'/\st'[w]?=some (true,inZ (vsN vs (.ifr b e c t)))/\ex (rT (n+3)) Zj (loE m rs ins L w k y z u) st=some (.nx (loE m rs ins L w (pkN k vs (.ifr b e c t):Int) y S T),st'):=λ{k'} e6 ek=>by
    subst ek;exact⟨X,some (rwE (.ifr b e c t)),jI (woI vs b),G.trans (A.trans k5).kj,k5.get H,pre ((Zc ((ZR rfl).trans Ze)).trans ((Zc ((ZR rfl).trans Ze)).trans ((Zc ((ZR rfl).trans Ze)).trans ((Zc ((Z9 rfl).trans e6)).trans Ze))))⟩
   cases M:soI (woI vs b) e (woI vs c) with
   |true=>
    rw[M]at Q;exact x (k':=t) ((Zc (Zk I)).trans ((Zc ((Z9 Q).trans ((Zc (Zk rfl)).trans Ze))).trans Ze)) (by show t=if soI (woI vs b) e (woI vs c)=true then t else k+1;rw[M,if_pos rfl])
   |false=>
    rw[M]at Q;exact x (k':=k+1) ((Zc (Zk I)).trans ((Zc ((ZR Q).trans Ze)).trans Ze)) (by show k+1=if soI (woI vs b) e (woI vs c)=true then t else k+1;rw[M,if_neg (by decide)])
theorem ZgB(a:Rs m rs)(b:k<=rs.length){p:Nat×Li Int}(h:mv rs k vs=.inr p):p.1<=rs.length:=by
 unfold mv at h;cases q:rs[k]? with
 |none=>rw[q]at h;cases h
 |some r=>
  rw[q]at h;have ok:=a.ok r (aZ q);cases r with
  |tell y=>cases h
  |_=>cases h;exact ZgF (vs:=vs) ok (Zh q)
theorem Qr{ins L:D}(g:Rs m rs):∀ (M a k:Nat) (vs:Li Int) (st:Za) (y z u:Ot D),Vs m vs->k<=rs.length->st[w]?=some (true,inZ vs)->
  (∃ b t l B st',oc rs M k vs=enD rs b/\b<=rs.length/\Zl (λd U s=>ex (rT (n+3)) Zj (Zg U 6 d) s) ((List.range' a M).map λ(k:Nat)=>D.int (k:Int)) (loE m rs ins L w k y z u) st=some (.nx (loE m rs ins L w (b:Int) t l B),st')/\Kj w st st') \/
  (∃ st',Zl (λd U s=>ex (rT (n+3)) Zj (Zg U 6 d) s) ((List.range' a M).map λ(k:Nat)=>D.int (k:Int)) (loE m rs ins L w k y z u) st=some (.rt (oc rs M k vs),st')/\Kj w st st')
 |0,a,k,vs,st,y,z,u,E,i,h=>.inl ⟨k,y,z,u,st,rfl,i,rfl,Grw.refl.kj⟩
 |M+1,a,k,vs,st,y,z,u,E,i,h=>by
  have c:=Zck (n:=n) (ins:=ins) (L:=L) (y:=jN a) (z:=z) (u:=u) g E i h;rw[dP,aM];have C:∀ {r},ex (rT (n+3)) Zj (loE m rs ins L w k (jN a) z u) st=r->Zl (λd U s=>ex (rT (n+3)) Zj (Zg U 6 d) s) (D.int (a:Int) :: (List.range' (a+1) M).map λ(k:Nat)=>D.int (k:Int)) (loE m rs ins L w k y z u) st=match r with
    |some (.nx U',st')=>Zl (λd U s=>ex (rT (n+3)) Zj (Zg U 6 d) s) ((List.range' (a+1) M).map λ(k:Nat)=>D.int (k:Int)) U' st'
    |some (.ct U',st')=>Zl (λd U s=>ex (rT (n+3)) Zj (Zg U 6 d) s) ((List.range' (a+1) M).map λ(k:Nat)=>D.int (k:Int)) U' st'
    |some (.bk U',st')=>some (.nx U',st')
    |some (.rt v,st')=>some (.rt v,st')
    |none=>none:=λ{r} e=>by rw[<-e];rfl
  unfold oc;cases q:mv rs k vs with
  |inl o=>
   rw[q]at c;obtain⟨st',f,j⟩:=c;exact .inr ⟨st',C j,f⟩
  |inr p=>
   rw[q]at c;obtain⟨st1,F,I,f,J,j⟩:=c;rcases Qr g M (a+1) p.1 p.2 st1 (jN a) F I (ZdC E g q) (ZgB g i q) J with⟨b,t,l,B,st',H,G,A,x⟩|⟨st',A,x⟩
   .exact .inl ⟨b,t,l,B,st',H,G,(C j).trans A,f.trans x⟩
   .exact .inr ⟨st',(C j).trans A,f.trans x⟩
def Lg(s:Za)(f:Za->Res)(xs:Li D):Prop:=∀ st,Grw s st->∃ st' j,f st=some (.lst j,st')/\st'[j]?=some (true,xs)/\Grw st st'/\st.length<=j
theorem Lg.of(h:Y F s a U (.tup xs)):Lg s (ev F (.listOf a) U) xs:=λst g=>by
 obtain⟨d,c,b⟩:=h st g;exact⟨_,_,by show Zn (ev F a) V7 U st=_;unfold Zn;rw[c];rfl,Zu,b.trans .push,b.len⟩
theorem Lg.mk(h:Y F s a U (.tup xs)):Lg s (ev F (.lstE a) U) xs:=λst g=>by
 obtain⟨d,c,b⟩:=h st g;exact⟨_,_,by show Zn (ev F a) ZaD U st=_;unfold Zn;rw[c];rfl,Zu,b.trans .push,b.len⟩
theorem Lg.rep{i:Nat}(h:Lg s (ev F a U) [d])(l:Y F s b U (.int (i:Int)))(hi:i<=1000):Lg s (ev F (.bin .Mult a b) U) (List.replicate i d):=λst g=>by
 obtain⟨k,j,o,m,f,p⟩:=h st g;obtain⟨c,n,e⟩:=l k (g.trans f);refine⟨c++[(true,List.replicate i d)],c.length,?_,Zu,(f.trans e).trans .push,(f.trans e).len⟩;show Zz (ev F a) (ev F b) (WI .Mult) U st=_;unfold Zz;simp only[o,n];show ZcC j (i:Int) c=_;unfold ZcC;simp only[e.get m];rw[if_pos ⟨by omega,by omega⟩,bD]
theorem Lg.cat(h:Lg s (ev F a U) xs)(m:Lg s (ev F b U) ys)(r:xs.length+ys.length<=100000):Lg s (ev F (.bin .Add a b) U) (xs++ys):=λst g=>by
 obtain⟨f,j,o,l,e,q⟩:=h st g;obtain⟨c,i,n,k,d,p⟩:=m f (g.trans e);refine⟨c++[(true,xs++ys)],c.length,?_,Zu,(e.trans d).trans .push,(e.trans d).len⟩;show Zz (ev F a) (ev F b) (WI .Add) U st=_;unfold Zz;simp only[o,n];show QS j i c=_;unfold QS;simp only[d.get l,k];rw[if_pos (by unfold Zm;omega)]
theorem ZdV(O:Rs m rs)(Q:m<=900)(hi:ins.length<=m)(N:∀ v∈ins,Sm v)(S:L<=800):C (rT (n+4)) s 188 [.tup (rs.map rwE),.int (m:Int),.tup (inZ ins),.int (L:Int)] (oc rs L 0 (v0 m ins)):=λst g=>by
 have M:=ZdQ hi N;have K:Y (rT (n+3)) s (.len (.v 2)) [some (.tup (rs.map rwE)),jN m,some (.tup (inZ ins)),jN L,none,none,none,none,none] (.int (ins.length:Int)):=by
  have:=Y.lnT (F:=rT (n+3)) (s:=s) (a:=.v 2) (U:=[some (.tup (rs.map rwE)),jN m,some (.tup (inZ ins)),jN L,none,none,none,none,none]) (xs:=inZ ins) (.r rf);rw[show(inZ ins).length=ins.length from aE _]at this;exact this
 obtain⟨x,w,p,B,o,l⟩:=Lg.cat (F:=rT (n+3)) (s:=s) (xs:=inZ ins) (ys:=List.replicate (m - ins.length) (.int 0)) (a:=.listOf (.v 2)) (b:=.bin .Mult (.lstE (.u (.i 0))) (.bin .Sub (.v 1) (.len (.v 2)))) (U:=[some (.tup (rs.map rwE)),jN m,some (.tup (inZ ins)),jN L,none,none,none,none,none]) (.of (.r rf)) (.rep (.mk (.r rf)) (by rw[Int.natCast_sub hi];exact .sub (.r rf) K) (by omega)) (by rw[show(inZ ins).length=ins.length from aE _,cJ];omega) st g
 rw[show inZ ins++List.replicate (m - ins.length) (.int 0)=inZ (v0 m ins) by unfold inZ v0;rw[bN,List.map_replicate]]at B
 have fr:=Y7 (F:=rT (n+3)) (i:=6) (e:=.v 3) (q:=Zj) (U:=loE m rs (.tup (inZ ins)) (.int (L:Int)) w ((0:Nat):Int) none none none) (st:=x) (v:=(L:Int)) (by omega) (by omega) rfl
 rw[bD,eG]at fr;have P:∀ {s:Za}{d:Nat}{y z u:Ot D},d<=rs.length->Y (rT (n+3)) s (.cmp .Eq (.v 5) (.len (.v 0))) (loE m rs (.tup (inZ ins)) (.int (L:Int)) w (d:Int) y z u) (.bl (decide (rs.length<=d))):=λ{s d y z u} R=>.cmp (.r rf) (by
  have:=Y.lnT (F:=rT (n+3)) (s:=s) (a:=.v 0) (U:=loE m rs (.tup (inZ ins)) (.int (L:Int)) w (d:Int) y z u) (xs:=rs.map rwE) (.r rf);rw[aE]at this;exact this) λ_=>by show some (decide ((d:Int)=(rs.length:Int)))=_;exact congrArg some (decide_eq_decide.mpr (by omega))
 rcases Qr (n:=n) (w:=w) (ins:=.tup (inZ ins)) (L:=.int (L:Int)) O L 0 0 (v0 m ins) x none none none M (aV _) B with⟨d,G,E,J,k,I,H,h,f⟩|⟨k,h,f⟩
 .obtain⟨t,j,A⟩:=P (y:=G) (z:=E) (u:=J) H k .refl
  rw[I];unfold enD;by_cases c:rs.length<=d
  .rw[aG c]at j
   rw[if_pos c];exact⟨t,Yd (v:=c__law_outcome) rfl rfl ((Zc (Zk p)).trans ((Zc (Zk rfl)).trans ((Zc (fr.trans h)).trans (Zp ((Z9 j).trans (Zp (ZK rfl))))))),(f.trans A.kj).grw l o⟩
  .rw[aF c]at j
   rw[if_neg c];exact⟨t,Yd (v:=c__law_outcome) rfl rfl ((Zc (Zk p)).trans ((Zc (Zk rfl)).trans ((Zc (fr.trans h)).trans ((Zc ((ZR j).trans Ze)).trans (Zp (ZK rfl)))))),(f.trans A.kj).grw l o⟩
 .exact⟨k,Yd (v:=c__law_outcome) rfl rfl ((Zc (Zk p)).trans ((Zc (Zk rfl)).trans (Zp (fr.trans h)))),f.grw l o⟩
inductive Oc where
 |no|la|te (v:Int)
 deriving DecidableEq
def oD:Oc->D
 |.no=>noD
 |.la=>laD
 |.te v=>teD v
def ocO(rs:Li Rw):Nat->Nat->Li Int->Oc
 |0,k,_=>if rs.length<=k then .no else .la
 |n+1,k,vs=>match rs[k]? with
  |none=>.no
  |some (.tell y)=>.te (woI vs y)
  |some r=>ocO rs n (pkN k vs r) (vsN vs r)
def unl:Nat->Li Oc->Li Oc->Nat
 |i,x :: xs,y :: ys=>(if x=y then 0 else 2 ^ i)+unl (i+1) xs ys
 |_,_,_=>0
def ocP(m:Nat)(rs:Li Rw)(L:Nat)(ins:Li Int):Oc:=ocO rs L 0 (v0 m ins)
structure Trs(m:Nat)(tr:List (List Int)):Prop where
 l:∀ t∈tr,t.length<=m
 s:∀ t∈tr,∀ v∈t,Sm v
 n:tr.length<=11
def inD(t:Li Int):D:=.tup (inZ t)
def btL(m:Nat)(rs:Li Rw)(L:Nat)(a:Li (Li Int))(p:Nat×Rw):Nat:=unl 0 (a.map (ocP m rs L)) (a.map (ocP m (rs.set p.1 p.2) L))
variable{p q':Oc}{tr:Li (Li Int)}
theorem ZeL:∀ {n k:Nat}{vs:Li Int},oc rs n k vs=oD (ocO rs n k vs)
 |0,k,vs=>by unfold oc ocO;split<;>rfl
 |n+1,k,vs=>by
  have a:=λk vs=>@ZeL n k vs
  unfold oc ocO mv;cases q:rs[k]? with
  |none=>rfl
  |some r=>cases r<;>first|rfl|exact a _ _
theorem Zhd:eqS st (oD p) (oD q')=some (decide (p=q')):=by
 have d:decide (S "none"=S "late")=false/\decide (S "none"=S "told")=false/\decide (S "late"=S "none")=false/\decide (S "late"=S "told")=false/\decide (S "told"=S "none")=false/\decide (S "told"=S "late")=false:=by decide +kernel
 have a:∀ {x y:Str},eqS st (.tup [.str x]) (.tup [.str y])=some (decide (x=y)&&true):=rfl;have c:∀ {x y:Str}{v:Int},eqS st (.tup [.str x]) (.tup [.str y,.int v])=some (decide (x=y)&&false):=rfl;have b:∀ {x y:Str}{v:Int},eqS st (.tup [.str x,.int v]) (.tup [.str y])=some (decide (x=y)&&false):=rfl;have e:∀ {x y:Str}{v w:Int},eqS st (.tup [.str x,.int v]) (.tup [.str y,.int w])=some (decide (x=y)&&(decide (v=w)&&true)):=rfl
 cases p with
 |no=>cases q' with
  |no=>rw[show oD .no=.tup [.str "none"] from rfl,a,aG rfl];rfl
  |la=>rw[show oD .no=.tup [.str "none"] from rfl,show oD .la=.tup [.str "late"] from rfl,a,d.1];rfl
  |te v=>rw[show oD .no=.tup [.str "none"] from rfl,show oD (.te v)=.tup [.str "told",.int v] from rfl,c,dA];rfl
 |la=>cases q' with
  |no=>rw[show oD .no=.tup [.str "none"] from rfl,show oD .la=.tup [.str "late"] from rfl,a,d.2.2.1];rfl
  |la=>rw[show oD .la=.tup [.str "late"] from rfl,a,aG rfl];rfl
  |te v=>rw[show oD .la=.tup [.str "late"] from rfl,show oD (.te v)=.tup [.str "told",.int v] from rfl,c,dA];rfl
 |te u=>cases q' with
  |no=>rw[show oD .no=.tup [.str "none"] from rfl,show oD (.te u)=.tup [.str "told",.int u] from rfl,b,dA];rfl
  |la=>rw[show oD .la=.tup [.str "late"] from rfl,show oD (.te u)=.tup [.str "told",.int u] from rfl,b,dA];rfl
  |te v=>
   rw[show oD (.te u)=.tup [.str "told",.int u] from rfl,show oD (.te v)=.tup [.str "told",.int v] from rfl,e,aG rfl,dS,dD];exact congrArg some (decide_eq_decide.mpr ⟨λh=>by rw[h],λh=>by injection h⟩)
theorem Y.neOc(d:Y F s a U (oD p))(c:Y F s b U (oD q')):Y F s (.cmp .NotEq a b) U (.bl (!decide (p=q'))):=.cmp d c λst=>by
 show(eqS st (oD p) (oD q')).map Bool.not=_;rw[Zhd];rfl
theorem Zdh(b:Rs m rs)(c:m<=900)(a:Trs m tr){t:Li Int}(h:t∈tr)(d:L<=800):C (rT (n+4)) s 188 [.tup (rs.map rwE),.int (m:Int),inD t,.int (L:Int)] (oD (ocP m rs L t)):=by
 unfold ocP;rw[<-ZeL];exact ZdV b c (a.l t h) (a.s t h) d
theorem Wk.lst{a:Li D}(j:s[w]?=some (bb,a))(h:Y F s e U (.lst w)):Wk F s e U (Yt false) a:=λst k=>by
 obtain⟨b,l,d⟩:=h st k;have g:=(k.trans d).get j;refine⟨.lst w,b,λf=>f[w]?=some (bb,a),l,d,?_,λst' i=>i.get g⟩
 show(match b[w]? with
  |some c=>some (c.2,λ(s:Za)=>s[w]?=some c)
  |none=>none)=_
 rw[g]
theorem Us:∀ {xs ys:Li Oc}{i:Nat}{x y:Oc},xs.length=ys.length->unl i (xs++[x]) (ys++[y])=unl i xs ys+if x=y then 0 else 2 ^ (i+xs.length)
 |[],[],i,x,y,_=>by show(if x=y then 0 else 2 ^ i)+0=0+_;rw[Nat.add_zero,bG];rfl
 |[],_ :: _,_,_,_,h=>nomatch h
 |_ :: _,[],_,_,_,h=>nomatch h
 |a :: xs,b :: ys,i,x,y,h=>by
  show(if a=b then 0 else 2 ^ i)+unl (i+1) (xs++[x]) (ys++[y])=(if a=b then 0 else 2 ^ i)+unl (i+1) xs ys+_
  rw[Us (by simpa using h),aQ,show i+1+xs.length=i+(xs.length+1) by omega,cT]
variable{bt:Bool}
variable{wt w6:Nat}{rs':Li Rw}
theorem Ju{α:Type}{en g:α->D}{I:Env->Prop}{body:D->Env->Za->Ot (Fl×Za)}(i:s.length<=j):∀ {l:Li α},(∀ a∈l,∀ U,I U->∀ st acc,Grw s st->st[j]?=some (true,acc)->acc.length < 900->∃ U' st',body (en a) U st=some (.nx U',st')/\I U'/\Kj j st st'/\st'[j]?=some (true,acc++[g a]))->∀ U,I U->∀ st acc,Grw s st->st[j]?=some (true,acc)->acc.length+l.length<=900->∃ U' st',Zl body (l.map en) U st=some (.nx U',st')/\I U'/\Kj j st st'/\st'[j]?=some (true,acc++l.map g)
 |[],_,U,f,st,acc,k,e,_=>⟨U,st,rfl,f,Grw.refl.kj,by rw[List.map_nil,bC];exact e⟩
 |a :: l,h,U,f,st,acc,k,e,t=>by
  rw[aQ]at t;obtain⟨d,n,x,r,g1,p⟩:=h a lQ7 U f st acc k e (by omega)
  obtain⟨b,m,w,q,g2,o⟩:=Ju i (λc u=>h c (lM7 _ u)) d r n _ (g1.grw i k) p (by rw[aK];show _+1+_<=_;omega)
  refine⟨b,m,?_,q,g1.trans g2,by rw[aM,o,bP];rfl⟩
  rw[aM];show(match body (en a) U st with
   |some (.nx U',st')=>Zl body (l.map en) U' st'
   |some (.ct U',st')=>Zl body (l.map en) U' st'
   |some (.bk U',st')=>some (.nx U',st')
   |some (.rt v,st')=>some (.rt v,st')
   |none=>none)=_
  rw[x];exact w
def dE(tk:D)(m:Nat)(rs:Li Rw)(L wt w6 j:Nat)(f e d c b a:Ot D):Env:=[some (pgD tk m rs),jL wt,jN L,some tk,jN m,some (.tup (rs.map rwE)),jL w6,jL j,f,e,d,c,b,a]
theorem Zel{x8 x9 x10 x13:Ot D}(T:Rs m rs')(V:m<=900)(H:Trs m tr)(W:L<=800){M:Bool}(K:s[wt]?=some (bt,tr.map inD))(Z:s[w6]?=some (M,(tr.map (ocP m rs L)).map oD))(g:Grw s st):∃ y st',ex (rT (n+4)) (.for1 13 true (.len (.v 1)) ZO) (dE tk m rs L wt w6 j x8 x9 x10 (some (.tup (rs'.map rwE))) (some (.int ((0:Nat):Int))) x13) st=some (.nx (dE tk m rs L wt w6 j x8 x9 x10 (some (.tup (rs'.map rwE))) (some (.int (unl 0 (tr.map (ocP m rs L)) (tr.map (ocP m rs' L)):Int))) y),st')/\Grw st st':=by
 have tn:=H.n;obtain⟨P,e0,G⟩:=Y.lenl (F:=rT (n+4)) (a:=.v 1) (U:=dE tk m rs L wt w6 j x8 x9 x10 (some (.tup (rs'.map rwE))) (some (.int ((0:Nat):Int))) x13) K (.r rf) st g;have fr:=Y7 (F:=rT (n+4)) (i:=13) (q:=ZO) (by show((tr.map inD).length:Int) < _;rw[aE];omega) (by show _<=((tr.map inD).length:Int);omega) e0
 rw[bD]at fr;have A:(tr.map inD).length=tr.length:=aE _;obtain⟨U',O,C,S,y,rfl⟩:=Wz (st1:=P) (I:=λi U=>∃ y,U=dE tk m rs L wt w6 j x8 x9 x10 (some (.tup (rs'.map rwE))) (some (.int (unl 0 ((tr.map (ocP m rs L)).take i) ((tr.map (ocP m rs' L)).take i):Int))) y) (body:=λd U s=>ex (rT (n+4)) ZO (Zg U 13 d) s) (xs:=(List.range (tr.map inD).length).map λ(k:Nat)=>D.int (k:Int)) 0 (dE tk m rs L wt w6 j x8 x9 x10 (some (.tup (rs'.map rwE))) (some (.int ((0:Nat):Int))) x13) (λi d U f J X g2=>by
  obtain⟨y,rfl⟩:=X;rw[aT]at J;obtain⟨z,B,rfl⟩:=dM.mp J;have b:=Zh B;rw[cM,A]at b;rw[List.getElem?_range (by rw[A];exact b)]at B
  cases B;rw[bG]at *
  have gg:Grw s f:=(g.trans G).trans g2;have e:tr[i]?=some tr[i]:=lG7 b;have c1:Y (rT (n+4)) s (.cmp .NotEq (.call 188 (.aC (.v 11) (.aC (.v 4) (.aC (.ix (.v 1) (.v 13)) (.u (.v 2))))) []) (.ix (.v 6) (.v 13))) (dE tk m rs L wt w6 j x8 x9 x10 (some (.tup (rs'.map rwE))) (some (.int (unl 0 ((tr.map (ocP m rs L)).take i) ((tr.map (ocP m rs' L)).take i):Int))) (jN i)) (.bl (!decide (ocP m rs' L tr[i]=ocP m rs L tr[i]))):=.neOc (.call (.cons (.r rf) (.cons (.r rf) (.cons (.ixl (t:=(bt,tr.map inD)) K (.r rf) (.r rf) (by show(tr.map inD)[i]?=_;rw[aT,e];rfl)) (.cons (.r rf) .nil)))) (Zdh T V H (dG b) W)) (.ixl (t:=(M,(tr.map (ocP m rs L)).map oD)) Z (.r rf) (.r rf) (by show((tr.map (ocP m rs L)).map oD)[i]?=_;rw[aT,aT,e];rfl))
  obtain⟨x,o,E⟩:=c1 f gg;have w:(tr.map (ocP m rs L)).take (i+1)=(tr.map (ocP m rs L)).take i++[ocP m rs L tr[i]]:=by rw[List.take_succ,aT,e];rfl
  have p:(tr.map (ocP m rs' L)).take (i+1)=(tr.map (ocP m rs' L)).take i++[ocP m rs' L tr[i]]:=by rw[List.take_succ,aT,e];rfl
  have l:unl 0 ((tr.map (ocP m rs L)).take (i+1)) ((tr.map (ocP m rs' L)).take (i+1))=unl 0 ((tr.map (ocP m rs L)).take i) ((tr.map (ocP m rs' L)).take i)+if ocP m rs L tr[i]=ocP m rs' L tr[i] then 0 else 2 ^ i:=by
   rw[w,p,Us (by simp only[bT,aE]),bT,aE,bG,Nat.min_eq_left (by omega)]
  by_cases c:ocP m rs L tr[i]=ocP m rs' L tr[i]
  .rw[aG c.symm]at o
   rw[if_pos c,Nat.add_zero]at l;refine⟨_,x,(Zc ((ZR o).trans Ze)).trans Ze,E,jN i,?_⟩;rw[l];rfl
  .rw[aF (λh=>c h.symm)]at o
   rw[if_neg c]at l;have Q:Y (rT (n+4)) x (.bin .Add (.v 12) (.bin .LShift (.i 1) (.v 13))) (dE tk m rs L wt w6 j x8 x9 x10 (some (.tup (rs'.map rwE))) (some (.int (unl 0 ((tr.map (ocP m rs L)).take i) ((tr.map (ocP m rs' L)).take i):Int))) (jN i)) (.int ((unl 0 ((tr.map (ocP m rs L)).take i) ((tr.map (ocP m rs' L)).take i):Nat)+((2 ^ i:Nat):Int))):=.add (.r rf) (.bi (i:=1) (j:=(i:Int)) (.r rf) (.r rf) (by
    show(if 0<=(i:Int)/\(i:Int)<=1000/\ZU 1=true then some (1 * 2 ^ (i:Int).toNat) else none)=_
    rw[if_pos ⟨by omega,by omega,rfl⟩,bD,Int.one_mul,Int.natCast_pow]
    rfl))
   obtain⟨N,e4,R⟩:=Q x .refl;refine⟨_,N,(Zc ((Z9 o).trans ((Zc (Zk e4)).trans Ze))).trans Ze,E.trans R,jN i,?_⟩;rw[l,cD];rfl) ⟨x13,rfl⟩
 simp only[aE,cM,bG]at C;rw[eQ (by rw[aE];exact aD _),eQ (by rw[aE];exact aD _)]at C
 exact⟨y,O,fr.trans (by rw[A];exact C),G.trans S⟩
theorem Zc4(h:k < xs.length):xs.take k++[d]++xs.drop (k+1)=xs.set k d:=by
 rw[List.set_eq_take_append_cons_drop,if_pos h,bP];rfl
theorem ZfS(w:Rs m rs)(J:m<=900)(C:Trs m tr)(M:L<=800)(N:s[wt]?=some (bt,tr.map inD)):Lg s (rT (n+5) 38 [pgD tk m rs,.lst wt,.int (L:Int)]) ((cdL rs).map λc=>.int (btL m rs L tr c:Int)):=λst g=>by
 have tn:=C.n;have fl:=Xz (rs:=rs);have rl:=w.l;have c6:Lv s (ev (rT (n+4)) Xx [some (pgD tk m rs),jL wt,jN L,some tk,jN m,some (.tup (rs.map rwE)),none,none,none,none,none,none,none,none]) ((tr.map (ocP m rs L)).map oD):=by
  rw[bQ];exact V1 (F:=rT (n+4)) (b:=one) (wk:=Yt false) (fr:=[2,4,5]) (it:=.v 1) (elt:=.call 188 (.aC (.v 3) (.aC (.v 2) (.aC (.v 0) (.u (.v 1))))) []) (en:=inD) (g:=λt=>oD (ocP m rs L t)) (l:=tr) (.lst N (.r rf)) (by omega) λt W=>.call (xs:=[.tup (rs.map rwE),.int (m:Int),inD t,.int (L:Int)]) (.r rf) (Zdh w J C W M)
 obtain⟨d,w6,b6,e1,h6,B⟩:=c6 st g;have g1:=g.trans B;have R:ex (rT (n+4)) (.set 7 (.lstE .aN)) [some (pgD tk m rs),jL wt,jN L,some tk,jN m,some (.tup (rs.map rwE)),jL w6,none,none,none,none,none,none,none] d=some (.nx (dE tk m rs L wt w6 d.length none none none none none none),d++[(true,[])]):=Zk rfl
 obtain⟨Q,e2,A⟩:=Y.call1 (F:=rT (n+4)) (s:=d) (a:=.v 0) (U:=dE tk m rs L wt w6 d.length none none none none none none) (.r rf) (U8 (tk:=tk) w) (d++[(true,[])]) .push;have K:d.length<=d.length:=aD _;obtain⟨U',G,e3,⟨x8,x9,x10,h,f,x13,rfl⟩,T,h3⟩:=Ju (s:=d) (j:=d.length) (en:=tD) (g:=λp=>.int (btL m rs L tr (p.1,p.2.2):Int)) (I:=λU=>∃ x8 x9 x10 h f x13,U=dE tk m rs L wt w6 d.length x8 x9 x10 h f x13) (body:=ZfI 8 9 10 (ex (rT (n+4)) (.seq (.set 11 (.bin .Add (.bin .Add (.slice (.v 5) .nop (.part (.v 8))) (.tupE (.u (.v 10)))) (.slice (.v 5) (.part (.bin .Add (.v 8) (.i 1))) .nop))) (.seq (.set 12 (.i 0)) (.seq (.for1 13 true (.len (.v 1)) ZO) (.z (.app 7 (.v 12)))))))) (l:=fkL rs) K (λp V U Z x acc g2 X hl=>by
  obtain⟨x8,x9,x10,h,f,x13,rfl⟩:=Z;obtain⟨f1,f2⟩:=UL w V;have o:p.1 < (rs.map rwE).length:=by rw[aE];exact f1
  have O:Y (rT (n+4)) d (.bin .Add (.bin .Add (.slice (.v 5) .nop (.part (.v 8))) (.tupE (.u (.v 10)))) (.slice (.v 5) (.part (.bin .Add (.v 8) (.i 1))) .nop)) (dE tk m rs L wt w6 d.length (jN p.1) (some (.str p.2.1)) (some (rwE p.2.2)) h f x13) (.tup ((rs.set p.1 p.2.2).map rwE)):=by
   rw[List.map_set,<-Zc4 o];exact .adT (.adT (.tkT (.r rf) (.r rf) (dI o)) (.cons (.r rf) .nil) (by rw[bT,aE];show _+1<=_;omega)) (.dpT (.r rf) (by rw[cD];exact .add (.r rf) (.r rf)) o) (by rw[aK,bT,dJ,aE];show _+1+_<=_;omega)
  obtain⟨s4,e4,y⟩:=O x g2;obtain⟨q,E,e5,H⟩:=Zel (n:=n) (tk:=tk) (j:=d.length) (x8:=jN p.1) (x9:=some (.str p.2.1)) (x10:=some (rwE p.2.2)) (x13:=x13) (w.set f2 (k:=p.1)) J C M (g1.get N) h6 (g2.trans y);have ap:=Ap.app (F:=rT (n+4)) (s:=E) (j:=d.length) (i:=7) (e:=.v 12) (U:=dE tk m rs L wt w6 d.length (jN p.1) (some (.str p.2.1)) (some (rwE p.2.2)) (some (.tup ((rs.set p.1 p.2.2).map rwE))) (some (.int (btL m rs L tr (p.1,p.2.2):Int))) q) rfl (.r rf)
  obtain⟨P,e6,S,D⟩:=ap E acc .refl ((y.trans H).get X) (by show acc.length+1<=900;omega)
  exact⟨_,P,(Zc (Zk e4)).trans ((Zc (Zk rfl)).trans ((Zc e5).trans ((Zc e6).trans Ze))),⟨_,_,_,_,_,_,rfl⟩,(y.trans H).kj.trans S,D⟩) (dE tk m rs L wt w6 d.length none none none none none none) ⟨none,none,none,none,none,none,rfl⟩ Q [] (Grw.push.trans A) (A.get Zu) (by show 0+_<=_;omega)
 have f4:ex (rT (n+4)) (.for4 8 9 10 (.call 172 (.u (.v 0)) []) (.seq (.set 11 (.bin .Add (.bin .Add (.slice (.v 5) .nop (.part (.v 8))) (.tupE (.u (.v 10)))) (.slice (.v 5) (.part (.bin .Add (.v 8) (.i 1))) .nop))) (.seq (.set 12 (.i 0)) (.seq (.for1 13 true (.len (.v 1)) ZO) (.z (.app 7 (.v 12))))))) (dE tk m rs L wt w6 d.length none none none none none none) (d++[(true,[])])=some (.nx (dE tk m rs L wt w6 d.length x8 x9 x10 h f x13),G):=by
  show VP 8 9 10 (ev (rT (n+4)) (.call 172 (.u (.v 0)) [])) _ _ _=_;unfold VP;rw[e2];exact e3
 refine⟨G,d.length,Yd (v:=c__law_due) rfl rfl ((Zc (p:=.set3 3 4 5 (.v 0)) rfl).trans ((Zc (Zk e1)).trans ((Zc R).trans ((Zc f4).trans (Zp (ZK rfl)))))),?_,B.trans ((A.kj.trans T).grw K .push),B.len⟩;rw[h3,dL];unfold cdL;rw[bQ];rfl
abbrev Cd:=Ot (Nat×Rw)
def kdE:Cd->D
 |none=>.tup []
 |some p=>.tup [.int (p.1:Int),rwE p.2]
def rO(rs:Li Rw):Cd->Li Rw
 |none=>rs
 |some p=>rs.set p.1 p.2
variable{wa wb:Nat}
theorem Zbz{v:Int}:C (rT (n+1)) s 17 [.int v] (.bl true):=.of (v:=c__law_whole) rfl rfl (.ret (.r rf))
theorem Qi{ok:Za->Prop}{fe fc:D->Za->Res}(b:∀ st,Grw s st->ok st):∀ {l:Li D},(∀ a∈l,Gv s (fc a) (.bl false))->∀ st,Grw s st->∃ st',ZI ok fe fc l st=some ([],st')/\Grw st st'
 |[],_,st,k=>⟨st,if_pos (b st k),.refl⟩
 |x :: xs,h,st,k=>by
  obtain⟨f,m,c⟩:=h x lQ7 st k;obtain⟨e,j,g⟩:=Qi b (λd i=>h d (lM7 _ i)) f (k.trans c)
  refine⟨e,?_,c.trans g⟩;rw[ZI,if_pos (b st k),m];exact j
theorem Wm:∀ {l:Li Int},Zx (l.map D.int) (l.map D.int)=true
 |[]=>rfl
 |x :: l=>by show(decide (x=x)&&Zx (l.map D.int) (l.map D.int))=true;rw[Wm,aG rfl];rfl
theorem ZeM{v:Int}:∀ k,okD k (.int v)=true
 |0=>rfl
 |_+1=>rfl
theorem Qx:∀ {l:Li Int}{k:Nat},ZT k (l.map D.int)=true
 |[],0=>rfl
 |[],_+1=>rfl
 |x :: l,k=>by
  have a:=Qx (l:=l) (k:=k);rw[aM,ZT,ZeM,a];rfl
theorem ZbP:W8 (ns.map D.int) (ns.map D.int)=some true:=by
 unfold W8;split
 .rename_i h;rw[Bool.or_self]at h;rw[h];rfl
 .rw[Qx,Wm];rfl
theorem Zca{o m j i h f e:Ot D}(E:ns.length<=900):Y (rT (n+1)) s (.cmp .NotEq ZL (.lstE .aN)) [o,m,j,i,h,f,e,some (.tup (ns.map D.int))] (.bl false):=by
 have C:Lv s (ev (rT (n+1)) ZL [o,m,j,i,h,f,e,some (.tup (ns.map D.int))]) []:=λst g=>by
  obtain⟨q,A,t⟩:=Qi (s:=st) (ok:=λ_=>True) (fe:=λd=>ev (rT (n+1)) (.v 0) (ZQ one [o,m,j,i,h,f,e,some (.tup (ns.map D.int))] [] d)) (fc:=λd=>ev (rT (n+1)) (.not (.call 17 (.u (.v 0)) [])) (ZQ one [o,m,j,i,h,f,e,some (.tup (ns.map D.int))] [] d)) (l:=ns.map D.int) (λ_ _=>trivial) (λa y=>by
   obtain⟨v,_,rfl⟩:=aR.mp y;exact Y.not (k:=true) (.call1 (x:=.int v) (.r rf) Zbz)) st .refl
  refine⟨q++[(true,[])],q.length,true,?_,Zu,t.trans .push⟩;show Ye one (Yt false) [] (ev (rT (n+1)) (.v 7)) (ev (rT (n+1)) (.v 0)) (ev (rT (n+1)) (.not (.call 17 (.u (.v 0)) []))) _ st=_;unfold Ye;show(if (ns.map D.int).length<=1000 then _ else none)=_
  rw[if_pos (by rw[aE];omega)]
  simp only[A]
 intro st g;obtain⟨b,p,F,B,z,w⟩:=C st g;refine⟨b++[(true,[])],?_,w.trans .push⟩;show Zz (ev (rT (n+1)) ZL) (ev (rT (n+1)) (.lstE .aN)) (Yx .NotEq) _ st=_;unfold Zz;rw[B];show Yx .NotEq (.lst p) (.lst b.length) (b++[(true,[])])=_;unfold Yx;have:VJ .NotEq (.lst p) (.lst b.length) (b++[(true,[])])=some false:=by
  show((o2 (λ(c d:Z8)=>W8 c.2 d.2) (b++[(true,[])])[p]? (b++[(true,[])])[b.length]?).join).map not=_
  rw[Grw.push.get z,Zu];rfl
 rw[this]
theorem Zb9(h:s[w]?=some (bb,ns.map D.int))(l:Y F s a U (.tup (ns.map D.int)))(k:Y F s b U (.lst w)):Y F s (.cmp .Eq (.listOf a) b) U (.bl true):=λst g=>by
 obtain⟨e,o,j⟩:=l st g;obtain⟨f,n,i⟩:=k (e++[(true,ns.map D.int)]) (g.trans (j.trans .push));refine⟨f,?_,j.trans (Grw.push.trans i)⟩;have m:ev F (.listOf a) U st=some (.lst e.length,e++[(true,ns.map D.int)]):=by
  show Zn (ev F a) V7 U st=_;unfold Zn;rw[o];rfl
 show Zz (ev F (.listOf a)) (ev F b) (Yx .Eq) U st=_;unfold Zz;simp only[m,n];unfold Yx;have:VJ .Eq (.lst e.length) (.lst w) f=some true:=by
  show(o2 (λ(c d:Z8)=>W8 c.2 d.2) f[e.length]? f[w]?).join=_
  rw[i.get Zu,(g.trans (j.trans (Grw.push.trans i))).get h];exact ZbP
 rw[this]
theorem U7(h:xs.length<=10):C (rT (n+1)) s 181 [.tup xs] .non:=λst g=>by
 have:Y (rT n) s (.cmp .Gt (.len (.v 0)) (.i 10)) [some (.tup xs)] (.bl false):=.cmp (.lnT (.r rf)) (.r rf) λ_=>by show some (decide ((10:Int) < (xs.length:Int)))=_;rw[aF (by omega)]
 obtain⟨a,c,b⟩:=this st g;exact⟨a,Zfi (v:=c_check_trials) rfl rfl ((Zc ((ZR c).trans Ze)).trans Ze),b⟩
theorem ZfT(a:k < rs.length)(b:rs.length<=900):C (rT (n+2)) s 180 [pgD tk m rs,.int (k:Int),rwE r] (pgD tk m (rs.set k r)):=.of (v:=c_fake_of) rfl rfl (.ret (by
 have:=XI (n:=n) (s:=s) (i:=k) (d:=rwE r) (xs:=rs.map rwE) (by rw[aE];exact a) (by rw[aE];omega)
 rw[<-List.map_set]at this;exact .cons (.r rf) (.cons (.r rf) (.cons (.call (xs:=[.tup (rs.map rwE),.int (k:Int),rwE r]) (.r rf) this) .nil))))
theorem ZeD{b:D->Li (Ot D)}{en g:α->D}{l:Li α}(hi:Wk F s it U wk (l.map en))(n:l.length<=1000)(h:∀ a∈l,Y F s elt (ZQ b U fr (en a)) (g a)):Lg s (Ye b wk fr (ev F it) (ev F elt) (ev F (.c (.bl true))) U) (l.map g):=λst k=>by
 obtain⟨x,f,ok,r,e,q,m⟩:=hi st k;obtain⟨j,p,i⟩:=X9 (s:=f) (ok:=ok) (fe:=λd=>ev F elt (ZQ b U fr d)) (fc:=λd=>ev F (.c (.bl true)) (ZQ b U fr d)) (λ_ _=>rfl) m (λa o=>Gv.mono (h a o) (k.trans e)) f .refl
 refine⟨j++[(true,l.map g)],_,?_,Zu,(e.trans i).trans .push,(e.trans i).len⟩;unfold Ye;simp only[r,q,aE,if_pos n,p]
theorem Zbv(a:Rs m rs):Lg s (rT (n+5) 262 [pgD tk m rs]) ((cdL rs).map λp=>kdE (some p)):=λst g=>by
 have fl:=Xz (rs:=rs);have k:=a.l;have:Lg s (ev (rT (n+4)) (.comp3 [] (.call 172 (.u (.v 0)) []) (.tupE (.aC (.v 0) (.u (.v 2)))) (.c (.bl true))) [some (pgD tk m rs)]) ((fkL rs).map λp=>kdE (some (p.1,p.2.2))):=ZeD (F:=rT (n+4)) (b:=QE) (wk:=Zbp) (fr:=[]) (it:=.call 172 (.u (.v 0)) []) (elt:=.tupE (.aC (.v 0) (.u (.v 2)))) (en:=tD) (g:=λp=>kdE (some (p.1,p.2.2))) (l:=fkL rs) (.of (.call1 (.r rf) (U8 a)) λst=>by
   show(if ((fkL rs).map tD).all Zcc=true then some ((fkL rs).map tD,λ(_:Za)=>True) else none)=_
   rw[if_pos (by rw[List.all_map];exact cQ.mpr λ_ _=>rfl)]) (by omega) λp o=>.cons (.r rf) (.cons (.r rf) .nil)
 obtain⟨d,h,j,i,f,e⟩:=this st g;refine⟨d,h,Yd (v:=c_codes_of) rfl rfl (Zp (ZK j)),?_,f,e⟩;rw[i];unfold cdL;rw[bQ];rfl
theorem Qg{F:Nat->Fn}{z w:Z8}:∀ {xs ys:Li Oc}{i v:Nat}{x4 x5:Ot D}{st:Za},Grw s st->s[wa]?=some z->s[wb]?=some w->∃ e d n st',ZX (λs=>s[wa]?=some z/\s[wb]?=some w) (λx y U s=>ex F ZA (Zg (Zg U 4 x) 5 y) s) ((xs.map oD).zip (ys.map oD)) [jL wa,jL wb,jN v,some (.int ((2 ^ i:Nat):Int)),x4,x5] st=some (.nx [jL wa,jL wb,some (.int ((v+unl i xs ys:Nat):Int)),n,e,d],st')/\Grw st st'
 |[],ys,i,v,x4,x5,st,g,k,j=>⟨x4,x5,_,st,if_pos ⟨g.get k,g.get j⟩,.refl⟩
 |x :: xs,[],i,v,x4,x5,st,g,k,j=>⟨x4,x5,_,st,if_pos ⟨g.get k,g.get j⟩,.refl⟩
 |x :: xs,y :: ys,i,v,x4,x5,st,g,k,j=>by
  obtain⟨o,m,t⟩:=Y.neOc (F:=F) (s:=st) (a:=.v 4) (b:=.v 5) (p:=x) (q':=y) (U:=[jL wa,jL wb,jN v,some (.int ((2 ^ i:Nat):Int)),some (oD x),some (oD y)]) (.r rf) (.r rf) st .refl;have q:∀ v:Nat,Y F o (.bin .Mult (.v 3) (.i 2)) [jL wa,jL wb,jN v,some (.int ((2 ^ i:Nat):Int)),some (oD x),some (oD y)] (.int ((2 ^ (i+1):Nat):Int)):=λv=>by
   rw[show((2 ^ (i+1):Nat):Int)=((2 ^ i:Nat):Int) * 2 by rw[Nat.pow_succ,Int.natCast_mul];rfl]
   exact .mul (.r rf) (.r rf) rfl
  have C:∃ f,ex F ZA [jL wa,jL wb,jN v,some (.int ((2 ^ i:Nat):Int)),some (oD x),some (oD y)] st=some (.nx [jL wa,jL wb,some (.int ((v+(if x=y then 0 else 2 ^ i):Nat):Int)),some (.int ((2 ^ (i+1):Nat):Int)),some (oD x),some (oD y)],f)/\Grw st f:=by
   by_cases c:x=y
   .rw[aG c]at m
    obtain⟨f,l,h⟩:=q v o .refl;rw[if_pos c];exact⟨f,(Zc ((ZR m).trans Ze)).trans ((Zc (Zk l)).trans Ze),t.trans h⟩
   .rw[aF c]at m
    obtain⟨f,l,h⟩:=q (v+2 ^ i) o .refl;rw[if_neg c];exact⟨f,(Zc ((Z9 m).trans ((Zc (Zk rfl)).trans Ze))).trans ((Zc (Zk l)).trans Ze),t.trans h⟩
  obtain⟨f,l,h⟩:=C;obtain⟨e,d,n,A,u,B⟩:=Qg (xs:=xs) (ys:=ys) (i:=i+1) (v:=v+(if x=y then 0 else 2 ^ i)) (x4:=some (oD x)) (x5:=some (oD y)) (g.trans h) k j
  refine⟨e,d,n,A,?_,h.trans B⟩;rw[aM,aM,List.zip_cons_cons,ZX,if_pos ⟨g.get k,g.get j⟩];show(match ex F ZA [jL wa,jL wb,jN v,some (.int ((2 ^ i:Nat):Int)),some (oD x),some (oD y)] st with
   |some (.nx U',st')=>ZX _ _ _ U' st'
   |some (.ct U',st')=>ZX _ _ _ U' st'
   |some (.bk U',st')=>some (.nx U',st')
   |some (.rt v,st')=>some (.rt v,st')
   |none=>none)=_
  rw[l];rw[cT]at u;exact u
theorem Zg1{os pq:Li Oc}{m l:Bool}(c:s[wa]?=some (m,os.map oD))(b:s[wb]?=some (l,pq.map oD)):C (rT (n+1)) s 183 [.lst wa,.lst wb] (.int (unl 0 os pq:Int)):=λst g=>by
 obtain⟨x4,x5,h,a,k,j⟩:=Qg (F:=rT n) (s:=st) (xs:=os) (ys:=pq) (i:=0) (v:=0) (x4:=none) (x5:=none) .refl (g.get c) (g.get b);have d:ex (rT n) (.forP 4 5 (.aC (.v 0) (.u (.v 1))) ZA) [jL wa,jL wb,some (.int ((0:Nat):Int)),some (.int ((2 ^ 0:Nat):Int)),none,none] st=some (.nx [jL wa,jL wb,some (.int ((0+unl 0 os pq:Nat):Int)),h,x4,x5],a):=by
  show(match st[wa]?,st[wb]? with
   |some f,some e=>ZX (λs=>s[wa]?=some f/\s[wb]?=some e) (λx y U s=>ex (rT n) ZA (Zg (Zg U 4 x) 5 y) s) (f.2.zip e.2) _ st
   |_,_=>none)=_
  rw[g.get c,g.get b];exact k
 rw[bG]at d;exact⟨a,Yd (v:=c_bits_unlike) rfl rfl ((Zc (Zk rfl)).trans ((Zc (Zk rfl)).trans ((Zc d).trans (Zp (ZK rfl))))),j⟩
mutual
theorem UD:∀ {x y:D},Zr x y=true->x=y
 |.non,.non,_=>rfl
 |.bl a,.bl b,h=>by have h:(a==b)=true:=h;rw[eq_of_beq h]
 |.int a,.int b,h=>by rw[of_decide_eq_true (p:=a=b) h]
 |.str a,.str b,h=>by rw[of_decide_eq_true (p:=a=b) h]
 |.tup a,.tup b,h=>by rw[Qe (xs:=a) (ys:=b) h]
theorem Qe:∀ {xs ys:Li D},Zx xs ys=true->xs=ys
 |[],[],_=>rfl
 |x :: xs,y :: ys,h=>by
  have h:(Zr x y&&Zx xs ys)=true:=h;rw[bA7]at h;rw[UD h.1,Qe h.2]
end
theorem WR{n:Nat}(a:∀ x,okN n x=true->Zr x x=true):∀ {ds:Li D},ds.all (okN n)=true->Zx ds ds=true
 |[],_=>rfl
 |d :: ds,h=>by
  rw[bA,bA7]at h;show(Zr d d&&Zx ds ds)=true;rw[a d h.1,WR a h.2];rfl
theorem VC:∀ {n:Nat}{x:D},okN n x=true->Zr x x=true
 |n,x,h=>by
  cases x with
  |int a=>exact aG rfl
  |str a=>exact aG rfl
  |tup ds=>cases n with
   |zero=>cases h
   |succ n=>exact WR (λx=>VC) h
  |_=>cases n<;>cases h
abbrev Ky:=Cd×Li Int
def kyE(k:Ky):D:=.tup [kdE k.1,inD k.2]
def vlE(m:Nat)(rs:Li Rw)(L:Nat)(k:Ky):D:=.tup [oD (ocP m (rO rs k.1) L k.2),.int (YQ (sn (rO rs k.1) L 0 (v0 m k.2)):Int)]
def enE(m:Nat)(rs:Li Rw)(L:Nat)(k:Ky):D:=.tup [kyE k,vlE m rs L k]
variable{ks:Li Ky}
theorem ZgC{o:Op}:okN (n+1) (opE o)=true:=by cases o<;>cases n<;>rfl
theorem ZgD{r:Rw}:okN (n+2) (rwE r)=true:=by
 have h:∀ {o:Op},okN (n+1) (opE o)=true:=ZgC;cases r with
 |put x y g z=>show(true&&(true&&(okN (n+1) (opE y)&&(true&&(okN (n+1) (opE z)&&true)))))=true;rw[h,h];rfl
 |ifr y g z t=>show(true&&(okN (n+1) (opE y)&&(true&&(okN (n+1) (opE z)&&(true&&true)))))=true;rw[h,h];rfl
 |tell y=>show(true&&(okN (n+1) (opE y)&&true))=true;rw[h];rfl
 |_=>rfl
theorem ZdG{t:Li Int}:okN (n+1) (inD t)=true:=by
 show(inZ t).all (okN n)=true;unfold inZ;rw[List.all_map];exact cQ.mpr λ_ _=>by cases n<;>rfl
theorem Qy{k:Ky}:okN 8 (kyE k)=true:=by
 show(okN 7 (kdE k.1)&&(okN 7 (inD k.2)&&true))=true;rw[ZdG];cases k.1 with
 |none=>rfl
 |some p=>show((true&&(okN 6 (rwE p.2)&&true))&&_)=true;rw[ZgD];rfl
theorem ZP{a b:Str}{xs ys:Li D}(h:D.tup (.str a :: xs)=.tup (.str b :: ys)):a=b:=by injection h with h;injection h with h _;injection h
theorem WC{o z:Op}(h:opE o=opE z):o=z:=by
 cases o with
 |nm i=>cases z with
  |nm j=>
   have h:D.tup [.str "name",.int (i:Int)]=.tup [.str "name",.int (j:Int)]:=h
   injection h with h;injection h with _ h;injection h with h _;injection h with h;rw[Int.ofNat.inj h]
  |nu v=>exact absurd (ZP h) (by decide +kernel)
 |nu u=>cases z with
  |nm j=>exact absurd (ZP h) (by decide +kernel)
  |nu v=>
   have h:D.tup [.str "number",.int u]=.tup [.str "number",.int v]:=h
   injection h with h;injection h with _ h;injection h with h _;injection h with h;rw[h]
theorem Zfk{r q:Rw}(h:rwE r=rwE q):r=q:=by
 have B:S "put"≠S "if"/\S "put"≠S "go"/\S "put"≠S "tell"/\S "put"≠S "skip"/\S "if"≠S "go"/\S "if"≠S "tell"/\S "if"≠S "skip"/\S "go"≠S "tell"/\S "go"≠S "skip"/\S "tell"≠S "skip":=by decide +kernel
 obtain⟨w,v,u,s,p,o,n,m,l,f⟩:=B;cases r with
 |put x y g z=>cases q with
  |put A a k i=>
   have h:D.tup [.str "put",.int (x:Int),opE y,.str g,opE z]=.tup [.str "put",.int (A:Int),opE a,.str k,opE i]:=h
   injection h with h;injection h with _ h;injection h with e h;injection h with d h;injection h with c h;injection h with b _;injection e with e;injection c with c
   rw[Int.ofNat.inj e,WC d,c,WC b]
  |ifr _ _ _ _=>exact absurd (ZP h) w
  |go _=>exact absurd (ZP h) v
  |tell _=>exact absurd (ZP h) u
  |skip=>exact absurd (ZP h) s
 |ifr y g z t=>cases q with
  |put _ _ _ _=>exact absurd (ZP h) w.symm
  |ifr a k i j=>
   have h:D.tup [.str "if",opE y,.str g,opE z,.int (t:Int)]=.tup [.str "if",opE a,.str k,opE i,.int (j:Int)]:=h
   injection h with h;injection h with _ h;injection h with e h;injection h with d h;injection h with c h;injection h with b _;injection b with b;injection d with d
   rw[WC e,d,WC c,Int.ofNat.inj b]
  |go _=>exact absurd (ZP h) p
  |tell _=>exact absurd (ZP h) o
  |skip=>exact absurd (ZP h) n
 |go t=>cases q with
  |put _ _ _ _=>exact absurd (ZP h) v.symm
  |ifr _ _ _ _=>exact absurd (ZP h) p.symm
  |go j=>
   have h:D.tup [.str "go",.int (t:Int)]=.tup [.str "go",.int (j:Int)]:=h
   injection h with h;injection h with _ h;injection h with h _;injection h with h;rw[Int.ofNat.inj h]
  |tell _=>exact absurd (ZP h) m
  |skip=>exact absurd (ZP h) l
 |tell y=>cases q with
  |put _ _ _ _=>exact absurd (ZP h) u.symm
  |ifr _ _ _ _=>exact absurd (ZP h) o.symm
  |go _=>exact absurd (ZP h) m.symm
  |tell a=>
   have h:D.tup [.str "tell",opE y]=.tup [.str "tell",opE a]:=h
   injection h with h;injection h with _ h;injection h with h _;rw[WC h]
  |skip=>exact absurd (ZP h) f
 |skip=>cases q with
  |put _ _ _ _=>exact absurd (ZP h) s.symm
  |ifr _ _ _ _=>exact absurd (ZP h) n.symm
  |go _=>exact absurd (ZP h) l.symm
  |tell _=>exact absurd (ZP h) f.symm
  |skip=>rfl
theorem Wt:∀ {a b:Li Int},a.map D.int=b.map D.int->a=b
 |[],[],_=>rfl
 |x :: a,y :: b,h=>by
  rw[aM,aM]at h
  injection h with c d;injection c with c
  rw[c,Wt d]
theorem ZeA{a b:Ky}(h:kyE a=kyE b):a=b:=by
 obtain⟨c,t⟩:=a;obtain⟨f,g⟩:=b;have h:D.tup [kdE c,inD t]=.tup [kdE f,inD g]:=h
 injection h with h;injection h with d h;injection h with e _
 have e:D.tup (t.map D.int)=.tup (g.map D.int):=e
 injection e with e
 rw[Wt e];cases c with
 |none=>cases f with
  |none=>rfl
  |some p=>exact nomatch d
 |some p=>cases f with
  |none=>exact nomatch d
  |some k=>
   obtain⟨i,r⟩:=p;obtain⟨l,j⟩:=k;have d:D.tup [.int (i:Int),rwE r]=.tup [.int (l:Int),rwE j]:=d
   injection d with d;injection d with d h;injection h with m _;injection d with d
   rw[Int.ofNat.inj d,Zfk m]
theorem Zdy{a b:Ky}:XT (kyE a) (enE m rs L b)=decide (b=a):=by
 show Zr (kyE b) (kyE a)=_;by_cases h:b=a
 .rw[h,aG rfl];exact VC Qy
 .rw[aF h]
  cases q:Zr (kyE b) (kyE a) with
  |false=>rfl
  |true=>exact absurd (ZeA (UD q)) h
theorem Jt{k:Ky}:∀ {ks:Li Ky},(ks.map (enE m rs L)).any (XT (kyE k))=decide (k∈ks)
 |[]=>rfl
 |a :: ks=>by
  rw[aM,cP,Jt,Zdy,<-Bool.decide_or];exact decide_eq_decide.mpr ⟨λh=>aH.mpr (h.imp Eq.symm id),λh=>(aH.mp h).imp Eq.symm id⟩
theorem Vl{k:Ky}:∀ {ks:Li Ky},ZY (ks.map (enE m rs L)) (kyE k)=if k∈ks then some (vlE m rs L k) else none
 |[]=>rfl
 |a :: ks=>by
  have b:=Vl (k:=k) (ks:=ks);unfold ZY at b ⊢
  rw[aM,cK,Zdy];by_cases h:a=k
  .rw[aG h,if_pos (aH.mpr (.inl h.symm)),h];rfl
  .rw[aF h]
   by_cases c:k∈ks
   .rw[if_pos c]at b
    rw[if_pos (lM7 _ c)];exact b
   .rw[if_neg c]at b
    rw[if_neg λz=>c ((aH.mp z).resolve_left λz=>h z.symm)]
    exact b
theorem ZaM:Xj (ks.map (enE m rs L))=false:=by cases ks<;>rfl
theorem ZdM:∀ {n k:Nat}{vs:Li Int},∀ z∈sn rs n k vs,z < rs.length
 |0,_,_,z,h=>nomatch h
 |n+1,k,vs,z,h=>by
  unfold sn at h;cases q:mv rs k vs with
  |inl o=>
   rw[q]at h;have h:z∈if rs.length<=k then [] else [k]:=h
   split at h
   .cases h
   .rw[aJ.mp h];omega
  |inr p=>
   rw[q]at h;rcases aH.mp h with h|h
   .rw[h]
    unfold mv at q;cases c:rs[k]? with
    |none=>rw[c]at q;cases q
    |some r=>exact Zh c
   .exact ZdM z h
def Xd(ks:Li Ky)(k:Ky):Li Ky:=if k∈ks then ks else ks++[k]
def bkF(b:D)(m:Nat)(rs:Li Rw)(a:Li (Li Int))(L c d:Nat):Li D:=[.tup [.str "program",pgD b m rs],.tup [.str "trials",.tup (a.map inD)],.tup [.str "limit",.int (L:Int)],.tup [.str "kept",.dic c],.tup [.str "done",.int (d:Int)]]
structure Bk(tk:D)(m:Nat)(rs:List Rw)(tr:List (List Int))(L b kp:Nat)(ks:List Ky)(s:Za):Prop where
 ob:s[b]?=some (true,.int 263 :: bkF tk m rs tr L kp ks.length)
 ke:s[kp]?=some (true,ks.map (enE m rs L))
 ne:b≠kp
structure Fit(m:Nat)(rs:List Rw)(tr:List (List Int))(L:Nat):Prop where
 r:Rs m rs
 b:m<=900
 t:Trs m tr
 l:L<=800
structure Kb(b kp:Nat)(st st':Za):Prop where
 old:∀ i,i < st.length->i≠b->i≠kp->st'[i]?=st[i]?
 len:st.length<=st'.length
def Uv(rs:Li Rw):Cd->Prop
 |none=>True
 |some p=>p∈cdL rs
variable{bo kp dn:Nat}{t:Li Int}{es:Li D}{f:Str}{cd:Cd}
theorem Grw.kb(g:Grw st st'):Kb bo kp st st':=⟨λi h _ _=>g.old i h,g.len⟩
theorem Kb.trans(a:Kb bo kp st st1)(b:Kb bo kp st1 st'):Kb bo kp st st':=⟨λi h d c=>(b.old i (aS h a.len) d c).trans (a.old i h d c),aP a.len b.len⟩
theorem Kb.get{c:Z8}(k:Kb bo kp st st')(h:st[j]?=some c)(b:j≠bo)(a:j≠kp):st'[j]?=some c:=(k.old j (Zh h) b a).trans h
theorem Bk.grw(h:Bk tk m rs tr L bo kp ks s)(g:Grw s st):Bk tk m rs tr L bo kp ks st:=⟨g.get h.ob,g.get h.ke,h.ne⟩
theorem YY:Yl (bkF tk m rs tr L kp dn) (S "program")=some (pgD tk m rs)/\Yl (bkF tk m rs tr L kp dn) (S "trials")=some (.tup (tr.map inD))/\Yl (bkF tk m rs tr L kp dn) (S "limit")=jN L/\Yl (bkF tk m rs tr L kp dn) (S "kept")=some (.dic kp)/\Yl (bkF tk m rs tr L kp dn) (S "done")=jN dn:=by
 have c:∀ {x:Str},decide (x=x)=true:=aG rfl;have b:decide (S "program"=S "trials")=false/\decide (S "program"=S "limit")=false/\decide (S "program"=S "kept")=false/\decide (S "program"=S "done")=false/\decide (S "trials"=S "limit")=false/\decide (S "trials"=S "kept")=false/\decide (S "trials"=S "done")=false/\decide (S "limit"=S "kept")=false/\decide (S "limit"=S "done")=false/\decide (S "kept"=S "done")=false:=by decide +kernel
 obtain⟨l,k,j,i,h,g,f,e,d,a⟩:=b;unfold Yl bkF;refine⟨?_,?_,?_,?_,?_⟩<;>simp only[List.find?,isK,c,l,k,j,i,h,g,f,e,d,a]<;>rfl
theorem Y.fl(b:s[w]?=some (bb,.int k' :: es))(h:Y F s a U (.dic w))(hd:Yl es f=some d):Y F s (.fld f a) U d:=g1 h (gs λst g=>by
 show(match st[w]? with
  |some (_,.int _ :: es)=>(match Yl es f with
   |some v=>some (v,st)
   |none=>none)
  |_=>none)=_
 rw[g.get b];show(match Yl es f with
   |some v=>some (v,st)
   |none=>none)=_
 rw[hd])
theorem Zeg(a:s[w]?=some (bb,.int 263 :: es)):UH s (.dic w)=some 263:=by
 show(match s[w]? with
  |some (_,.int c :: _)=>some c.toNat
  |_=>none)=_
 rw[a];rfl
theorem XU{tab:Li (Nat×Nat)}(f:st1[w]?=some (bb,.int 263 :: es))(h:ev F a U st=some (.dic w,st1))(e:tab.lookup 263=some j)(g:ev F b U st1=some (.tup xs,st')):ev F (.meth tab a b) U st=F j (.dic w :: xs) st':=by
 show X2 F tab (ev F a) (ev F b) U st=_;unfold X2;rw[h];show(match (UH st1 (.dic w)).bind λc=>tab.lookup c with
  |some j=>(match ev F b U st1 with
   |some (.tup xs,d)=>F j (.dic w :: xs) d
   |_=>none)
  |none=>none)=_
 rw[Zeg f,oB7,e];show(match ev F b U st1 with
   |some (.tup xs,d)=>F j (.dic w :: xs) d
   |_=>none)=_
 rw[g]
theorem Y.meth{tab:Li (Nat×Nat)}(n:s[w]?=some (bb,.int 263 :: es))(o:Y F s a U (.dic w))(m:tab.lookup 263=some j)(p:Y F s b U (.tup xs))(h:C F s j (.dic w :: xs) d):Y F s (.meth tab a b) U d:=λst g=>by
 obtain⟨k,t,c⟩:=o st g;obtain⟨i,r,e⟩:=p k (g.trans c);obtain⟨f,q,l⟩:=h i (g.trans (c.trans e));exact⟨f,(XU ((g.trans c).get n) t m r).trans q,c.trans (e.trans l)⟩
theorem ZfV(a:Fit m rs tr L)(b:Bk tk m rs tr L bo kp ks s)(e:Uv rs cd):C (rT (n+3)) s 265 [.dic bo,kdE cd] (pgD tk m (rO rs cd)):=.of (v:=c_Book_program_of) rfl rfl (by
 have f1:=YY (tk:=tk) (m:=m) (rs:=rs) (tr:=tr) (L:=L) (kp:=kp) (dn:=ks.length);cases cd with
 |none=>exact .yes (.r rf) (.fl b.ob (.r rf) f1.1)
 |some p=>
  have d:p.1 < rs.length:=by
   obtain⟨u,c,rfl⟩:=aR.mp (show p∈(fkL rs).map λp=>(p.1,p.2.2) from e)
   exact(UL a.r c).1
  have f:=a.r.l;refine .no (.cmp (x:=.tup [.int (p.1:Int),rwE p.2]) (y:=.tup []) (.r rf) (.r rf) λst=>?_) (.ret (.call (xs:=[pgD tk m rs,.int (p.1:Int),rwE p.2]) (.cons (.fl b.ob (.r rf) f1.1) (.cons (.r rf) (.cons (.r rf) .nil))) (ZfT d (by omega))))
  show(match eqT [.int (p.1:Int),rwE p.2] (.tup []) with
   |some k=>some k
   |none=>ZaT st [.int (p.1:Int),rwE p.2] [])=_
  have:eqT [.int (p.1:Int),rwE p.2] (.tup [])=some false:=by
   unfold eqT;have:okD 8 (.tup [.int (p.1:Int),rwE p.2])=true:=by
    have h:∀ {o:Op},okD 6 (opE o)=true:=λ{o}=>by cases o<;>rfl
    show(true&&(okD 7 (rwE p.2)&&true))=true;cases p.2 with
    |put x y g z=>show(true&&((true&&(true&&(okD 6 (opE y)&&(true&&(okD 6 (opE z)&&true)))))&&true))=true;rw[h,h];rfl
    |ifr y g z t=>show(true&&((true&&(okD 6 (opE y)&&(true&&(okD 6 (opE z)&&(true&&true)))))&&true))=true;rw[h,h];rfl
    |tell y=>show(true&&((true&&(okD 6 (opE y)&&true))&&true))=true;rw[h];rfl
    |_=>rfl
   rw[this];rfl
  rw[this])
theorem Y.ky(c:Bk tk m rs tr L bo kp ks s)(d:Y F s a U (kyE (cd,t)))(hd:Y F s b U (.dic kp)):Y F s (.cmp .NotIn a b) U (.bl (!decide ((cd,t)∈ks))):=g2 d hd (gs λst g=>by
 show Yx .NotIn (kyE (cd,t)) (.dic kp) st=_;unfold Yx;have:VJ .NotIn (kyE (cd,t)) (.dic kp) st=some (!decide ((cd,t)∈ks)):=by
  show(((match st[kp]? with
   |some (_,xs)=>if Xj xs=false/\okN 8 (kyE (cd,t))=true then some (ZY xs (kyE (cd,t))) else none
   |none=>none)).map Option.isSome).map Bool.not=_
  rw[g.get c.ke];show(((if Xj (ks.map (enE m rs L))=false/\okN 8 (kyE (cd,t))=true then some (ZY (ks.map (enE m rs L)) (kyE (cd,t))) else none)).map Option.isSome).map Bool.not=_
  rw[if_pos ⟨ZaM,Qy⟩,Vl];by_cases h:(cd,t)∈ks
  .rw[if_pos h,aG h];rfl
  .rw[if_neg h,aF h];rfl
 rw[this])
theorem Y.kv(c:Bk tk m rs tr L bo kp ks s)(d:Y F s a U (kyE (cd,t)))(hd:Y F s b U (.dic kp))(h:(cd,t)∈ks):Y F s (.ix b a) U (vlE m rs L (cd,t)):=g2 hd d (gs λst g=>by
 show ixR (.dic kp) (kyE (cd,t)) st=_;unfold ixR;have:ixD (.dic kp) (kyE (cd,t)) st=some (vlE m rs L (cd,t)):=by
  show(match st[kp]? with
   |some (_,xs)=>if Xj xs=false/\okN 8 (kyE (cd,t))=true then some (ZY xs (kyE (cd,t))) else none
   |none=>none).join=_
  rw[g.get c.ke];show(if Xj (ks.map (enE m rs L))=false/\okN 8 (kyE (cd,t))=true then some (ZY (ks.map (enE m rs L)) (kyE (cd,t))) else none).join=_
  rw[if_pos ⟨ZaM,Qy⟩,Vl,if_pos h];rfl
 rw[this])
def Ya(a:Cd)(ks:Li Ky)(l:Li (Li Int)):Li Ky:=l.foldl (λks t=>Xd ks (a,t)) ks
variable{st3 st4:Za}
theorem ZfN(g:ev F e U st=some (d,st1))(f:ev F a U st1=some (.dic w,st2))(c:ev F b U st2=some (.tup xs,st3))(h:dput w (.tup xs) d st3=some st4):ex F (.dput i a b e) U st=some (.nx U,st4):=by
 show Wn (ev F a) (ev F b) (ev F e) U st=_;unfold Wn;simp only[g,f,c,h]
theorem Xr{c:Int}(g:ev F e U st=some (d,st1))(h:U[i]?=some (some (.dic w)))(b:st1[w]?=some (true,.int c :: es))(a:es.length < 900):ex F (.fset i f e) U st=some (.nx U,st1.set w (true,.int c :: Ym f d es)):=by
 show VQ i f (ev F e) U st=_;unfold VQ;simp only[g,h,b];rw[if_pos a]
theorem ZbR:Ym (S "done") (.int ((dn+1:Nat):Int)) (bkF tk m rs tr L kp dn)=bkF tk m rs tr L kp (dn+1):=by
 have b:∀ {x:Str},decide (x=x)=true:=aG rfl;have a:decide (S "program"=S "done")=false/\decide (S "trials"=S "done")=false/\decide (S "limit"=S "done")=false/\decide (S "kept"=S "done")=false:=by decide +kernel
 obtain⟨f,e,d,c⟩:=a;unfold bkF;simp only[Ym,isK,b,f,e,d,c,dB,if_false,if_true];rfl
theorem ZgK(a:Fit m rs tr L)(c:Uv rs cd):Rs m (rO rs cd):=by
 cases cd with
 |none=>exact a.r
 |some p=>
  obtain⟨u,b,rfl⟩:=aR.mp (show p∈(fkL rs).map λp=>(p.1,p.2.2) from c)
  exact a.r.set (UL a.r b).2
theorem ZeB{l:Li D}(h:l≠[]):(x :: l).getLastD y=l.getLastD y:=by
 cases l with
 |nil=>exact absurd rfl h
 |cons a l=>rfl
theorem Kb.setK{c:Z8}:Kb bo kp st (st.set kp c):=⟨λi h b a=>by rw[bK (Ne.symm a)],by rw[bF];exact aD _⟩
theorem Kb.setB{c:Z8}:Kb bo kp st (st.set bo c):=⟨λi h a b=>by rw[bK (Ne.symm a)],by rw[bF];exact aD _⟩
theorem V2{k:Ky}:(Xd ks k).length<=ks.length+1:=by
 unfold Xd;split
 .omega
 .rw[aK];exact aD _
theorem ZdY(hn:ks.length < 900000)(o:Fit m rs tr L)(c:Bk tk m rs tr L bo kp ks s)(Z:Uv rs cd)(X:t∈tr):∃ st',rT (n+7) 266 [.dic bo,kdE cd,inD t] s=some (oD (ocP m (rO rs cd) L t),st')/\Kb bo kp s st'/\Bk tk m rs tr L bo kp (Xd ks (cd,t)) st':=by
 have f1:=λdn=>YY (tk:=tk) (m:=m) (rs:=rs) (tr:=tr) (L:=L) (kp:=kp) (dn:=dn)
 have x:∀ {s:Za}{ks:Li Ky}{z:Ot D},Bk tk m rs tr L bo kp ks s->(cd,t)∈ks->Y (rT (n+6)) s (.ix (.ix (.fld (S "kept") (.v 0)) (.tupE (.aC (.v 1) (.u (.v 2))))) (.i 0)) [some (.dic bo),some (kdE cd),some (inD t),z] (oD (ocP m (rO rs cd) L t)):=λc h=>.ixt (j:=0) (xs:=[oD (ocP m (rO rs cd) L t),.int (YQ (sn (rO rs cd) L 0 (v0 m t)):Int)]) (.kv (cd:=cd) (t:=t) c (.r rf) (.fl c.ob (.r rf) (f1 _).2.2.2.1) h) (.r rf) rfl
 obtain⟨Q,A,p⟩:=Y.ky (F:=rT (n+6)) (cd:=cd) (t:=t) (a:=.tupE (.aC (.v 1) (.u (.v 2)))) (b:=.fld (S "kept") (.v 0)) (U:=[some (.dic bo),some (kdE cd),some (inD t),none]) c (.r rf) (.fl c.ob (.r rf) (f1 _).2.2.2.1) s .refl;unfold Xd;by_cases h:(cd,t)∈ks
 .rw[aG h]at A
  obtain⟨C,O,w⟩:=x (z:=none) (c.grw p) h Q .refl;rw[if_pos h];exact⟨C,Yd (v:=c_Book_outcome_of) rfl rfl ((Zc ((ZR A).trans Ze)).trans (Zp (ZK O))),(p.trans w).kb,c.grw (p.trans w)⟩
 .rw[aF h]at A
  rw[if_neg h];have R:=ZgK o Z;have B:=o.t.l t X;have ts:=o.t.s t X;have mb:=o.b;have y3:Y (rT (n+6)) s (.call 12 (.aC (.meth [(263,265)] (.v 0) (.u (.v 1))) (.aC (.v 2) (.u (.fld (S "limit") (.v 0))))) []) [some (.dic bo),some (kdE cd),some (inD t),none] (.tup (stD 0 (v0 m t) :: tl (rO rs cd) L 0 (v0 m t))):=.call (xs:=[pgD tk m (rO rs cd),inD t,.int (L:Int)]) (.cons (.meth c.ob (.r rf) rfl (.cons (.r rf) .nil) (ZfV o c Z)) (.cons (.r rf) (.cons (.fl c.ob (.r rf) (f1 _).2.2.1) .nil))) (Zby R (by omega) B ts o.l)
  obtain⟨C,O,w⟩:=y3 Q p;have lo:(stD 0 (v0 m t) :: tl (rO rs cd) L 0 (v0 m t)).getLastD .non=oD (ocP m (rO rs cd) L t):=by
   rw[ZeB QF,Vx,ZeL];rfl
  have hL:=o.l;have ll:(stD 0 (v0 m t) :: tl (rO rs cd) L 0 (v0 m t)).length<=100000:=by
   have:=U4 (rs:=rO rs cd) (M:=L) (k:=0) (vs:=v0 m t);rw[aQ];omega
  have rl:=R.l;have y4:Y (rT (n+6)) s (.tupE (.aC (.ix (.v 3) (.neg (.i 1))) (.u (.call 44 (.u (.v 3)) [])))) [some (.dic bo),some (kdE cd),some (inD t),some (.tup (stD 0 (v0 m t) :: tl (rO rs cd) L 0 (v0 m t)))] (vlE m rs L (cd,t)):=.cons (by rw[<-lo];exact .lastT (.r rf) (eJ _ _) ll) (.cons (.call1 (.r rf) (ZdZ hL λz hz=>by have:=ZdM z hz;omega)) .nil)
  obtain⟨s3,e3,k3⟩:=y4 C (p.trans w);have g3:=p.trans (w.trans k3);obtain⟨y,e4,k4⟩:=Y.fl (F:=rT (n+6)) (a:=.v 0) (U:=[some (.dic bo),some (kdE cd),some (inD t),some (.tup (stD 0 (v0 m t) :: tl (rO rs cd) L 0 (v0 m t)))]) c.ob (.r rf) (f1 _).2.2.2.1 s3 g3;have N:=g3.trans k4;have K:=N.get c.ke;have ho:=N.get c.ob;have T:dput kp (kyE (cd,t)) (vlE m rs L (cd,t)) y=some (y.set kp (true,(ks++[(cd,t)]).map (enE m rs L))):=by
   unfold dput;rw[K];show(if (Xj (ks.map (enE m rs L))=false/\okN 8 (kyE (cd,t))=true)/\Ww (vlE m rs L (cd,t))=true/\(ks.map (enE m rs L)).length < Zm then (if (ks.map (enE m rs L)).any (XT (kyE (cd,t)))=false then _ else _) else none)=_
   rw[if_pos ⟨⟨ZaM,Qy⟩,rfl,by rw[aE];unfold Zm;omega⟩,if_pos (by rw[Jt,aF h]),bN]
   rfl
  obtain⟨g,e⟩:∃ g,y.set kp (true,(ks++[(cd,t)]).map (enE m rs L))=g:=⟨_,rfl⟩;have V:g[bo]?=some (true,.int 263 :: bkF tk m rs tr L kp ks.length):=by rw[<-e,Zv (Zh K),if_neg (Ne.symm c.ne)];exact ho
  have d5:g[kp]?=some (true,(ks++[(cd,t)]).map (enE m rs L)):=by rw[<-e,Zv (Zh K),if_pos rfl]
  have I:Kb bo kp y g:=by rw[<-e];exact .setK
  rw[e]at T;have y6:Y (rT (n+6)) g (.bin .Add (.fld (S "done") (.v 0)) (.i 1)) [some (.dic bo),some (kdE cd),some (inD t),some (.tup (stD 0 (v0 m t) :: tl (rO rs cd) L 0 (v0 m t)))] (.int ((ks.length+1:Nat):Int)):=by
   rw[cD];exact .add (.fl V (.r rf) (f1 _).2.2.2.2) (.r rf)
  obtain⟨P,e6,J⟩:=y6 g .refl;have G:=J.get V;have E:=Xr (f:=S "done") (i:=0) e6 rfl G (by show 5 < 900;decide)
  rw[ZbR]at E;obtain⟨q,d⟩:∃ q,P.set bo (true,.int 263 :: bkF tk m rs tr L kp (ks.length+1))=q:=⟨_,rfl⟩;rw[d]at E;have b7:Bk tk m rs tr L bo kp (ks++[(cd,t)]) q:=by
   refine⟨?_,?_,c.ne⟩
   .rw[<-d,Zv (Zh G),if_pos rfl,aK];rfl
   .rw[<-d,Zv (Zh G),if_neg c.ne];exact J.get d5
  have H:Kb bo kp P q:=by rw[<-d];exact .setB
  obtain⟨s8,e8,W⟩:=x (z:=some (.tup (stD 0 (v0 m t) :: tl (rO rs cd) L 0 (v0 m t)))) b7 (aU.mpr (.inr lQ7)) q .refl;exact⟨s8,Yd (v:=c_Book_outcome_of) rfl rfl ((Zc ((Z9 A).trans ((Zc (Zk O)).trans ((Zc (ZfN e3 e4 rfl T)).trans ((Zc E).trans Ze))))).trans (Zp (ZK e8))),N.kb.trans (I.trans (J.kb.trans (H.trans W.kb))),b7.grw W⟩
theorem XD{l:Li (Li Int)}:∀ {ks:Li Ky},(Ya cd ks l).length<=ks.length+l.length:=by
 induction l with
 |nil=>intro ks;exact aD _
 |cons t l a=>
  intro ks;have c:(Ya cd (Xd ks (cd,t)) l).length<=_:=a;have b:=V2 (ks:=ks) (k:=(cd,t));show(Ya cd (Xd ks (cd,t)) l).length<=_;rw[aQ];omega
theorem ZaR(j:Fit m rs tr L)(n:Uv rs cd){F:Nat->Fn}{g:D->Za->Res}(c:∀ t ks s,t∈tr->ks.length < 900000->Bk tk m rs tr L bo kp ks s->∃ st',g (inD t) s=some (oD (ocP m (rO rs cd) L t),st')/\Kb bo kp s st'/\Bk tk m rs tr L bo kp (Xd ks (cd,t)) st'):∀ {l:Li (Li Int)}{ks:Li Ky}{s:Za},(∀ t∈l,t∈tr)->ks.length+l.length < 900000->Bk tk m rs tr L bo kp ks s->∃ st',ZI (λ_=>True) g (λ_ st=>some (.bl true,st)) (l.map inD) s=some ((l.map (ocP m (rO rs cd) L)).map oD,st')/\Kb bo kp s st'/\Bk tk m rs tr L bo kp (Ya cd ks l) st'
 |[],ks,s,_,_,a=>⟨s,if_pos trivial,Grw.refl.kb,a⟩
 |t :: l,ks,s,b,i,a=>by
  rw[aQ]at i;obtain⟨v,p,f,r⟩:=c t ks s (b t lQ7) (by omega) a
  have w:=V2 (ks:=ks) (k:=(cd,t));obtain⟨d,o,e,q⟩:=ZaR j n (F:=F) c (l:=l) (λu h=>b u (lM7 _ h)) (by omega) r
  refine⟨d,?_,f.trans e,q⟩;rw[aM,ZI,if_pos trivial];simp only[p,o,aM]
theorem Jo(q:ks.length < 800000)(i:Fit m rs tr L)(e:Bk tk m rs tr L bo kp ks s)(w:Uv rs cd):∃ st' j,rT (n+8) 267 [.dic bo,kdE cd] s=some (.lst j,st')/\st'[j]?=some (true,(tr.map (ocP m (rO rs cd) L)).map oD)/\s.length<=j/\Kb bo kp s st'/\Bk tk m rs tr L bo kp (Ya cd ks tr) st':=by
 have B:=i.t.n;obtain⟨f,k,b⟩:=Y.fl (F:=rT (n+7)) (a:=.v 0) (U:=[some (.dic bo),some (kdE cd)]) e.ob (.r rf) (YY (tk:=tk) (m:=m) (rs:=rs) (tr:=tr) (L:=L) (kp:=kp) (dn:=ks.length)).2.1 s .refl;obtain⟨o,y,p,z⟩:=ZaR i w (F:=rT (n+7)) (g:=λd s=>ev (rT (n+7)) (.meth [(263,266)] (.v 2) (.aC (.v 1) (.u (.v 0)))) (ZQ one [some (.dic bo),some (kdE cd)] [1,0] d) s) (λt ks s x q e=>by
  obtain⟨f,k,b,A⟩:=ZdY (n:=n) q i e w x;exact⟨f,(XU (st':=s) e.ob rfl rfl rfl).trans k,b,A⟩) (l:=tr) (λ_ h=>h) (by omega) (e.grw b)
 refine⟨o++[(true,(tr.map (ocP m (rO rs cd) L)).map oD)],o.length,Yd (v:=c_Book_outcomes_of) rfl rfl (Zp (ZK ?_)),Zu,aP b.len p.len,b.kb.trans (p.trans Grw.push.kb),z.grw .push⟩;show Ye one (Yt false) [1,0] (ev (rT (n+7)) (.fld (S "trials") (.v 0))) (ev (rT (n+7)) (.meth [(263,266)] (.v 2) (.aC (.v 1) (.u (.v 0))))) (ev (rT (n+7)) (.c (.bl true))) [some (.dic bo),some (kdE cd)] s=_
 unfold Ye;rw[k];show(if (tr.map inD).length<=1000 then _ else none)=_
 rw[if_pos (by rw[aE];omega)]
 show(match ZI (λ_=>True) (λd s=>ev (rT (n+7)) (.meth [(263,266)] (.v 2) (.aC (.v 1) (.u (.v 0)))) (ZQ one [some (.dic bo),some (kdE cd)] [1,0] d) s) (λ_ st=>some (.bl true,st)) (tr.map inD) f with
  |some (ys,st2)=>some (D.lst st2.length,st2++[(true,ys)])
  |none=>none)=_
 rw[y]
def Wi(a:Li (Li Int))(ks:Li Ky)(l:Li (Nat×Rw)):Li Ky:=l.foldl (λks p=>Ya (some p) ks a) ks
variable{j0 j1:Nat}
theorem Zaz{l:Li (Nat×Rw)}:∀ {ks:Li Ky},(Wi tr ks l).length<=ks.length+l.length * tr.length:=by
 induction l with
 |nil=>intro ks;show ks.length<=_;omega
 |cons p l a=>
  intro ks;have c:(Wi tr (Ya (some p) ks tr) l).length<=_:=a;have b:=XD (cd:=some p) (ks:=ks) (l:=tr);show(Wi tr (Ya (some p) ks tr) l).length<=_;rw[aQ,Nat.add_mul];omega
theorem Jy{i:Z8}{b0:Bool}(q:Fit m rs tr L){g:D->Za->Res}(h:∀ p ks s,p∈cdL rs->ks.length < 800000->Bk tk m rs tr L bo kp ks s->s[j0]?=some (b0,(tr.map (ocP m rs L)).map oD)->∃ st',g (kdE (some p)) s=some (.int (btL m rs L tr p:Int),st')/\Kb bo kp s st'/\Bk tk m rs tr L bo kp (Ya (some p) ks tr) st')(a:j0≠bo/\j0≠kp/\j1≠bo/\j1≠kp):∀ {l:Li (Nat×Rw)}{ks:Li Ky}{s:Za},(∀ p∈l,p∈cdL rs)->ks.length+l.length * tr.length < 800000->Bk tk m rs tr L bo kp ks s->s[j0]?=some (b0,(tr.map (ocP m rs L)).map oD)->s[j1]?=some i->∃ st',ZI (λs=>s[j1]?=some i) g (λ_ st=>some (.bl true,st)) (l.map λp=>kdE (some p)) s=some (l.map λp=>.int (btL m rs L tr p:Int),st')/\Kb bo kp s st'/\Bk tk m rs tr L bo kp (Wi tr ks l) st'
 |[],ks,s,_,_,d,e,b=>⟨s,if_pos b,Grw.refl.kb,d⟩
 |p :: l,ks,s,f,o,d,e,b=>by
  rw[aQ,Nat.add_mul]at o;obtain⟨x,t,c,w⟩:=h p ks s (f p lQ7) (by omega) d e
  have y:=XD (cd:=some p) (ks:=ks) (l:=tr);obtain⟨j,r,k,v⟩:=Jy q h a (l:=l) (λu n=>f u (lM7 _ n)) (by omega) w (c.get e a.1 a.2.1) (c.get b a.2.2.1 a.2.2.2)
  refine⟨j,?_,c.trans k,v⟩;rw[aM,ZI,if_pos b];simp only[t,r,aM]
def Wh(rs:Li Rw)(tr:Li (Li Int))(ks:Li Ky):Li Ky:=Wi tr (Ya none ks tr) (cdL rs)
theorem ZdS(B:ks.length < 700000)(f:Fit m rs tr L)(b:Bk tk m rs tr L bo kp ks s):∃ st',rT (n+9) 268 [.dic bo] s=some (.tup ((cdL rs).map λp=>.int (btL m rs L tr p:Int)),st')/\Kb bo kp s st'/\Bk tk m rs tr L bo kp (Wh rs tr ks) st':=by
 have H:=f.t.n;have fl:=Xz (rs:=rs);have rl:=f.r.l;have cl:(cdL rs).length<=600:=by unfold cdL;rw[aE];omega
 have cm:(cdL rs).length * tr.length<=600 * 11:=Nat.mul_le_mul cl H;have N:=Zh b.ob;have M:=Zh b.ke;obtain⟨e,j0,e1,T,g1,A,E⟩:=Jo (n:=n) (cd:=none) (by omega) f b trivial
 have J:ex (rT (n+8)) (.set 1 (.meth [(263,267)] (.v 0) (.u (.c (.tup []))))) [some (.dic bo),none] s=some (.nx [some (.dic bo),jL j0],e):=Zk ((XU (st':=s) b.ob rfl rfl rfl).trans e1);obtain⟨k,e2,j⟩:=Y.fl (F:=rT (n+8)) (a:=.v 0) (U:=[some (.dic bo),jL j0]) E.ob (.r rf) (YY (tk:=tk) (m:=m) (rs:=rs) (tr:=tr) (L:=L) (kp:=kp) (dn:=(Ya none ks tr).length)).1 e .refl
 obtain⟨i,j1,e3,C,o,l3⟩:=Zbv (n:=n+3) (tk:=tk) f.r k (.refl:Grw k k);have c3:ev (rT (n+8)) (.call 262 (.u (.fld (S "program") (.v 0))) []) [some (.dic bo),jL j0] e=some (.lst j1,i):=by
  show Zn (Zz (ev (rT (n+8)) (.fld (S "program") (.v 0))) (ev (rT (n+8)) .aN) Xv) (WS (rT (n+8) 262) []) [some (.dic bo),jL j0] e=_;unfold Zn Zz;rw[e2];exact e3
 have b3:=E.grw (j.trans o);have q1:=A.len;have q2:=j.len;have la:=XD (cd:=none) (ks:=ks) (l:=tr);obtain⟨x,Z,O,b4⟩:=Jy (g:=λd s=>ev (rT (n+8)) (.call 183 (.aC (.v 1) (.u (.meth [(263,267)] (.v 2) (.u (.v 0))))) []) (ZQ one [some (.dic bo),jL j0] [1,0] d) s) (j0:=j0) (j1:=j1) (b0:=true) f (λp ks s Q B b V=>by
  have N:=Zh b.ob;have M:=Zh b.ke;obtain⟨w,P,X,R,g5,z,b5⟩:=Jo (n:=n) (cd:=some p) B f b Q;have q:=z.get V (by omega) (by omega)
  obtain⟨I,W,y⟩:=Zg1 (n:=n+7) (os:=tr.map (ocP m rs L)) (pq:=tr.map (ocP m (rs.set p.1 p.2) L)) q R w .refl;refine⟨I,?_,z.trans y.kb,b5.grw y⟩;have K:ev (rT (n+8)) (.meth [(263,267)] (.v 2) (.u (.v 0))) [some (kdE (some p)),jL j0,some (.dic bo)] s=some (.lst P,w):=(XU (st':=s) b.ob rfl rfl rfl).trans X;show Zn (Zz (ev (rT (n+8)) (.v 1)) (Zz (ev (rT (n+8)) (.meth [(263,267)] (.v 2) (.u (.v 0)))) (ev (rT (n+8)) .aN) Xv) Xv) (WS (rT (n+8) 183) []) [some (kdE (some p)),jL j0,some (.dic bo)] s=_
  unfold Zn Zz;rw[show ev (rT (n+8)) (CE.v 1) [some (kdE (some p)),some (D.lst j0),some (D.dic bo)] s=some (.lst j0,s) from rfl];dsimp only;rw[K];exact W) ⟨by omega,by omega,by omega,by omega⟩ (l:=cdL rs) (λ_ h=>h) (by omega) b3 ((j.trans o).get T) C
 have c4:ev (rT (n+8)) Xc [some (.dic bo),jL j0] e=some (.lst x.length,x++[(true,(cdL rs).map λp=>.int (btL m rs L tr p:Int))]):=by
  show Ye one (Yt false) [1,0] (ev (rT (n+8)) (.call 262 (.u (.fld (S "program") (.v 0))) [])) (ev (rT (n+8)) (.call 183 (.aC (.v 1) (.u (.meth [(263,267)] (.v 2) (.u (.v 0))))) [])) (ev (rT (n+8)) (.c (.bl true))) [some (.dic bo),jL j0] e=_;unfold Ye;rw[c3];have G:Yt false (.lst j1) i=some ((cdL rs).map λp=>kdE (some p),λs=>s[j1]?=some (true,(cdL rs).map λp=>kdE (some p))):=by
   show(match i[j1]? with
    |some c=>some (c.2,λ(s:Za)=>s[j1]?=some c)
    |none=>none)=_
   rw[C]
  simp only[G];rw[if_pos (by rw[aE];omega)]
  show(match ZI (λs=>s[j1]?=some (true,(cdL rs).map λp=>kdE (some p))) (λd s=>ev (rT (n+8)) (.call 183 (.aC (.v 1) (.u (.meth [(263,267)] (.v 2) (.u (.v 0))))) []) (ZQ one [some (.dic bo),jL j0] [1,0] d) s) (λ_ st=>some (.bl true,st)) ((cdL rs).map λp=>kdE (some p)) i with
   |some (ys,st2)=>some (D.lst st2.length,st2++[(true,ys)])
   |none=>none)=_
  rw[Z]
 exact⟨_,Yd (v:=c_Book_bits) rfl rfl ((Zc J).trans (Zp (ZK (Yg c4 Zu)))),A.trans ((j.trans o).kb.trans (O.trans Grw.push.kb)),b4.grw .push⟩
theorem Jq(a:Bk tk m rs tr L bo kp ks s):C (rT (n+1)) s 269 [.dic bo] (.int (ks.length:Int)):=.of (v:=c_Book_runs) rfl rfl (.ret (.fl a.ob (.r rf) YY.2.2.2.2))
theorem Zdi(a:Bk tk m rs tr L bo kp ks s):C (rT (n+1)) s 270 [.dic bo] (pgD tk m rs):=.of (v:=c_Book_now) rfl rfl (.ret (.fl a.ob (.r rf) YY.1))
def unq(a:Li (Li Int)):Li Nat:=(List.range a.length).filter λi=>!decide (a.getD i []∈a.take i)
section
variable{l:Li (Li Int)}{z:Ky}
theorem ZaF:z∈Xd ks (cd,t)↔z∈ks\/z=(cd,t):=by
 unfold Xd;split
 .rename_i h
  exact⟨.inl,λa=>a.elim id λe=>e ▸ h⟩
 .rw[aU,aJ]
theorem mem_addT:∀ {l:Li (Li Int)}{ks:Li Ky},z∈Ya cd ks l↔z∈ks\/∃ t∈l,z=(cd,t)
 |[],ks=>⟨.inl,λh=>h.elim id λ⟨_,h,_⟩=>nomatch h⟩
 |t :: l,ks=>by
  show z∈Ya cd (Xd ks (cd,t)) l↔_;rw[mem_addT,ZaF];constructor
  .rintro((h|h)|⟨u,hu,h⟩)
   .exact .inl h
   .exact .inr ⟨t,lQ7,h⟩
   .exact .inr ⟨u,lM7 _ hu,h⟩
  .rintro(h|⟨u,hu,h⟩)
   .exact .inl (.inl h)
   .rcases aH.mp hu with rfl|hu
    .exact .inl (.inr h)
    .exact .inr ⟨u,hu,h⟩
theorem WQ(h:∀ t,(cd,t)∉ks):∀ i,i<=tr.length->(Ya cd ks (tr.take i)).length=ks.length+((List.range i).filter λi=>!decide (tr.getD i []∈tr.take i)).length
 |0,_=>rfl
 |i+1,m=>by
  have g:=WQ h i (by omega)
  have a:i < tr.length:=by omega
  have l:tr.take (i+1)=tr.take i++[tr[i]]:=by rw[List.take_succ,lG7 a];rfl
  have k:Ya cd ks (tr.take (i+1))=Xd (Ya cd ks (tr.take i)) (cd,tr[i]):=by
   rw[l];unfold Ya;rw[List.foldl_append];rfl
  have f:tr.getD i []=tr[i]:=by rw[eI,lG7 a];rfl
  rw[k,List.range_succ,List.filter_append,aK,<-cT,<-g];have d:(cd,tr[i])∈Ya cd ks (tr.take i)↔tr[i]∈tr.take i:=by
   rw[mem_addT];exact⟨λb=>b.elim (λb=>absurd b (h _)) λ⟨t,j,e⟩=>by injection e with _ e;rw[e];exact j,λb=>.inr ⟨_,b,rfl⟩⟩
  unfold Xd;by_cases c:tr[i]∈tr.take i
  .rw[if_pos (d.mpr c),List.filter_cons_of_neg (by rw[f,aG c];decide)];rfl
  .rw[if_neg (λh=>c (d.mp h)),List.filter_cons_of_pos (by rw[f,aF c];rfl),aK];rfl
theorem ZdA(h:∀ t,(cd,t)∉ks):(Ya cd ks tr).length=ks.length+(unq tr).length:=by
 have:=WQ (tr:=tr) h tr.length (aD _);rw[List.take_length]at this;exact this
theorem Ua:∀ {l:Li (Nat×Rw)}{ks:Li Ky},z∈Wi tr ks l↔z∈ks\/∃ p∈l,∃ t∈tr,z=(some p,t)
 |[],ks=>⟨.inl,λh=>h.elim id λ⟨_,h,_⟩=>nomatch h⟩
 |p :: l,ks=>by
  show z∈Wi tr (Ya (some p) ks tr) l↔_;rw[Ua,mem_addT];constructor
  .rintro((h|h)|⟨u,hu,h⟩)
   .exact .inl h
   .exact .inr ⟨p,lQ7,h⟩
   .exact .inr ⟨u,lM7 _ hu,h⟩
  .rintro(h|⟨u,hu,h⟩)
   .exact .inl (.inl h)
   .rcases aH.mp hu with rfl|hu
    .exact .inl (.inr h)
    .exact .inr ⟨u,hu,h⟩
theorem Zdz:∀ {l:Li (Nat×Rw)}{ks:Li Ky},l.Nodup->(∀ p∈l,∀ t,(some p,t)∉ks)->(Wi tr ks l).length=ks.length+l.length * (unq tr).length
 |[],ks,_,_=>by show ks.length=_;rw[cU];omega
 |p :: l,ks,c,h=>by
  rw[bM]at c;have d:(Wi tr (Ya (some p) ks tr) l).length=_:=Zdz c.2 λu a t b=>by
   rcases mem_addT.mp b with b|⟨v,_,e⟩
   .exact h u (lM7 _ a) t b
   .injection e with e _;injection e with e;rw[e]at a;exact c.1 a
  show(Wi tr (Ya (some p) ks tr) l).length=_;rw[d,ZdA (h p lQ7),aQ,Nat.add_mul];omega
theorem Zgz(b:Rs m rs):(Wh rs tr []).length=(unq tr).length * (1+(cdL rs).length):=by
 have d:∀ p∈cdL rs,∀ t,(some p,t)∉Ya none [] tr:=λp _ t a=>by
  rcases mem_addT.mp a with a|⟨v,_,e⟩
  .cases a
  .injection e with e _;cases e
 have c:=ZdA (cd:=none) (ks:=[]) (tr:=tr) (λ_ h=>nomatch h)
 unfold Wh;rw[Zdz (JG b) d,c,Nat.mul_add,Nat.mul_one,Nat.mul_comm,cU,bG]
theorem Zep{v1 v2 v3 v4 v5:D}:Ym (S "program") v1 []=[.tup [.str "program",v1]]/\Ym (S "trials") v2 [.tup [.str "program",v1]]=[.tup [.str "program",v1],.tup [.str "trials",v2]]/\Ym (S "limit") v3 [.tup [.str "program",v1],.tup [.str "trials",v2]]=[.tup [.str "program",v1],.tup [.str "trials",v2],.tup [.str "limit",v3]]/\Ym (S "kept") v4 [.tup [.str "program",v1],.tup [.str "trials",v2],.tup [.str "limit",v3]]=[.tup [.str "program",v1],.tup [.str "trials",v2],.tup [.str "limit",v3],.tup [.str "kept",v4]]/\Ym (S "done") v5 [.tup [.str "program",v1],.tup [.str "trials",v2],.tup [.str "limit",v3],.tup [.str "kept",v4]]=[.tup [.str "program",v1],.tup [.str "trials",v2],.tup [.str "limit",v3],.tup [.str "kept",v4],.tup [.str "done",v5]]:=by
 have b:decide (S "program"=S "trials")=false/\decide (S "program"=S "limit")=false/\decide (S "program"=S "kept")=false/\decide (S "program"=S "done")=false/\decide (S "trials"=S "limit")=false/\decide (S "trials"=S "kept")=false/\decide (S "trials"=S "done")=false/\decide (S "limit"=S "kept")=false/\decide (S "limit"=S "done")=false/\decide (S "kept"=S "done")=false:=by decide +kernel
 obtain⟨k,j,i,h,g,f,e,d,c,a⟩:=b;refine⟨rfl,?_,?_,?_,?_⟩<;>simp only[Ym,isK,k,j,i,h,g,f,e,d,c,a,dB,if_false]
theorem ZdT(B:tr.length<=10)(C:st[bo]?=some (true,[.int 263])):∃ st' kp,rT (n+2) 264 [.dic bo,pgD tk m rs,.tup (tr.map inD),.int (L:Int)] st=some (.non,st')/\Kj bo st st'/\Bk tk m rs tr L bo kp [] st'/\st.length<=kp:=by
 obtain⟨k,J,o⟩:=Y.call1 (F:=rT (n+1)) (s:=st) (a:=.v 2) (U:=[some (.dic bo),some (pgD tk m rs),some (.tup (tr.map inD)),jN L]) (.r rf) (U7 (n:=n) (s:=st) (xs:=tr.map inD) (by rw[aE];exact B)) st .refl
 have y:=o.get C;have st1:∀ {s:Za}{c c':Z8},s[bo]?=some c->(s.set bo c')[bo]?=some c':=λh=>by rw[Zv (Zh h),if_pos rfl]
 have kj:∀ {s:Za}{c':Z8},Kj bo s (s.set bo c'):=λ{s c'}=>⟨λi _ h=>by rw[bK (Ne.symm h)],by rw[bF];exact aD _⟩
 obtain⟨b,g⟩:∃ b,((k.set bo (true,[.int 263,.tup [.str "program",pgD tk m rs]])).set bo (true,[.int 263,.tup [.str "program",pgD tk m rs],.tup [.str "trials",.tup (tr.map inD)]])).set bo (true,[.int 263,.tup [.str "program",pgD tk m rs],.tup [.str "trials",.tup (tr.map inD)],.tup [.str "limit",.int (L:Int)]])=b:=⟨_,rfl⟩;obtain⟨f1,I,H,G,E⟩:=Zep (v1:=pgD tk m rs) (v2:=.tup (tr.map inD)) (v3:=.int (L:Int)) (v4:=.dic b.length) (v5:=.int ((0:Nat):Int))
 have w:=Xr (F:=rT (n+1)) (U:=[some (.dic bo),some (pgD tk m rs),some (.tup (tr.map inD)),jN L]) (i:=0) (f:=S "program") (e:=.v 1) (st:=k) rfl rfl y (by decide)
 rw[f1]at w;have o2:=st1 (c':=(true,[.int 263,.tup [.str "program",pgD tk m rs]])) y;have u:=Xr (F:=rT (n+1)) (U:=[some (.dic bo),some (pgD tk m rs),some (.tup (tr.map inD)),jN L]) (i:=0) (f:=S "trials") (e:=.v 2) rfl rfl o2 (by show 1 < 900;decide)
 rw[I]at u;have o3:=st1 (c':=(true,[.int 263,.tup [.str "program",pgD tk m rs],.tup [.str "trials",.tup (tr.map inD)]])) o2;have l:=Xr (F:=rT (n+1)) (U:=[some (.dic bo),some (pgD tk m rs),some (.tup (tr.map inD)),jN L]) (i:=0) (f:=S "limit") (e:=.v 3) rfl rfl o3 (by show 2 < 900;decide)
 rw[H]at l;have j:=st1 (c':=(true,[.int 263,.tup [.str "program",pgD tk m rs],.tup [.str "trials",.tup (tr.map inD)],.tup [.str "limit",.int (L:Int)]])) o3;rw[g]at l j;have q:=Xr (F:=rT (n+1)) (U:=[some (.dic bo),some (pgD tk m rs),some (.tup (tr.map inD)),jN L]) (i:=0) (f:=S "kept") (e:=.dnew) (st:=b) (d:=.dic b.length) (st1:=b++[(true,[])]) rfl rfl (Grw.push.get j) (by show 3 < 900;decide)
 rw[G]at q;have x:=st1 (c':=(true,[.int 263,.tup [.str "program",pgD tk m rs],.tup [.str "trials",.tup (tr.map inD)],.tup [.str "limit",.int (L:Int)],.tup [.str "kept",.dic b.length]])) ((Grw.push (t:=(true,[]))).get j);have p:=Xr (F:=rT (n+1)) (U:=[some (.dic bo),some (pgD tk m rs),some (.tup (tr.map inD)),jN L]) (i:=0) (f:=S "done") (e:=.i 0) rfl rfl x (by show 4 < 900;decide)
 rw[show D.int 0=.int ((0:Nat):Int) from rfl,E]at p;have A:=st1 (c':=(true,.int 263 :: bkF tk m rs tr L b.length 0)) x;have K:=Zh j;have z:Kj bo k b:=by rw[<-g];exact kj.trans (kj.trans kj)
 refine⟨_,b.length,Zfi (v:=c_Book___init__) rfl rfl ((Zc (QI J)).trans ((Zc w).trans ((Zc u).trans ((Zc l).trans ((Zc q).trans ((Zc p).trans Ze)))))),o.kj.trans (z.trans ((Grw.push (t:=(true,[]))).kj.trans (kj.trans kj))),⟨A,?_,by omega⟩,aP o.len z.len⟩
 rw[bK (by omega),bK (by omega)]
 exact Zu
theorem ZgA(f:tr.length<=10)(h:ev (rT (n+2)) a U st=some (.tup xs,st1))(e:xs++ds=[pgD tk m rs,.tup (tr.map inD),.int (L:Int)]):∃ st' kp,ev (rT (n+2)) (.mk 263 264 a ds) U st=some (.dic st1.length,st')/\Grw st1 st'/\Bk tk m rs tr L st1.length kp [] st'/\st1.length<=kp:=by
 obtain⟨b,kp,g,d,i,c⟩:=ZdT (n:=n) (tk:=tk) (m:=m) (rs:=rs) (L:=L) (bo:=st1.length) f (Zu (s:=st1) (t:=(true,[.int 263])));refine⟨b,kp,?_,d.grw (aD _) .push,i,?_⟩
 .show Zn (ev (rT (n+2)) a) (mkR (rT (n+2)) 263 264 ds) U st=_
  unfold Zn;rw[h];show(match rT (n+2) 264 (.dic st1.length :: (xs++ds)) (st1++[(true,[.int 263])]) with
   |some (.non,st')=>some (D.dic st1.length,st')
   |_=>none)=_
  rw[e,g]
 .rw[aK]at c;omega
end
end Dp
namespace Dp
open PySem PySem.Spec PyProof.Rows L2
variable [ClsTab]
abbrev Zcj:CE:=.bin .Add (.fld (S "trials") (.v 0)) (.tupE (.u (.v 1)))
def Je(ds:Li D)(st:Za)(z:Int):Prop:=z=11/\∃ a b es d c,ds=[.dic a,d]/\st[a]?=some (b,.int 263 :: es)/\ev (rT 0) Zcj [some (.dic a),some d,none] st=some (c,st)/\Vh c st=some 11
variable{d:D}
theorem Zhn{n:Nat}{s a:Za}(h:rT n 910 [] s=some (d,a)):2<=n/\a=s:=by
 match n,h with
 |0,h=>cases (show(none:Res)=some (d,a) from h)
 |1,h=>cases (show(none:Res)=some (d,a) from h)
 |n+2,h=>
  have h:some (D.non,s)=some (d,a):=h;cases h;exact⟨by omega,rfl⟩
variable{F:Nat->Fn}{U:Env}{st st':Za}
theorem ZfY{e:CE}{b:CS}{r:Fl}(h:ex F (.seq (.act e) b) U st=some (r,st')):∃ d s,ev F e U st=some (d,s)/\ex F b U s=some (r,st'):=by
 rcases Za7 (a:=ex F (.act e)) (b:=ex F b) h with⟨k,s,i,g⟩|⟨i,g⟩
 .obtain⟨d,j,c⟩:=Vz (f:=ev F e) i
  cases c;exact⟨d,s,j,g⟩
 .obtain⟨d,j,c⟩:=Vz (f:=ev F e) g
  exact absurd c (i _)
theorem Zhi{c:CE}{r:Fl}(h:ex F (.ite c (.ret (.c (.bl true))) .stop) U st=some (r,st')):ev F c U st=some (.bl true,st')/\r=.rt (.bl true):=by
 have h:YI (ev F c) (ex F (.ret (.c (.bl true)))) (ex F .stop) U st=some (r,st'):=h;unfold YI at h;split at h
 .rename_i a q
  have h:some (Fl.rt (.bl true),a)=some (r,st'):=h;cases h;exact⟨q,rfl⟩
 .cases (show(none:Ot (Fl×Za))=some (r,st') from h)
 .cases h
variable{ds:Li D}
theorem fn2{k m:Nat}{c:CS}(h:fnD F ⟨k,m,c⟩ ds st=some (d,st')):ds.length=k/\∃ r,ex F c (ds.map some++List.replicate (m - ds.length) none) st=some (r,st')/\(r=.rt d\/∃ U,r=.nx U/\d=.non):=by
 unfold fnD at h;split at h
 .rename_i b
  refine⟨b,?_⟩;split at h
  .rename_i e a q;cases h;exact⟨_,q,.inl rfl⟩
  .rename_i f a q;cases h;exact⟨_,q,.inr ⟨_,rfl,rfl⟩⟩
  .cases h
 .cases h
theorem ZaA{e:CE}(h:ev F (.len e) U st=some (d,st')):∃ x z,ev F e U st=some (x,st')/\Vh x st'=some z/\d=.int z:=by
 have h:Zn (ev F e) Vi U st=some (d,st'):=h;unfold Zn at h;split at h
 .rename_i x b q
  unfold Vi at h;split at h
  .rename_i z a;cases h;exact⟨x,z,q,a,rfl⟩
  .cases h
 .cases h
theorem dEl{n:Nat}(h:rT (n+1) 229 ds st=some (d,st')):2<=n/\st'=st/\d=.bl true/\Je ds st 11:=by
 have h:fnD (rT n) ⟨2,4,.seq (.act (.call 910 .aN [])) (.seq (.act (.meth [(263,270)] (.v 0) .aN)) (.ite (.cmp .Eq (.len (.bin .Add (.fld (S "trials") (.v 0)) (.tupE (.u (.v 1))))) (.i 11)) (.ret (.c (.bl true))) .stop))⟩ ds st=some (d,st'):=h;obtain⟨V,r,e,T⟩:=fn2 h
 match ds,V,e with
 |[o,E],_,e=>
 obtain⟨Z,k,R,Y⟩:=ZfY e;obtain⟨M,rfl⟩:=Zhn (show rT n 910 [] st=some (Z,k) from R);obtain⟨K,f,l,X⟩:=ZfY Y;have l:X2 (rT n) [(263,270)] (YE 0) (evC (.tup [])) [some o,some E,none,none,none] k=some (K,f):=l;have l:(match (UH k o).bind λc=>List.lookup c [(263,270)] with
  |some j=>rT n j [o] k
  |none=>none)=some (K,f):=l
 split at l
 .rename_i j C
  obtain⟨c,G,C⟩:=cL.mp C;have J:c=263/\j=270:=by
   rw[bJ]at C;split at C
   .rename_i q;cases C;exact⟨by simpa using q,rfl⟩
   .cases C
  obtain⟨rfl,rfl⟩:=J;have I:f=k:=by
   match n,M,l with
   |m+1,_,l=>
    have l:fnD (rT m) c_Book_now [o] k=some (K,f):=l;obtain⟨_,H,p,_⟩:=fn2 l;have p:Yh (WN (Zn (YE 0) (Xb (S "program")))) (ex (rT m) .skip) [some o] k=some (H,f):=p;have f1:∀ {d s},Xb (S "program") o k=some (d,s)->s=k:=λ{d s} q=>by
     unfold Xb at q;split at q
     .split at q
      .split at q
       .cases q;rfl
       .cases q
      .cases q
     .cases q
    have p:(match (match (match Xb (S "program") o k with|some (d,s)=>some (Fl.rt d,s)|none=>none) with|some (.nx U',s)=>ex (rT m) .skip U' s|r=>r) with|x=>x)=some (H,f):=p
    cases q:Xb (S "program") o k with
    |none=>rw[q]at p;cases p
    |some v=>
     obtain⟨v,s⟩:=v;rw[q]at p;have p:some (Fl.rt v,s)=some (H,f):=p;cases p;exact f1 q
  subst I;obtain⟨Q,rfl⟩:=Zhi X;have A:(match ev (rT n) (.len Zcj) [some o,some E,none,none,none] f with|some (x,B)=>Yx .Eq x (.int 11) B|none=>none)=some (.bl true,st'):=Q
  split at A
  .rename_i x B q
   obtain⟨y,z,g,O,rfl⟩:=ZaA q;have g:(match Xb (S "trials") o f with
    |some (x,s)=>WI .Add x (.tup [E]) s
    |none=>none)=some (y,B):=g
   cases o with
   |dic a=>
    have G:(match f[a]? with
     |some (_,.int c :: _)=>some c.toNat
     |_=>none)=some 263:=G
    split at G
    .rename_i b N es L
     have W:N.toNat=263:=Option.some.inj G;obtain rfl:N=263:=by omega
     have I:B=f:=by
      split at g
      .rename_i x s t
       have t:(match f[a]? with
        |some (_,.int _ :: es)=>(match Yl es (S "trials") with
         |some v=>some (v,f)
         |none=>none)
        |_=>none)=some (x,s):=t
       rw[L]at t;have t:(match Yl es (S "trials") with
        |some v=>some (v,f)
        |none=>none)=some (x,s):=t
       split at t
       .cases t
        cases x with
        |tup xs=>
         have g:(if Wu .Add=true/\xs.length+[E].length<=Zm then some (D.tup (xs++[E]),f) else none)=some (y,B):=g
         split at g
         .cases g;rfl
         .cases g
        |_=>cases g
       .cases t
      .cases g
     subst I;have w:some (D.bl (decide (z=11)),B)=some (.bl true,st'):=A
     injection w with w
     injection w with F P
     injection F with F
     have F:=of_decide_eq_true F;subst F;subst P;refine⟨M,rfl,?_,rfl,a,b,es,E,y,rfl,L,g,O⟩;rcases T with z|⟨U,z,_⟩
     .cases z;rfl
     .cases z
    .cases G
   |_=>cases g
  .cases A
 .cases l
variable{U:Env}{ds:Li D}{st:Za}
section
variable{K:fG7}{C Cb:Ad}{fx:Str}{ad:Li Ad}{H:Hp}{O:L2.St}{z:Int}{n:Nat}
abbrev adC:CS:=.set 2 Zcj
def txE(K:fG7)(C Cb:Ad)(fx:Str):TX:=λO H e=>tVar 0 O H λx b=>∃ a c fs,x=.ref a/\b a=some (.ins Cb c fs)/\fs.lookup (S "add")=none/\(tCons (tVar 1) tNil) O b λvs d=>ZgQ K C fx adC (rT 0) (.ref a :: vs++[]) d (λ_ _=>False) e
theorem ZfJ(r:ClsTab.ca 263=Cb)(E:EnvOk K ad H O U)(S:StOk K ad H st)(h:∀ (j:Nat) (d:D),ds[j]?=some d->U[j]?=some (some d))(p:Je ds st z):txE K C Cb fx O H (exT K C fx ad H (id st) z)/\Je ds (id st) z:=by
 refine⟨?_,p⟩;obtain⟨rfl,a,b,es,w,v,rfl,n,m,l⟩:=p;obtain⟨v0,A,f⟩:=E.at_ 0 _ (h 0 _ rfl);obtain⟨k,y,x⟩:=E.at_ 1 _ (h 1 _ rfl);obtain⟨g,rfl,s,q⟩:=id f.ofDic;obtain⟨j,u,kvs,F,_,e,_,_,o⟩:=S.obj s q n;obtain rfl:j=263:=by omega
 rw[r]at e;refine⟨.ref g,A,g,u,kvs,rfl,e,o _ (by decide +kernel),k,y,ad,.dic a,w,st,v,11,S,.cons f (.cons x .nil),?_,l,by decide,λad' H' c i B t=>⟨rfl,c,ad',rfl,i,B,t⟩⟩
 show WF 2 (ev (rT 0) Zcj) _ st=_;unfold WF;rw[m];rfl
abbrev cRf:CE:=.and (.call 17 (.u (.v 2)) []) (.cmp .Eq (.v 2) (.i 11))
theorem Zcv(c:2<=n)(p:Je ds st z):ds.length=2/\ev (rT n) cRf (Zg (ds.map some++List.replicate (4 - ds.length) none) 2 (.int z)) st=some (.bl true,st):=by
 obtain⟨rfl,a,b,es,h,g,rfl,f,e,d⟩:=p
 match n,c with
 |m+2,_=>exact⟨rfl,rfl⟩
theorem spR(vs:Li V)(H:Hp)(Q:VK)(E:XK)(h:spD K (rT (n+1) 229) vs H Q E):2<=n/\∃ ad ds st z,StOk K ad H st/\Dens K ad H vs ds/\Je ds st z/\∀ ad' H',Ext ad H ad' H'->StOk K ad' H' (id st)->Q (.bl true) H':=by
 obtain⟨ad,ds,st,d,st',S,c,e,p⟩:=h;obtain⟨f,rfl,rfl,b⟩:=dEl e;exact⟨f,ad,ds,_,11,S,c,b,λad' H' a g=>p _ ad' H' a g (.bl _)⟩
end
end Dp
namespace Dp
open PySem
structure Ks(l:List Nat)(st st':Za):Prop where
 old:∀ i,i < st.length->i∉l->st'[i]?=st[i]?
 len:st.length<=st'.length
def uE(u:Li Int):D:=.tup [inD u,.bl true]
def YT(a:Li (Li Int))(t:Li Int):Li (Li Int):=if t∈a then a else a++[t]
structure Kn(rs:List Rw)(us:List (List Int))(ks:List Ky):Prop where
 nd:ks.Nodup
 nu:us.Nodup
 mem:∀ c t,(c,t)∈ks↔Uv rs c/\t∈us
variable{u:Li Int}
variable{F:Nat->Fn}{s st st1 st2 st':Za}{e a b c:CE}{U U':Env}{d x y tk:D}{n w wa wb wt wc j m k i q L bo kp dn N:Nat}{vs ins ns:Li Int}{r:Rw}{rs rs':Li Rw}{xs ys acc ds es:Li D}{g f:Str}{bb:Bool}{tr l us:Li (Li Int)}{ks:Li Ky}{cd:Cd}{z:Ky}{la:Li Nat}
section
variable{t:Li Int}
theorem Grw.kl(g:Grw st st'):Ks la st st':=⟨λi h _=>g.old i h,g.len⟩
theorem Kj.kl(g:Kj j st st')(h:j∈la):Ks la st st':=⟨λi b a=>g.old i b λe=>a (e ▸ h),g.len⟩
theorem Kb.kl(g:Kb bo kp st st')(h:bo∈la)(c:kp∈la):Ks la st st':=⟨λi b a=>g.old i b (λe=>a (e ▸ h)) λe=>a (e ▸ c),g.len⟩
theorem Kj.set{c:Z8}:Kj j st (st.set j c):=⟨λi h a=>by rw[bK (Ne.symm a)],by rw[bF];exact aD _⟩
theorem Ks.trans(a:Ks la st st1)(b:Ks la st1 st'):Ks la st st':=⟨λi h c=>(b.old i (aS h a.len) c).trans (a.old i h c),aP a.len b.len⟩
theorem Ks.get{c:Z8}(k:Ks la st st')(h:st[j]?=some c)(a:j∉la):st'[j]?=some c:=(k.old j (Zh h) a).trans h
theorem Zeq{a:Li (Li Int)}:Ym (S "trials") (.tup (a.map inD)) (bkF tk m rs tr L kp dn)=bkF tk m rs a L kp dn:=by
 have b:∀ {x:Str},decide (x=x)=true:=aG rfl;have c:decide (S "program"=S "trials")=false:=by decide +kernel
 unfold bkF;simp only[Ym,isK,b,c,if_true,dB,if_false];rfl
theorem Zcn(h:ks.Nodup):(Xd ks z).Nodup:=by
 unfold Xd;split
 .exact h
 .rename_i c
  rw[dC];exact⟨h,bM.mpr ⟨(λq=>nomatch q),bH⟩,λa f b d e=>c (by rw[<-aJ.mp d,<-e];exact f)⟩
theorem Vo:∀ {l:Li (Li Int)}{ks:Li Ky},ks.Nodup->(Ya cd ks l).Nodup
 |[],_,h=>h
 |_ :: l,_,h=>Vo (l:=l) (Zcn h)
theorem Qu:∀ {l:Li (Nat×Rw)}{ks:Li Ky},ks.Nodup->(Wi tr ks l).Nodup
 |[],_,h=>h
 |_ :: l,_,h=>Qu (l:=l) (Vo h)
theorem Qt(h:ks.Nodup):(Wh rs tr ks).Nodup:=Qu (Vo h)
theorem JF(a:Rs m rs):(cdL rs).length<=600:=by
 have fl:=Xz (rs:=rs);have b:=a.l;unfold cdL;rw[aE];omega
theorem Zci(b:Rs m rs)(a:tr.length<=11):(Wh rs tr ks).length<=ks.length+7000:=by
 have c:=JF b;have e:=Zaz (tr:=tr) (l:=cdL rs) (ks:=Ya none ks tr);have d:=XD (cd:=none) (ks:=ks) (l:=tr);have f:(cdL rs).length * tr.length<=600 * 11:=Nat.mul_le_mul c a;unfold Wh;omega
theorem V9{c:Cd}:(c,t)∈Wh rs tr ks↔(c,t)∈ks\/(Uv rs c/\t∈tr):=by
 unfold Wh;rw[Ua,mem_addT];constructor
 .rintro((h|⟨u,h,e⟩)|⟨p,a,u,h,e⟩)
  .exact .inl h
  .cases e;exact .inr ⟨trivial,h⟩
  .cases e;exact .inr ⟨a,h⟩
 .rintro(h|⟨b,h⟩)
  .exact .inl (.inl h)
  .cases c with
   |none=>exact .inl (.inr ⟨_,h,rfl⟩)
   |some p=>exact .inr ⟨p,b,_,h,rfl⟩
theorem Zco(h:us.Nodup):(YT us t).Nodup:=by
 unfold YT;split
 .exact h
 .rename_i c
  rw[dC];exact⟨h,bM.mpr ⟨(λq=>nomatch q),bH⟩,λa f b d e=>c (by rw[<-aJ.mp d,<-e];exact f)⟩
theorem ZaG:u∈YT us t↔u∈us\/u=t:=by
 unfold YT;split
 .rename_i c
  exact⟨.inl,λh=>h.elim id λe=>e ▸ c⟩
 .rw[aU,aJ]
theorem V3:(YT us t).length<=us.length+1:=by
 unfold YT;split
 .omega
 .rw[aK];exact aD _
theorem YF:∀ {l us:Li (Li Int)},(us.Nodup->(l.foldl YT us).Nodup)/\(∀ u,u∈l.foldl YT us↔u∈us\/u∈l)/\(l.foldl YT us).length<=us.length+l.length
 |[],us=>⟨id,λu=>⟨.inl,λh=>h.elim id λh=>nomatch h⟩,aD _⟩
 |t :: l,us=>by
  obtain⟨b,a,c⟩:=YF (l:=l) (us:=YT us t);refine⟨λh=>b (Zco h),λu=>?_,?_⟩
  .rw[dY,a,ZaG,aH,or_assoc]
  .rw[dY,aQ]
   have:=V3 (us:=us) (t:=t);omega
theorem Kn.ask(h:Kn rs us ks):Kn rs (tr.foldl YT us) (Wh rs tr ks):=⟨Qt h.nd,YF.1 h.nu,λc t=>by
 rw[V9,h.mem,YF.2.1 t];exact⟨λq=>q.elim (λq=>⟨q.1,.inl q.2⟩) λq=>⟨q.1,.inr q.2⟩,λq=>q.2.elim (λz=>.inl ⟨q.1,z⟩) λz=>.inr ⟨q.1,z⟩⟩⟩
theorem ZfL(h:us.Nodup):(unq us).length=us.length:=by
 unfold unq;rw[List.filter_eq_self.mpr λi a=>?_,cM]
 have a:=cW.mp a;rw[dO,decide_eq_false_iff_not,eI,lG7 a];intro b;obtain⟨k,c,e⟩:=List.mem_iff_getElem.mp b;rw[bT]at c;rw[List.getElem_take]at e;have:=(List.getElem_inj h).mp (show us[k]'(by omega)=us[i] from e)
 omega
theorem Kn.len(a:Rs m rs)(h:Kn rs us ks):ks.length=us.length * (1+(cdL rs).length):=by
 rw[<-ZfL h.nu,<-Zgz a];refine((List.perm_ext_iff_of_nodup h.nd (Qt bH)).mpr λz=>?_).length_eq
 obtain⟨c,t⟩:=z;rw[h.mem,V9];exact⟨.inr,λq=>q.elim (λq=>nomatch q) id⟩
theorem Kn.nil:Kn rs [] []:=⟨bH,bH,λc t=>⟨(λh=>nomatch h),λh=>nomatch h.2⟩⟩
theorem Qd:Zr (inD u) (inD t)=decide (u=t):=by
 by_cases h:u=t
 .rw[h,aG rfl];exact Wm
 .rw[aF h]
  cases q:Zr (inD u) (inD t) with
  |false=>rfl
  |true=>
   have e:=UD q;have e:D.tup (u.map D.int)=.tup (t.map D.int):=e
   injection e with e
   exact absurd (Wt e) h
theorem ZdO:∀ {us:Li (Li Int)},(us.map uE).any (XT (inD t))=decide (t∈us)
 |[]=>rfl
 |u :: us=>by
  rw[aM,cP,ZdO,show XT (inD t) (uE u)=decide (u=t) from Qd,<-Bool.decide_or];exact decide_eq_decide.mpr ⟨λh=>aH.mpr (h.imp Eq.symm id),λh=>(aH.mp h).imp Eq.symm id⟩
theorem Zbn:∀ {us:Li (Li Int)},t∈us->ZY (us.map uE) (inD t)=some (.bl true)
 |u :: us,h=>by
  unfold ZY;rw[aM,cK,show XT (inD t) (uE u)=decide (u=t) from Qd];by_cases c:u=t
  .rw[aG c];rfl
  .rw[aF c]
   exact Zbn ((aH.mp h).elim (λe=>absurd e.symm c) id)
theorem ZgW(h:s[q]?=some (true,us.map uE))(a:us.length < 900):dput q (inD t) (.bl true) s=some (s.set q (true,(YT us t).map uE)):=by
 unfold dput;rw[h];show(if (Xj (us.map uE)=false/\okN 8 (inD t)=true)/\Ww (.bl true)=true/\(us.map uE).length < Zm then (if (us.map uE).any (XT (inD t))=false then _ else (if UO (ZY (us.map uE) (inD t))=true/\UO (some (.bl true))=true then _ else none)) else none)=_
 rw[if_pos ⟨⟨by cases us<;>rfl,ZdG⟩,rfl,by rw[aE];unfold Zm;omega⟩,ZdO]
 unfold YT;by_cases c:t∈us
 .rw[if_pos c,if_neg (by rw[aG c];exact λh=>nomatch h),if_pos ⟨by rw[Zbn c];rfl,rfl⟩]
 .rw[if_neg c,if_pos (aF c),bN];rfl
theorem Zbo{a0 a1 a3 a5 a7:Ot D}{tr:Li (Li Int)}(f:q≠j):∀ (M t:Nat) {y:Ot D}{us:Li (Li Int)}{st:Za},t+M=tr.length->st[j]?=some (bb,tr.map inD)->st[q]?=some (true,us.map uE)->us.length+M < 900->∃ c st',ZM (λd U s=>ex F Yk (Zg U 6 d) s) j M t [a0,a1,jL j,a3,some (.dic q),a5,y,a7] st=some (.nx [a0,a1,jL j,a3,some (.dic q),a5,c,a7],st')/\Kj q st st'/\st'[q]?=some (true,((tr.drop t).foldl YT us).map uE)
 |0,t,y,us,st,l,b,a,_=>⟨y,st,by unfold ZM;rw[b];exact if_pos (by rw[aE];omega),Grw.refl.kj,by rw[List.drop_of_length_le (by omega)];exact a⟩
 |M+1,t,y,us,st,l,b,a,p=>by
  have g:t < tr.length:=by omega
  have n:ex F Yk [a0,a1,jL j,a3,some (.dic q),a5,some (inD tr[t]),a7] st=some (.nx [a0,a1,jL j,a3,some (.dic q),a5,some (inD tr[t]),a7],st.set q (true,(YT us tr[t]).map uE)):=by
   refine(Zc ?_).trans Ze;show UX 4 (YE 6) (evC (.bl true)) _ st=_;unfold UX;show(match dput q (inD tr[t]) (.bl true) st with|some e=>some (Fl.nx _,e)|none=>none)=_
   rw[ZgW a (by omega)]
  have o:=V3 (us:=us) (t:=tr[t]);obtain⟨c,h,m,g2,i⟩:=Zbo (tr:=tr) f M (t+1) (a0:=a0) (a1:=a1) (a3:=a3) (a5:=a5) (a7:=a7) (y:=some (inD tr[t])) (us:=YT us tr[t]) (st:=st.set q (true,(YT us tr[t]).map uE)) (by omega) (by rw[Zv (Zh a),if_neg f];exact b) (by rw[Zv (Zh a),if_pos rfl]) (by omega)
  refine⟨c,h,?_,Kj.set.trans g2,by rw[bZ g,dY];exact i⟩
  conv=>lhs;unfold ZM
  have k:(tr.map inD)[t]?=some (inD tr[t]):=by rw[aT,lG7 g];rfl
  simp only[b,k];rw[show Zg [a0,a1,jL j,a3,some (.dic q),a5,y,a7] 6 (inD tr[t])=[a0,a1,jL j,a3,some (.dic q),a5,some (inD tr[t]),a7] from rfl,n];exact m
theorem XO{f:Nat}(h:ev F a U st=some (.tup xs,st1))(b:F f (xs++[]) st1=some (d,st2)):ev F (.call f a []) U st=some (d,st2):=by
 show Zn (ev F a) (WS (F f) []) U st=_;unfold Zn;rw[h];exact b
theorem JN{k:Bool}(h:ev F a U st=some (.bl k,st1)):ev F (.not a) U st=some (.bl (!k),st1):=by
 show Zn (ev F a) Jb U st=_;unfold Zn;rw[h];rfl
theorem ZfO(p:tr.length < 10)(b:Bk tk m rs tr L bo kp ks s):∃ st',rT (n+2) 272 [.dic bo,inD t] s=some (.non,st')/\Kj bo s st'/\Bk tk m rs (tr++[t]) L bo kp ks st':=by
 have f1:=YY (tk:=tk) (m:=m) (rs:=rs) (tr:=tr) (L:=L) (kp:=kp) (dn:=ks.length);have j:Y (rT (n+1)) s (.bin .Add (.fld (S "trials") (.v 0)) (.tupE (.u (.v 1)))) [some (.dic bo),some (inD t),none] (.tup ((tr++[t]).map inD)):=by
  rw[bN];exact .adT (.fl b.ob (.r rf) f1.2.1) (.cons (.r rf) .nil) (by rw[aE];show _+1<=_;omega)
 obtain⟨c,l,g⟩:=j s .refl;obtain⟨o,k,d⟩:=Y.call1 (F:=rT (n+1)) (s:=c) (a:=.v 2) (U:=[some (.dic bo),some (inD t),some (.tup ((tr++[t]).map inD))]) (.r rf) (U7 (n:=n) (s:=c) (xs:=(tr++[t]).map inD) (by rw[aE,aK];show _+1<=_;omega)) c .refl
 have o2:=(g.trans d).get b.ob;have h:=Xr (F:=rT (n+1)) (U:=[some (.dic bo),some (inD t),some (.tup ((tr++[t]).map inD))]) (i:=0) (f:=S "trials") (e:=.v 2) rfl rfl o2 (by show 5 < 900;decide)
 rw[Zeq]at h;refine⟨_,Zfi (v:=c_Book_add) rfl rfl ((Zc (Zk l)).trans ((Zc (QI k)).trans ((Zc h).trans Ze))),(g.trans d).kj.trans .set,⟨by rw[Zv (Zh o2),if_pos rfl],?_,b.ne⟩⟩
 rw[Zv (Zh o2),if_neg b.ne];exact(g.trans d).get b.ke
end
section
variable{t:Li Int}
theorem Y.lnU(b:s[q]?=some (bb,us.map uE))(d:us.length<=900)(c:Y F s a U (.dic q)):Y F s (.len a) U (.int (us.length:Int)):=g1 c (gs λst k=>by
 unfold Vi Vh;simp only[k.get b];rw[if_pos ⟨by cases us<;>rfl,by rw[aE];unfold Zm;omega⟩,aE])
theorem Y.eqn{i j:Int}(d:Y F s a U (.int i))(c:Y F s b U (.int j))(h:i=j):Y F s (.cmp .Eq a b) U (.bl true):=.cmp d c λ_=>by show some (decide (i=j))=_;rw[aG h]
theorem Zde(f:Fit m rs tr L)(u:Bk tk m rs tr L bo kp ks s)(hk:Kn rs us ks)(I:s[j]?=some (bb,tr.map inD))(S:s[q]?=some (true,us.map uE))(n1:q≠j)(Q:q≠bo)(P:q≠kp)(hlt:tr.length<=10)(hu:us.length<=100)(lk:ks.length<=500000):∃ st',rT (n+10) 278 [.dic bo,pgD tk m rs,.lst j,.int (L:Int),.dic q] s=some (.bl true,st')/\Ks [bo,kp,q] s st'/\Bk tk m rs tr L bo kp (Wh rs tr ks) st'/\st'[q]?=some (true,(tr.foldl YT us).map uE):=by
 obtain⟨s1,d,e1,J,h,H⟩:=ZfS (n:=n+4) (tk:=tk) f.r f.b f.t f.l I s .refl;have cl:=JF f.r;have R:((cdL rs).map λc=>D.int (btL m rs L tr c:Int))=((cdL rs).map λc=>(btL m rs L tr c:Int)).map D.int:=(bQ ..).symm
 obtain⟨ns,e⟩:∃ ns,((cdL rs).map λc=>(btL m rs L tr c:Int))=ns:=⟨_,rfl⟩
 have nl:ns.length=(cdL rs).length:=by rw[<-e,aE]
 rw[R,e]at J;have q1:=h.get S;obtain⟨y,z,e2,g2,O⟩:=Zbo (F:=rT (n+9)) (tr:=tr) (bb:=bb) (a0:=some (.dic bo)) (a1:=some (pgD tk m rs)) (a3:=jN L) (a5:=jL d) (a7:=none) n1 tr.length 0 (y:=none) (bG _) (h.get I) q1 (by omega)
 rw[cV]at O;have w:=u.grw h;have W:Bk tk m rs tr L bo kp ks z:=⟨(g2.old _ (Zh w.ob) (Ne.symm Q)).trans w.ob,(g2.old _ (Zh w.ke) (Ne.symm P)).trans w.ke,u.ne⟩;obtain⟨p,V,B,b3⟩:=ZdS (n:=n) (by omega) f W
 rw[R,e]at V;have lj:=H;have C:d≠q:=by have:=Zh S;omega
 have G:d≠bo:=by have:=Zh u.ob;omega
 have E:d≠kp:=by have:=Zh u.ke;omega
 have T:p[d]?=_:=B.get ((g2.old _ (Zh J) C).trans J) G E;have N:=B.get O Q P;have m3:ev (rT (n+9)) (.meth [(263,268)] (.v 0) .aN) [some (.dic bo),some (pgD tk m rs),jL j,jN L,some (.dic q),jL d,y,none] z=some (.tup (ns.map D.int),p):=(XU (st':=z) W.ob rfl rfl rfl).trans V;obtain⟨x,e4,g⟩:=(.or (k:=false) (m:=false) (.not (k:=true) (.r rf)) λ_=>Zca (n:=n+8) (by omega):Y (rT (n+9)) p (.or (.not (.isi .tuple (.v 7))) (.cmp .NotEq ZL (.lstE .aN))) [some (.dic bo),some (pgD tk m rs),jL j,jN L,some (.dic q),jL d,y,some (.tup (ns.map D.int))] (.bl false)) p .refl
 have o:=(hk.ask (tr:=tr)).len f.r;have fu:=(YF (l:=tr) (us:=us)).2.2;have K:=b3.grw g;have X:Y (rT (n+9)) x (.len (.v 5)) [some (.dic bo),some (pgD tk m rs),jL j,jN L,some (.dic q),jL d,y,some (.tup (ns.map D.int))] (.int (ns.length:Int)):=by
  have:=Y.lenl (F:=rT (n+9)) (a:=.v 5) (U:=[some (.dic bo),some (pgD tk m rs),jL j,jN L,some (.dic q),jL d,y,some (.tup (ns.map D.int))]) (g.get T) (.r rf);rw[aE]at this;exact this
 have Z:Y (rT (n+9)) x (.and (.cmp .Eq (.listOf (.v 7)) (.v 5)) (.cmp .Eq (.meth [(263,269)] (.v 0) .aN) (.bin .Mult (.len (.v 4)) (.bin .Add (.i 1) (.len (.v 5)))))) [some (.dic bo),some (pgD tk m rs),jL j,jN L,some (.dic q),jL d,y,some (.tup (ns.map D.int))] (.bl true):=.and (k:=true) (m:=true) (Zb9 (g.get T) (.r rf) (.r rf)) λ_=>.eqn (.meth K.ob (.r rf) rfl .nil (Jq (n:=n+8) K)) (.mul (.lnU (g.get N) (by omega) (.r rf)) (.add (.r rf) X) (UR (by omega))) (by
  show((Wh rs tr ks).length:Int)=_;rw[o,Int.natCast_mul,cD];rw[nl];rfl)
 obtain⟨M,e5,A⟩:=Z x .refl;have Kk:Ks [bo,kp,q] s M:=(h.kl (la:=[bo,kp,q])).trans ((g2.kl (.tail _ (.tail _ (.head _)))).trans ((B.kl (.head _) (.tail _ (.head _))).trans (g.trans A).kl));refine⟨M,Yd (v:=c__law_asked) rfl rfl ((Zc (Zk (XO (xs:=[pgD tk m rs,.lst j,.int (L:Int)]) rfl e1))).trans ((Zc ((Va (bb:=bb) (xs:=tr.map inD) rfl (h.get I)).trans (by rw[aE];exact e2))).trans ((Zc (Zk m3)).trans ((Zc ((ZR e4).trans Ze)).trans (Zp (ZK e5)))))),Kk,K.grw A,(g.trans A).get N⟩
end
section
variable{t:Li Int}
theorem ZgZ(a:U[i]?=some (jL j))(b:ev F e U st=some (d,st1))(h:st1[j]?=some (true,acc))(c:acc.length < 900):ex F (.app i e) U st=some (.nx U,st1.set j (true,acc++[d])):=by
 show W6 i (ev F e) U st=_;unfold W6 UA;simp only[a,b,h];rw[if_pos (by unfold Zm;omega)]
theorem QL(h:tr.length=10)(b:Bk tk m rs tr L bo kp ks s):rT (n+3) 229 [.dic bo,inD t] s=some (.bl true,s):=by
 have f1:=YY (tk:=tk) (m:=m) (rs:=rs) (tr:=tr) (L:=L) (kp:=kp) (dn:=ks.length);have g:ev (rT (n+2)) (.bin .Add (.fld (S "trials") (.v 0)) (.tupE (.u (.v 1)))) [some (.dic bo),some (inD t),none,none] s=some (.tup (tr.map inD++[inD t]),s):=by
  show(match Xb (S "trials") (.dic bo) s with|some (x,a)=>WI .Add x (.tup [inD t]) a|none=>none)=_
  have:Xb (S "trials") (.dic bo) s=some (.tup (tr.map inD),s):=by
   unfold Xb;simp only[b.ob,f1.2.1]
  rw[this];show(if Wu .Add=true/\(tr.map inD).length+1<=Zm then some (D.tup (tr.map inD++[inD t]),s) else none)=_
  rw[if_pos ⟨rfl,by rw[aE];show _+1<=1000000;omega⟩]
 have p:ev (rT (n+2)) (.cmp .Eq (.len (.bin .Add (.fld (S "trials") (.v 0)) (.tupE (.u (.v 1))))) (.i 11)) [some (.dic bo),some (inD t),none,none] s=some (.bl true,s):=by
  show(match (match ev (rT (n+2)) (.bin .Add (.fld (S "trials") (.v 0)) (.tupE (.u (.v 1)))) _ s with|some (x,a)=>Vi x a|none=>none) with|some (x,a)=>Yx .Eq x (.int 11) a|none=>none)=_
  rw[g];show some (D.bl (decide (((tr.map inD++[inD t]).length:Int)=11)),s)=_;rw[aG (by rw[aK,aE,h];rfl)]
 obtain⟨a,q,_⟩:=Zdi (n:=n+1) b s .refl;have l:rT (n+2) 270 [.dic bo] s=some (pgD tk m rs,s):=by
  show fnD (rT (n+1)) c_Book_now [.dic bo] s=_;have:ex (rT (n+1)) c_Book_now.body [some (.dic bo)] s=some (.rt (pgD tk m rs),s):=by
   show Yh (WN (Zn (YE 0) (Xb (S "program")))) _ _ s=_;have:Xb (S "program") (.dic bo) s=some (pgD tk m rs,s):=by
    unfold Xb;simp only[b.ob,f1.1]
   unfold Yh WN Zn;show(match (match Xb (S "program") (.dic bo) s with|some (d,st')=>some (Fl.rt d,st')|none=>none) with|some (.nx U',st')=>_|r=>r)=_
   rw[this]
  exact Yd (f:=270) (ds:=[.dic bo]) (v:=c_Book_now) rfl rfl this
 have k:ev (rT (n+2)) (.meth [(263,270)] (.v 0) .aN) [some (.dic bo),some (inD t),none,none] s=some (pgD tk m rs,s):=by
  show(match (UH s (.dic bo)).bind λc=>List.lookup c [(263,270)] with|some j=>rT (n+2) j [.dic bo] s|none=>none)=_
  have:UH s (.dic bo)=some 263:=by
   unfold UH;simp only[b.ob];rfl
  rw[this];exact l
 have o:ex (rT (n+2)) (.ite (.cmp .Eq (.len (.bin .Add (.fld (S "trials") (.v 0)) (.tupE (.u (.v 1))))) (.i 11)) (.ret (.c (.bl true))) .stop) [some (.dic bo),some (inD t),none,none] s=some (.rt (.bl true),s):=by
  show YI (ev (rT (n+2)) _) _ _ _ s=_;unfold YI;rw[p];rfl
 exact Yd (f:=229) (ds:=[.dic bo,inD t]) rfl rfl ((Zc (QI (F:=rT (n+2)) (e:=.call 910 .aN []) (d:=.non) (s':=s) rfl)).trans ((Zc (QI k)).trans o))
theorem Zbt(E:Bk tk m rs tr L bo kp ks s)(hj:s[j]?=some (true,tr.map inD))(J:j≠bo)(W:j≠kp)(Z:tr.length<=10):∃ st' f,rT (n+4) 279 [.dic bo,.lst j,inD t] s=some (.bl true,st')/\Ks [bo,j] s st'/\Bk tk m rs f L bo kp ks st'/\st'[j]?=some (true,f.map inD)/\f.length<=10/\(f=tr\/f=tr++[t]):=by
 have I:∀ {s:Za}{tr:Li (Li Int)}{x3:Ot D},Bk tk m rs tr L bo kp ks s->Y (rT (n+3)) s (.meth [(263,269)] (.v 0) .aN) [some (.dic bo),jL j,some (inD t),x3] (.int (ks.length:Int)):=λh=>.meth h.ob (.r rf) rfl .nil (Jq (n:=n+2) h)
 obtain⟨w,O,B⟩:=I (x3:=none) E s .refl;have b1:=E.grw B;have N:=B.get hj;have H:∀ {s:Za}{tr:Li (Li Int)},Bk tk m rs tr L bo kp ks s->Y (rT (n+3)) s (.cmp .Eq (.meth [(263,269)] (.v 0) .aN) (.v 3)) [some (.dic bo),jL j,some (inD t),jN ks.length] (.bl true):=λh=>.eqn (I h) (.r rf) rfl
 have R:Y (rT (n+3)) w (.cmp .Eq (.len (.v 1)) (.i 10)) [some (.dic bo),jL j,some (inD t),jN ks.length] (.bl (decide ((tr.length:Int)=10))):=by
  have:=Y.cmp (F:=rT (n+3)) (op:=.Eq) (s:=w) (a:=.len (.v 1)) (b:=.i 10) (U:=[some (.dic bo),jL j,some (inD t),jN ks.length]) (k:=decide ((((true,tr.map inD):Z8).2.length:Int)=10)) (.lenl N (.r rf)) (.r rf) λ_=>rfl
  rw[show((true,tr.map inD):Z8).2.length=tr.length from aE ..]at this;exact this
 obtain⟨l,q,A⟩:=R w .refl;have p:=b1.grw A;have C:=A.get N;have o:Grw s l:=B.trans A;by_cases c:(tr.length:Int)=10
 .rw[aG c]at q
  have G:=JN (k:=true) (XO (F:=rT (n+3)) (a:=.aC (.v 0) (.u (.v 2))) (U:=[some (.dic bo),jL j,some (inD t),jN ks.length]) (xs:=[.dic bo,inD t]) rfl (QL (n:=n) (t:=t) (by omega) p))
  obtain⟨T,e4,z⟩:=H p l .refl;exact⟨T,tr,Yd (v:=c__law_added) rfl rfl ((Zc (Zk O)).trans ((Zc ((Z9 q).trans ((Zc ((ZR G).trans Ze)).trans Ze))).trans (Zp (ZK e4)))),(o.trans z).kl,p.grw z,z.get C,Z,.inl rfl⟩
 .rw[aF c]at q
  obtain⟨g,G,K,Q⟩:=ZfO (n:=n+1) (t:=t) (by omega) p
  have M:g[j]?=some (true,tr.map inD):=(K.old _ (Zh C) J).trans C;have X:ev (rT (n+3)) (.meth [(263,272)] (.v 0) (.u (.v 2))) [some (.dic bo),jL j,some (inD t),jN ks.length] l=some (.non,g):=(XU (st':=l) (xs:=[inD t]) p.ob rfl rfl rfl).trans G;have c3:ev (rT (n+3)) (.cmp .IsNot (.meth [(263,272)] (.v 0) (.u (.v 2))) (.c .non)) [some (.dic bo),jL j,some (inD t),jN ks.length] l=some (.bl false,g):=by
   show Zz (ev (rT (n+3)) (.meth [(263,272)] (.v 0) (.u (.v 2)))) (evC .non) (Yx .IsNot) _ l=_;unfold Zz;rw[X];rfl
  have V:=ZgZ (F:=rT (n+3)) (i:=1) (j:=j) (e:=.v 2) (U:=[some (.dic bo),jL j,some (inD t),jN ks.length]) (st:=g) (d:=inD t) (st1:=g) rfl rfl M (by rw[aE];omega)
  have x:=Zh M;have P:Bk tk m rs (tr++[t]) L bo kp ks (g.set j (true,tr.map inD++[inD t])):=⟨by rw[Zv x,if_neg J];exact Q.ob,by rw[Zv x,if_neg W];exact Q.ke,E.ne⟩
  obtain⟨S,e5,y⟩:=H P _ .refl;exact⟨S,tr++[t],Yd (v:=c__law_added) rfl rfl ((Zc (Zk O)).trans ((Zc ((ZR q).trans ((Zc ((ZR c3).trans Ze)).trans ((Zc V).trans Ze)))).trans (Zp (ZK e5)))),(o.kl (la:=[bo,j])).trans ((K.kl (.head _)).trans ((Kj.set.kl (.tail _ (.head _))).trans y.kl)),P.grw y,y.get (by rw[Zv x,if_pos rfl,bN];rfl),by rw[aK];show _+1<=10;omega,.inr rfl⟩
end
variable{sz:Nat}{v:Int}
section
variable{c i:Int}
theorem Jk{b:Bool}(d:s[0]?=some (b,ns.map D.int))(m:k<=1000):∃ v:Int,C (rT (n+1)) s 27 [.lst 0,.int (k:Int)] (.int v):=by
 have c:Y (rT n) s (.cmp .Lt (.v 1) (.len (.v 0))) [jL 0,jN k] (.bl (decide (k < ns.length))):=.cmp (.r rf) (.lenl d (.r rf)) λ_=>by
  show some (decide ((k:Int) < ((ns.map D.int).length:Int)))=_;rw[aE];exact congrArg some (decide_eq_decide.mpr (by omega))
 have e:ZU (k:Int)=true:=UR (by omega)
 by_cases h:k < ns.length
 .rw[aG h]at c
  exact⟨ns[k],.of (v:=c__law_cell_at) rfl rfl (.yes c (.ixl (j:=k) d (.r rf) (.r rf) (by rw[aT,lG7 h];rfl)))⟩
 .rw[aF h]at c
  have f:∀ {s},Y (rT n) s (.bin .Mult (.v 1) (.v 1)) [jL 0,jN k] (.int ((k:Int) * k)):=.mul (.r rf) (.r rf) e;have l:Lv s (ev (rT n) (.bin .Add (.v 0) (.lstE (.u (.i 0)))) [jL 0,jN k]) ((ns++[0]).map D.int):=by
   rw[bN];exact .cat (.v d (.r rf)) (.mk (.r rf)) (by rw[aE];show _+1<=1000000;omega)
  obtain⟨a,g⟩:∃ a,(ns++[0])[0]?=some a:=by cases ns<;>exact⟨_,rfl⟩
  have q:=Zt a (j:=1000003) (by decide)
  exact⟨_,.of (v:=c__law_cell_at) rfl rfl (.no c (.ret (.md (.mul (.add (.md (.ixL (j:=0) l (.r rf) (by rw[aT,g];rfl)) (.r rf) (by decide)) (.r rf)) (.add f (.r rf)) (UR (by
   have p:(k:Int) * k<=1000 * 1000:=Int.mul_le_mul (by omega) (by omega) (by omega) (by omega)
   have o:0<=(k:Int) * k:=Int.mul_nonneg (by omega) (by omega)
   omega))) (.r rf) (by decide))))⟩
theorem Jm:∃ v,Sm v/\C (rT (n+1)) s 185 [.int c] (.int v):=by
 have h:∀ {s},Y (rT n) s (.bin .FloorDiv (.v 0) (.i 4)) [jI c] (.int (c / 4)):=.fd (.r rf) (.r rf) (by decide)
 have g:∀ {s} (z:Int),Y (rT n) s (.cmp .Eq (.bin .Mod (.v 0) (.i 4)) (.i z)) [jI c] (.bl (decide (c % 4=z))):=λz=>.cmp (.md (.r rf) (.r rf) (by decide)) (.r rf) λ_=>rfl
 by_cases m:c % 4=0
 .have d:=g (s:=s) 0
  rw[aG m]at d;have:=Zt (c / 4) (j:=2000000000) (by decide)
  exact⟨_,⟨by omega,by omega⟩,.of (v:=c__law_number) rfl rfl (.yes d (.sub (.md h (.r rf) (by decide)) (.r rf)))⟩
 .have d:=g (s:=s) 0
  rw[aF m]at d;by_cases k:c % 4=1
  .have e:=g (s:=s) 1
   rw[aG k]at e;have o:=Zt (c / 4) (j:=5) (by decide)
   obtain⟨u,q,p⟩:=Y.ixE (F:=rT n) (s:=s) (f:=D.int) (l:=([999999999,-1000000000,-1,0,1]:Li Int)) (a:=.lstE (.aC (.i 999999999) (.aC (.neg (.i 1000000000)) (.aC (.neg (.i 1)) (.aC (.i 0) (.u (.i 1))))))) (.mk (.r rf)) (b:=.bin .Mod (.bin .FloorDiv (.v 0) (.i 4)) (.i 5)) (.md h (.r rf) (by decide)) o.1 o.2
   exact⟨u,(by decide:∀ v∈([999999999,-1000000000,-1,0,1]:Li Int),-1000000000<=v/\v<=999999999) u q,.of (v:=c__law_number) rfl rfl (.no d (.yes e p))⟩
  .have e:=g (s:=s) 1
   rw[aF k]at e;have:=Zt (c / 4) (j:=7) (by decide)
   exact⟨_,⟨by omega,by omega⟩,.of (v:=c__law_number) rfl rfl (.no d (.no e (.ret (.sub (.md h (.r rf) (by decide)) (.r rf)))))⟩
theorem Jn(g:0 < m):∃ o,X6 m o/\C (rT (n+2)) s 28 [.int c,.int (m:Int)] (opE o):=by
 have a:(0:Int) < (m:Int):=by omega
 have b:Y (rT (n+1)) s (.bin .FloorDiv (.v 0) (.i 3)) [jI c,jN m] (.int (c / 3)):=.fd (.r rf) (.r rf) (by decide)
 have y:Y (rT (n+1)) s (.cmp .Eq (.bin .Mod (.v 0) (.i 3)) (.i 0)) [jI c,jN m] (.bl (decide (c % 3=0))):=.cmp (.md (.r rf) (.r rf) (by decide)) (.r rf) λ_=>rfl
 by_cases h:c % 3=0
 .rw[aG h]at y
  obtain⟨v,d,f⟩:=Jm (n:=n) (s:=s) (c:=c / 3);exact⟨.nu v,d,.of (v:=c__law_operand) rfl rfl (.yes y (.cons (.r rf) (.cons (.call1 b f) .nil)))⟩
 .rw[aF h]at y
  have e:=Zt (c / 3) a;refine⟨.nm (c / 3 % m).toNat,by show _ < m;omega,.of (v:=c__law_operand) rfl rfl (.no y (.ret (.cons (.r rf) (.cons ?_ .nil))))⟩
  rw[bR e.1];exact .md b (.r rf) a
theorem ZdW{d L K:Int}(N:0 < m)(V:m<=900)(Z:sz<=900)(I:s[w]?=some (bb,[.int d,.int L,.int K])):∃ r,YS m sz r/\C (rT (n+3)) s 29 [.lst w,.int (m:Int),.int (sz:Int)] (rwE r):=by
 have o:(0:Int) < (m:Int):=by omega
 obtain⟨y,M,X⟩:=Jn (n:=n) (s:=s) (c:=L) N;obtain⟨z,k,W⟩:=Jn (n:=n) (s:=s) (c:=K) N;have S:∀ {U:Env},U[0]?=some (jL w)->Y (rT (n+2)) s (.ix (.v 0) (.i 0)) U (.int d):=λh=>.ixl (j:=0) I (.v h) (.r rf) rfl
 have st:∀ {r q},R (rT (n+2)) s q [jL w,jN m,jN sz,jI (d / 8),some (opE y),some (opE z)] r->R (rT (n+2)) s (.seq (.set 3 (.bin .FloorDiv (.ix (.v 0) (.i 0)) (.i 8))) (.seq (.set 4 (.call 28 (.aC (.ix (.v 0) (.i 1)) (.u (.v 1))) [])) (.seq (.set 5 (.call 28 (.aC (.ix (.v 0) (.i 2)) (.u (.v 1))) [])) q))) [jL w,jN m,jN sz,none,none,none] r:=λ{r q} h=>
  .set (x:=.int (d / 8)) (.fd (S rfl) (.r rf) (by decide)) (.set (x:=opE y) (.call (xs:=[.int L,.int (m:Int)]) (.cons (.ixl (j:=1) I (.r rf) (.r rf) rfl) (.cons (.r rf) .nil)) X) (.set (x:=opE z) (.call (xs:=[.int K,.int (m:Int)]) (.cons (.ixl (j:=2) I (.r rf) (.r rf) rfl) (.cons (.r rf) .nil)) W) h))
 have A:∀ {zz:Int},Y (rT (n+2)) s (.cmp .Lt (.bin .Mod (.ix (.v 0) (.i 0)) (.i 8)) (.i zz)) [jL w,jN m,jN sz,jI (d / 8),some (opE y),some (opE z)] (.bl (decide (d % 8 < zz))):=λ{zz}=>.cmp (.md (S rfl) (.r rf) (by decide)) (.r rf) λ_=>rfl
 have G:(0:Int) < (sz:Int)+1:=by omega
 by_cases Q:d % 8 < 3
 .have g:=A (zz:=3)
  rw[aG Q]at g;have ex:=Zt (d / 8) o;have e:=Zt (d / 8 / m) (j:=5) (by decide)
  obtain⟨x,T⟩:∃ x:Nat,d / 8 % (m:Int)=(x:Int):=⟨_,(bR ex.1).symm⟩;obtain⟨u,hu,B⟩:=Y.ixE (F:=rT (n+2)) (s:=s) (f:=D.str) (l:=psL) (U:=[jL w,jN m,jN sz,jI (d / 8),some (opE y),some (opE z)]) (a:=.lstE (.aC (.t "+") (.aC (.t "-") (.aC (.t "*") (.aC (.t "/") (.u (.t "mod"))))))) (.mk (.r rf)) (b:=.bin .Mod (.bin .FloorDiv (.v 3) (.v 1)) (.i 5)) (.md (.fd (i:=d / 8) (j:=(m:Int)) (a:=.v 3) (b:=.v 1) (.r rf) (.r rf) ⟨o,by omega⟩) (.r rf) (by decide)) e.1 e.2
  exact⟨.put x y u z,⟨by omega,M,hu,k⟩,.of (v:=c__law_row) rfl rfl (st (.yes g (.cons (.r rf) (.cons (by rw[<-T];exact .md (.r rf) (.r rf) o) (.cons (.r rf) (.cons B (.cons (.r rf) .nil)))))))⟩
 .have g:=A (zz:=3)
  rw[aF Q]at g;by_cases P:d % 8 < 5
  .have p:=A (zz:=5)
   rw[aG P]at p;have J:=Zt (d / 8 / 6) G;obtain⟨t,H⟩:∃ t:Nat,d / 8 / 6 % ((sz:Int)+1)=(t:Int):=⟨_,(bR J.1).symm⟩;have e:=Zt (d / 8) (j:=6) (by decide)
   obtain⟨u,hu,B⟩:=Y.ixE (F:=rT (n+2)) (s:=s) (f:=D.str) (l:=isL) (U:=[jL w,jN m,jN sz,jI (d / 8),some (opE y),some (opE z)]) (a:=.lstE (.aC (.t "<") (.aC (.t "<=") (.aC (.t "=") (.aC (.t ">=") (.aC (.t ">") (.u (.t "!=")))))))) (.mk (.r rf)) (.md (i:=d / 8) (a:=.v 3) (b:=.i 6) (.r rf) (.r rf) (by decide)) e.1 e.2
   exact⟨.ifr y u z t,⟨M,hu,k,by omega⟩,.of (v:=c__law_row) rfl rfl (st (.no g (.yes p (.cons (.r rf) (.cons (.r rf) (.cons B (.cons (.r rf) (.cons (by rw[<-H];exact .md (.fd (.r rf) (.r rf) (by decide)) (.add (.r rf) (.r rf)) G) .nil))))))))⟩
  .have p:=A (zz:=5)
   rw[aF P]at p;by_cases O:d % 8 < 7
   .have E:=A (zz:=7)
    rw[aG O]at E;exact⟨.tell z,k,.of (v:=c__law_row) rfl rfl (st (.no g (.no p (.yes E (.cons (.r rf) (.cons (.r rf) .nil))))))⟩
   .have E:=A (zz:=7)
    rw[aF O]at E;have J:=Zt (d / 8 / 2) G;obtain⟨t,H⟩:∃ t:Nat,d / 8 / 2 % ((sz:Int)+1)=(t:Int):=⟨_,(bR J.1).symm⟩;have e:=Zt (d / 8) (j:=2) (by decide)
    obtain⟨u,hu,B⟩:=Y.ixE (F:=rT (n+2)) (s:=s) (f:=rwE) (l:=[Rw.skip,.go t]) (U:=[jL w,jN m,jN sz,jI (d / 8),some (opE y),some (opE z)]) (a:=.lstE (.aC (.tupE (.u (.t "skip"))) (.u (.tupE (.aC (.t "go") (.u (.bin .Mod (.bin .FloorDiv (.v 3) (.i 2)) (.bin .Add (.v 2) (.i 1))))))))) (.mk (xs:=[.tup [.str "skip"],.tup [.str "go",.int (t:Int)]]) (.cons (.cons (.r rf) .nil) (.cons (.cons (.r rf) (.cons (by rw[<-H];exact .md (.fd (.r rf) (.r rf) (by decide)) (.add (.r rf) (.r rf)) G) .nil)) .nil))) (.md (i:=d / 8) (a:=.v 3) (b:=.i 2) (.r rf) (.r rf) (by decide)) e.1 e.2
    refine⟨u,?_,.of (v:=c__law_row) rfl rfl (st (.no g (.no p (.no E (.ret B)))))⟩;rcases aH.mp hu with rfl|hu
    .trivial
    .rw[aJ.mp hu];show t<=sz;omega
end
def RS(F:Nat->Fn)(s:Za)(q:CS)(U:Env):Prop:=∀ st,Grw s st->∃ st',ex F q U st=some (.rt (.bl true),st')
variable{p:CS}
section
variable{c:Int}{q:CS}
theorem RS.set(h:Y F s e U x)(d:RS F s q (Zg U i x)):RS F s (.seq (.set i e) q) U:=λst g=>by
 obtain⟨b,j,c⟩:=h st g;obtain⟨a,f⟩:=d b (g.trans c);exact⟨a,(Zc (Zk j)).trans f⟩
theorem RS.no(h:Y F s e U (.bl false))(d:RS F s q U):RS F s (.seq (.ite e p .skip) q) U:=λst g=>by
 obtain⟨b,i,c⟩:=h st g;obtain⟨a,f⟩:=d b (g.trans c);exact⟨a,(Zc ((ZR i).trans Ze)).trans f⟩
theorem RS.yB(h:Y F s e U (.bl true))(d:RS F s p U):RS F s (.seq (.ite e p .skip) q) U:=λst g=>by
 obtain⟨b,i,c⟩:=h st g;obtain⟨a,f⟩:=d b (g.trans c);exact⟨a,Zp ((Z9 i).trans f)⟩
theorem RS.mono(h:RS F s q U)(g:Grw s st):RS F st q U:=λst1 k=>h st1 (g.trans k)
theorem Za1{I:Env->Prop}{P:D->Prop}(o:s.length<=j)(p:∀ k,k < N->∀ U,I U->∀ st acc,Grw s st->st[j]?=some (true,acc)->acc.length < 900->∃ d U' st',P d/\I U'/\ex F q (Zg U i (.int (k:Int))) st=some (.nx U',st')/\Kj j st st'/\st'[j]?=some (true,acc++[d])):∀ (M a:Nat),a+M=N->∀ U,I U->∀ st acc,Grw s st->st[j]?=some (true,acc)->acc.length+M<=900->∃ xs U' st',xs.length=M/\(∀ d∈xs,P d)/\I U'/\Zl (λd U s=>ex F q (Zg U i d) s) ((List.range' a M).map λ(k:Nat)=>D.int (k:Int)) U st=some (.nx U',st')/\Kj j st st'/\st'[j]?=some (true,acc++xs)
 |0,a,_,U,m,st,acc,g,h,_=>⟨[],U,st,rfl,λd h=>(nomatch h),m,rfl,Grw.refl.kj,by rw[bC];exact h⟩
 |M+1,a,J,U,m,st,acc,g,h,H=>by
  obtain⟨d,c,t,y,l,E,n,A⟩:=p a (by omega) U m st acc g h (by omega)
  obtain⟨xs,b,r,x,w,f,C,u,z⟩:=Za1 o p M (a+1) (by omega) c l t _ (n.grw o g) A (by rw[aK];show _+1+M<=900;omega)
  refine⟨d :: xs,b,r,by rw[aQ,x],λG B=>(aH.mp B).elim (λe=>e ▸ y) (w G),f,?_,n.trans u,by rw[z,bP];rfl⟩
  rw[dP,aM];show(match ex F q (Zg U i (.int (a:Int))) st with
   |some (.nx U',st')=>Zl _ _ U' st'
   |some (.ct U',st')=>Zl _ _ U' st'
   |some (.bk U',st')=>some (.nx U',st')
   |some (.rt v,st')=>some (.rt v,st')
   |none=>none)=_
  rw[E];exact C
theorem RS.fill{I:Nat->Env->Prop}{P:D->Prop}{i0:Nat}{q':CS}(u:∀ j st,ev F e (Zg U i0 (.lst j)) st=some (.int (N:Int),st))(hN:N<=800)(v:∀ j,I j (Zg U i0 (.lst j)))(t:∀ j,s.length<=j->∀ k,k < N->∀ U,I j U->∀ st acc,Grw s st->st[j]?=some (true,acc)->acc.length < 900->∃ d U' st',P d/\I j U'/\ex F q (Zg U i (.int (k:Int))) st=some (.nx U',st')/\Kj j st st'/\st'[j]?=some (true,acc++[d]))(o:∀ j xs U' st',xs.length=N->(∀ d∈xs,P d)->I j U'->Grw s st'->s.length<=j->st'[j]?=some (true,xs)->∃ a,ex F q' U' st'=some (.rt (.bl true),a)):RS F s (.seq (.set i0 (.lstE .aN)) (.seq (.for1 i true e q) q')) U:=λst g=>by
 have c:Grw s (st++[(true,[])]):=g.trans .push;obtain⟨xs,U',l,r,n,b,y,m,w⟩:=Za1 (F:=F) (q:=q) (i:=i) (I:=I st.length) (P:=P) g.len (t st.length g.len) N 0 (by omega) _ (v st.length) (st++[(true,[])]) [] c Zu (by show 0+N<=900;omega)
 obtain⟨h,x⟩:=o st.length xs U' l r n b (m.grw g.len c) g.len w;have f:=Y7 (F:=F) (i:=i) (q:=q) (by omega) (by omega) (u st.length (st++[(true,[])]))
 rw[bD,eG]at f;exact⟨h,(Zc (p:=.set i0 (.lstE .aN)) (s':=st++[(true,[])]) rfl).trans ((Zc (f.trans y)).trans x)⟩
theorem all_map{α:Type}{f:α->D}{Q:α->Prop}:∀ {xs:Li D},(∀ d∈xs,∃ r,Q r/\d=f r)->∃ l:Li α,xs=l.map f/\∀ r∈l,Q r
 |[],_=>⟨[],rfl,λ_ h=>nomatch h⟩
 |d :: xs,h=>by
  obtain⟨r,b,rfl⟩:=h d lQ7;obtain⟨l,rfl,c⟩:=all_map (xs:=xs) λd g=>h d (lM7 _ g)
  exact⟨r :: l,rfl,λu a=>(aH.mp a).elim (λe=>e ▸ b) (c u)⟩
theorem Qb(h:U[i]?=some (jL j))(k:ev F e U st=some (d,st1))(a:Grw st st1)(g:st[j]?=some (true,acc))(l:acc.length < 900):∃ st',ex F (.z (.app i e)) U st=some (.nx U,st')/\Kj j st st'/\st'[j]?=some (true,acc++[d]):=by
 have b:=a.get g;refine⟨st1.set j (true,acc++[d]),(Zc (U':=U) ?_).trans Ze,⟨λm f c=>?_,by rw[bF];exact a.len⟩,by rw[Zv (Zh b),if_pos rfl]⟩
 .show W6 i (ev F e) U st=_
  unfold W6 UA;simp only[h,k,b];rw[if_pos (by unfold Zm;omega)]
 .rw[Zv (Zh b),if_neg (Ne.symm c)]
  exact a.old m f
theorem ZfM{v:Int}(b:v < 2 ^ 62)(a:-(2 ^ 62)<=v):Yt true (.int v) st=some ((List.range v.toNat).map λ(k:Nat)=>D.int (k:Int),λ_=>True):=by
 unfold Yt;rw[Zat b a]
theorem Wk.rng(hN:N<=1000)(h:Y F s e U (.int (N:Int))):Wk F s e U (Yt true) ((List.range N).map λ(k:Nat)=>D.int (k:Int)):=.of h λst=>by
 rw[ZfM (by omega) (by omega),bD]
end
abbrev lE(f:Int)(t m sz cnt wr:Nat)(e:Ot D)(g:D)(L j:Nat)(d:Ot D)(h q:Nat)(c b a:Ot D):Env:=[jL 0,jI f,jN t,jN m,jN sz,jN cnt,jL wr,e,some g,jN L,jL j,d,some (.dic h),some (.dic q),c,b,a]
structure Lp(ns:List Int)(tk:D)(m:Nat)(rs:List Rw)(L bo kp j q:Nat)(tr us:List (List Int))(ks:List Ky)(N:Nat)(st:Za):Prop where
 s0:st[0]?=some (false,ns.map D.int)
 b:Bk tk m rs tr L bo kp ks st
 k:Kn rs us ks
 tl:st[j]?=some (true,tr.map inD)
 u:st[q]?=some (true,us.map uE)
 ok:Trs m tr
 n:tr.length<=10
 ul:us.length<=N * 10
 kl:ks.length<=N * 7000
structure Dj(bo kp j q:Nat):Prop where
 qj:q≠j
 qb:q≠bo
 qk:q≠kp
 jb:j≠bo
 jk:j≠kp
 z:0≠bo/\0≠kp/\0≠j/\0≠q
variable{wr t cnt:Nat}{v1 v4:Int}{x7 x11 x14 x15 x16:Ot D}
theorem Zcq{l:Li Rw}:ZT 6 (l.map rwE)=true:=by
 have h:∀ {o:Op},okD 5 (opE o)=true:=λ{o}=>by cases o<;>rfl
 induction l with
 |nil=>rfl
 |cons r l a=>
  show(okD 6 (rwE r)&&ZT 6 (l.map rwE))=true;rw[a,dD];cases r with
  |put x y g z=>show(true&&(true&&(okD 5 (opE y)&&(true&&(okD 5 (opE z)&&true)))))=true;rw[h,h];rfl
  |ifr y g z t=>show(true&&(okD 5 (opE y)&&(true&&(okD 5 (opE z)&&(true&&true)))))=true;rw[h,h];rfl
  |tell y=>show(true&&(okD 5 (opE y)&&true))=true;rw[h];rfl
  |_=>rfl
theorem Qf{n:Nat}(a:∀ x,okD n x=true->Zr x x=true):∀ {ds:Li D},ZT n ds=true->Zx ds ds=true
 |[],_=>rfl
 |d :: ds,h=>by
  rw[ZT,bA7]at h;show(Zr d d&&Zx ds ds)=true;rw[a d h.1,Qf a h.2];rfl
theorem Jw:∀ {n:Nat}{x:D},okD n x=true->Zr x x=true
 |n,x,h=>by
  cases x with
  |non=>rfl
  |int a=>exact aG rfl
  |str a=>exact aG rfl
  |tup ds=>cases n with
   |zero=>cases h
   |succ n=>exact Qf (λx=>Jw) h
  |_=>cases n<;>cases h
theorem Zgg(a:okD 7 tk=true):eqS st (pgD tk m rs) (pgD tk m rs)=some true:=by
 have h:okD 8 (pgD tk m rs)=true:=by
  show(okD 7 tk&&(true&&(ZT 6 (rs.map rwE)&&true)))=true;rw[a,Zcq];rfl
 show(match (if okD 8 (pgD tk m rs)&&okD 8 (pgD tk m rs) then some (Zx [tk,.int (m:Int),.tup (rs.map rwE)] [tk,.int (m:Int),.tup (rs.map rwE)]) else none) with
  |some k=>some k
  |none=>_)=_
 rw[h];have:=Jw h;have b:Zx [tk,.int (m:Int),.tup (rs.map rwE)] [tk,.int (m:Int),.tup (rs.map rwE)]=true:=this;rw[b];rfl
theorem Zhc(h:ev F a U st=some (.bl false,st1)):ev F (.or a b) U st=ev F b U st1:=by
 show Z0 (ev F a) (evC (.bl true)) (ev F b) U st=_;unfold Z0;rw[h]
theorem Zga(h:ev F a U st=some (.bl true,st1)):ev F (.and a b) U st=ev F b U st1:=by
 show Z0 (ev F a) (ev F b) (evC (.bl false)) U st=_;unfold Z0;rw[h]
theorem Zf9(h:ev F a U st=some (.bl false,st1)):ev F (.and a b) U st=some (.bl false,st1):=by
 show Z0 (ev F a) (ev F b) (evC (.bl false)) U st=_;unfold Z0;rw[h];rfl
theorem Lp.keep(h:Lp ns tk m rs L bo kp j q tr us ks N s)(k:Grw s st):Lp ns tk m rs L bo kp j q tr us ks N st:=⟨k.get h.s0,h.b.grw k,h.k,k.get h.tl,k.get h.u,h.ok,h.n,h.ul,h.kl⟩
theorem Y.nel0(f:s[w]?=some (bb,xs))(h:Y F s a U (.lst w)):Y F s (.cmp .NotEq a (.lstE .aN)) U (.bl (!xs.isEmpty)):=λst g=>by
 obtain⟨b,i,e⟩:=h st g;refine⟨b++[(true,[])],?_,e.trans .push⟩;show Zz (ev F a) (ev F (.lstE .aN)) (Yx .NotEq) U st=_;unfold Zz;rw[i];show Yx .NotEq (.lst w) (.lst b.length) (b++[(true,[])])=_;unfold Yx;have:VJ .NotEq (.lst w) (.lst b.length) (b++[(true,[])])=some (!xs.isEmpty):=by
  show((o2 (λ(c d:Z8)=>W8 c.2 d.2) (b++[(true,[])])[w]? (b++[(true,[])])[b.length]?).join).map Bool.not=_
  rw[(g.trans (e.trans .push)).get f,Zu];show(W8 xs []).map Bool.not=_;unfold W8;rw[if_pos (by rw[List.isEmpty_nil,dF]),List.isEmpty_nil,dD]
  rfl
 rw[this]
def wv(i:Nat):Int:=if i=0 then 1 else 48271
theorem Zdb{cc:Int}(ht:t<=2)(K:t<=m)(h3:x15=jI cc)(hl:s[j]?=some (true,tr.map inD))(R:Trs m tr):∃ u:Li Int,(u.length<=m/\∀ v∈u,Sm v)/\∃ O,(∀ P,ex (rT (n+10)) (.seq (.set 16 (.tOf Ys)) (.seq (.ite (.and (.cmp .Eq (.bin .Mod (.bin .FloorDiv (.v 15) (.i 2)) (.i 3)) (.i 0)) (.cmp .NotEq (.v 10) (.lstE .aN))) (.z (.set 16 (.ix (.v 10) (.bin .Mod (.bin .FloorDiv (.v 15) (.i 6)) (.len (.v 10)))))) .skip) P)) (lE v1 t m sz cnt wr x7 x L j x11 bo q x14 x15 x16) s=ex (rT (n+10)) P (lE v1 t m sz cnt wr x7 x L j x11 bo q x14 x15 (some (inD u))) O)/\Grw s O:=by
 subst h3;have d:∀ c:Int,∃ v,Sm v/\C (rT (n+10)) s 185 [.int c] (.int v):=λc=>Jm (n:=n+9)
 have cl:Lv s (ev (rT (n+10)) Ys (lE v1 t m sz cnt wr x7 x L j x11 bo q x14 (jI cc) x16)) ((List.range t).map λa=>D.int (Classical.choose (d (cc / 6 * wv a % 2147483647)))):=V1 (F:=rT (n+10)) (b:=one) (wk:=Yt true) (fr:=[15]) (it:=.v 2) (elt:=.call 185 (.u (.bin .Mod (.bin .Mult (.bin .FloorDiv (.v 1) (.i 6)) (.ix (.lstE (.aC (.i 1) (.u (.i 48271)))) (.v 0))) (.i 2147483647))) []) (en:=λ(k:Nat)=>D.int (k:Int)) (g:=λa=>D.int (Classical.choose (d (cc / 6 * wv a % 2147483647)))) (l:=List.range t) (Wk.rng (N:=t) (by omega) (.r rf)) (by rw[cM];omega) λa Q=>by
  have Q:=cW.mp Q;refine .call1 (.md (.mul (.fd (.r rf) (.r rf) (by decide)) (.ixL (j:=a) (xs:=[.int 1,.int 48271]) (.mk (.r rf)) (.r rf) ?_) ?_) (.r rf) (by decide)) (Classical.choose_spec (d (cc / 6 * wv a % 2147483647))).2
  .have:a=0\/a=1:=by omega
   rcases this with rfl|rfl<;>rfl
  .unfold wv;split<;>rfl
 obtain⟨G,w,b1,e1,h1,J⟩:=cl s .refl;have E:=Yg e1 h1;obtain⟨e,h⟩:∃ e:Li Int,((List.range t).map λa=>Classical.choose (d (cc / 6 * wv a % 2147483647)))=e:=⟨_,rfl⟩
 have H:e.length<=m/\∀ v∈e,Sm v:=by
  rw[<-h];refine⟨by rw[aE,cM];exact K,λv Z=>?_⟩
  obtain⟨a,_,rfl⟩:=aR.mp Z;exact(Classical.choose_spec (d (cc / 6 * wv a % 2147483647))).1
 have e3:D.tup ((List.range t).map λa=>D.int (Classical.choose (d (cc / 6 * wv a % 2147483647))))=inD e:=by
  rw[<-h];unfold inD inZ;rw[bQ];rfl
 have E:ev (rT (n+10)) (.tOf Ys) (lE v1 t m sz cnt wr x7 x L j x11 bo q x14 (jI cc) x16) s=some (inD e,G):=by rw[<-e3];exact E
 have I:=J.get hl;have T:Y (rT (n+10)) G (.and (.cmp .Eq (.bin .Mod (.bin .FloorDiv (.v 15) (.i 2)) (.i 3)) (.i 0)) (.cmp .NotEq (.v 10) (.lstE .aN))) (lE v1 t m sz cnt wr x7 x L j x11 bo q x14 (jI cc) (some (inD e))) (.bl (decide (cc / 2 % 3=0)&&!(tr.map inD).isEmpty)):=.and (.cmp (.md (.fd (.r rf) (.r rf) (by decide)) (.r rf) (by decide)) (.r rf) λ_=>rfl) λ_=>.nel0 I (.r rf)
 obtain⟨o,B,y⟩:=T G .refl;cases A:decide (cc / 2 % 3=0)&&!(tr.map inD).isEmpty with
 |false=>
  rw[A]at B;exact⟨e,H,o,λ_=>(Zc (Zk E)).trans (Zc ((ZR B).trans Ze)),J.trans y⟩
 |true=>
  rw[A]at B;rw[bA7]at A;have hp:0 < tr.length:=by
   cases tr with
   |nil=>exact nomatch A.2
   |cons _ _=>exact Nat.succ_pos _
  have em:=Zt (cc / 6) (show(0:Int) < (tr.length:Int) by omega)
  obtain⟨p,M⟩:∃ p:Nat,cc / 6 % (tr.length:Int)=(p:Int):=⟨_,(bR em.1).symm⟩;have f:p < tr.length:=by omega
  have S:Y (rT (n+10)) o (.len (.v 10)) (lE v1 t m sz cnt wr x7 x L j x11 bo q x14 (jI cc) (some (inD e))) (.int (tr.length:Int)):=by
   have:=Y.lenl (F:=rT (n+10)) (a:=.v 10) (U:=lE v1 t m sz cnt wr x7 x L j x11 bo q x14 (jI cc) (some (inD e))) (y.get I) (.r rf);rw[show((true,tr.map inD):Z8).2.length=tr.length from aE ..]at this;exact this
  have V:Y (rT (n+10)) o (.ix (.v 10) (.bin .Mod (.bin .FloorDiv (.v 15) (.i 6)) (.len (.v 10)))) (lE v1 t m sz cnt wr x7 x L j x11 bo q x14 (jI cc) (some (inD e))) (inD tr[p]):=.ixl (j:=p) (y.get I) (.r rf) (by rw[<-M];exact .md (.fd (.r rf) (.r rf) (by decide)) S (by omega)) (by show(tr.map inD)[p]?=_;rw[aT,lG7 f];rfl)
  obtain⟨W,e5,X⟩:=V o .refl;exact⟨tr[p],⟨R.l _ (dG f),R.s _ (dG f)⟩,W,λ_=>(Zc (Zk E)).trans (Zc ((Z9 B).trans ((Zc (Zk e5)).trans Ze))),J.trans (y.trans X)⟩
theorem Zay(h:Lp ns tk m rs L bo kp j q tr us ks N st)(g:Dj bo kp j q)(T:Rs m rs)(hm:m<=900)(hL:L<=800)(K:okD 7 tk=true)(ht:t<=2)(J:t<=m)(ha:i<=100)(hN:N<=8):∃ B A f H I st',ex (rT (n+10)) Yr (lE v1 t m sz cnt wr x7 (pgD tk m rs) L j x11 bo q (jN i) x15 x16) st=some (.nx (lE v1 t m sz cnt wr x7 (pgD tk m rs) L j x11 bo q (jN i) B A),st')/\Lp ns tk m rs L bo kp j q f H I (N+1) st':=by
 obtain⟨c,cc⟩:=Jk (n:=n+9) h.s0 (k:=i) (by omega)
 obtain⟨s1,e1,k1⟩:=(.call (xs:=[.lst 0,.int (i:Int)]) (.cons (.r rf) (.cons (.r rf) .nil)) cc:Y (rT (n+10)) st (.call 27 (.aC (.v 0) (.u (.v 14))) []) (lE v1 t m sz cnt wr x7 (pgD tk m rs) L j x11 bo q (jN i) x15 x16) (.int c)) st .refl;have D:=h.keep k1;obtain⟨u,S,s2,e2,k2⟩:=Zdb (n:=n) (cc:=c) (v1:=v1) (sz:=sz) (cnt:=cnt) (wr:=wr) (x7:=x7) (x:=pgD tk m rs) (L:=L) (x11:=x11) (bo:=bo) (q:=q) (x14:=jN i) (x16:=x16) ht J rfl D.tl D.ok
 have o:=D.keep k2;obtain⟨O,f,e3,R,M,t3,P,o3⟩:=Zbt (n:=n+6) (t:=u) o.b o.tl g.jb g.jk o.n;have u3:=R.get o.u (by simp only[aH,bE,or_false,not_or];exact⟨g.qb,g.qj⟩)
 have W:=R.get o.s0 (by simp only[aH,bE,or_false,not_or];exact⟨g.z.1,g.z.2.2.1⟩)
 have T3:Trs m f:=by
  rcases o3 with e|e
  .rw[e];exact o.ok
  .have:=P
   rw[e]at this ⊢;refine⟨λt h=>?_,λt h=>?_,by omega⟩
   .rcases aU.mp h with h|h
    .exact o.ok.l t h
    .rw[aJ.mp h];exact S.1
   .rcases aU.mp h with h|h
    .exact o.ok.s t h
    .rw[aJ.mp h];exact S.2
 obtain⟨E,e4,k4⟩:=(Y.cmp (op:=.NotEq) (k:=false) (x:=pgD tk m rs) (y:=pgD tk m rs) (.meth M.ob (.r rf) rfl .nil (Zdi (n:=n+9) M)) (.r rf) λst=>by
  show(eqS st (pgD tk m rs) (pgD tk m rs)).map Bool.not=_;rw[Zgg K];rfl:Y (rT (n+10)) O (.cmp .NotEq (.meth [(263,270)] (.v 12) .aN) (.v 8)) (lE v1 t m sz cnt wr x7 (pgD tk m rs) L j x11 bo q (jN i) (jI c) (some (inD u))) (.bl false)) O .refl
 have c3:=JN (k:=true) (XO (F:=rT (n+10)) (a:=.aC (.v 12) (.aC (.v 10) (.u (.v 16)))) (U:=lE v1 t m sz cnt wr x7 (pgD tk m rs) L j x11 bo q (jN i) (jI c) (some (inD u))) (xs:=[.dic bo,.lst j,inD u]) rfl e3);have e5:=(Zhc c3).trans e4;have h4:Lp ns tk m rs L bo kp j q f us ks N E:=Lp.keep ⟨W,M,o.k,t3,u3,T3,P,o.ul,o.kl⟩ k4
 have X:Y (rT (n+10)) E (.cmp .Eq (.bin .Mod (.v 15) (.i 2)) (.i 1)) (lE v1 t m sz cnt wr x7 (pgD tk m rs) L j x11 bo q (jN i) (jI c) (some (inD u))) (.bl (decide (c % 2=1))):=.cmp (.md (.r rf) (.r rf) (by decide)) (.r rf) λ_=>rfl
 obtain⟨s5,G,k5⟩:=X E .refl;have d:=h4.keep k5;have g1:∀ w,ex (rT (n+10)) (.seq (.set 15 (.call 27 (.aC (.v 0) (.u (.v 14))) [])) w) (lE v1 t m sz cnt wr x7 (pgD tk m rs) L j x11 bo q (jN i) x15 x16) st=ex (rT (n+10)) w (lE v1 t m sz cnt wr x7 (pgD tk m rs) L j x11 bo q (jN i) (jI c) x16) s1:=λw=>Zc (Zk e1)
 have g3:∀ p w,ex (rT (n+10)) (.seq (.ite (.or (.not (.call 279 (.aC (.v 12) (.aC (.v 10) (.u (.v 16)))) [])) (.cmp .NotEq (.meth [(263,270)] (.v 12) .aN) (.v 8))) p .skip) w) (lE v1 t m sz cnt wr x7 (pgD tk m rs) L j x11 bo q (jN i) (jI c) (some (inD u))) s2=ex (rT (n+10)) w (lE v1 t m sz cnt wr x7 (pgD tk m rs) L j x11 bo q (jN i) (jI c) (some (inD u))) E:=λp w=>Zc ((ZR e5).trans Ze)
 have go:=λp w=>(g1 _).trans ((e2 _).trans (g3 p w))
 by_cases V:c % 2=1
 .rw[aG V]at G
  obtain⟨s6,e7,Q,b6,Z⟩:=Zde (n:=n) (bb:=true) ⟨T,hm,d.ok,hL⟩ d.b d.k d.tl d.u g.qj g.qb g.qk d.n (by have:=d.ul;omega) (by have:=d.kl;omega)
  have c7:=JN (k:=true) (XO (F:=rT (n+10)) (a:=.aC (.v 12) (.aC (.v 8) (.aC (.v 10) (.aC (.v 9) (.u (.v 13)))))) (U:=lE v1 t m sz cnt wr x7 (pgD tk m rs) L j x11 bo q (jN i) (jI c) (some (inD u))) (xs:=[.dic bo,pgD tk m rs,.lst j,.int (L:Int),.dic q]) rfl e7);have C:∀ {z:Nat},z≠bo->z≠kp->z≠q->z∉[bo,kp,q]:=λD o h3=>by simp only[aH,bE,or_false,not_or];exact⟨D,o,h3⟩
  have ln:=Zci (ks:=ks) T (tr:=f) (by have:=d.n;omega)
  have fu:=(YF (l:=f) (us:=us)).2.2;exact⟨_,_,f,_,_,s6,(go _ _).trans ((Zc ((ZR ((Zga G).trans c7)).trans Ze)).trans Ze),Q.get d.s0 (C g.z.1 g.z.2.1 g.z.2.2.2),b6,d.k.ask,Q.get d.tl (C g.jb g.jk (Ne.symm g.qj)),Z,d.ok,d.n,by have:=d.ul;have:=d.n;omega,by have:=d.kl;omega⟩
 .rw[aF V]at G
  exact⟨_,_,f,us,ks,s5,(go _ _).trans ((Zc ((ZR (Zf9 G)).trans Ze)).trans Ze),d.s0,d.b,d.k,d.tl,d.u,d.ok,d.n,by have:=d.ul;omega,by have:=d.kl;omega⟩
theorem WV(J:Dj bo kp j q)(F:Rs m rs)(G:m<=900)(I:L<=800)(g:okD 7 tk=true)(E:t<=2)(f:t<=m):∀ (l:Li Nat) {tr us:Li (Li Int)}{ks:Li Ky}{N:Nat}{x14 x15 x16:Ot D}{st:Za},(∀ i∈l,i<=100)->N+l.length<=8->Lp ns tk m rs L bo kp j q tr us ks N st->∃ e c b z x B K st',Zl (λd U s=>ex (rT (n+10)) Yr (Zg U 14 d) s) (l.map λ(k:Nat)=>D.int (k:Int)) (lE v1 t m sz cnt wr x7 (pgD tk m rs) L j x11 bo q x14 x15 x16) st=some (.nx (lE v1 t m sz cnt wr x7 (pgD tk m rs) L j x11 bo q e c b),st')/\Lp ns tk m rs L bo kp j q z x B K st'/\K<=8
 |[],tr,us,ks,N,x14,x15,x16,st,_,C,h=>⟨x14,x15,x16,tr,us,ks,N,st,rfl,h,by have:N+0<=8:=C;omega⟩
 |a :: l,tr,us,ks,N,x14,x15,x16,st,H,C,h=>by
  rw[aQ]at C;obtain⟨v,u,O,M,Q,Z,X,V⟩:=Zay (n:=n) (v1:=v1) (sz:=sz) (cnt:=cnt) (wr:=wr) (x7:=x7) (x11:=x11) (x15:=x15) (x16:=x16) h J F G I g E f (H a lQ7) (by omega)
  obtain⟨r,p,o,y,w,A,Y,P,W,T,S⟩:=WV J F G I g E f l (x14:=jN a) (x15:=v) (x16:=u) (λi R=>H i (lM7 _ R)) (by omega) V
  refine⟨r,p,o,y,w,A,Y,P,?_,T,S⟩;rw[aM,Zl];rw[show Zg (lE v1 t m sz cnt wr x7 (pgD tk m rs) L j x11 bo q x14 x15 x16) 14 (.int (a:Int))=lE v1 t m sz cnt wr x7 (pgD tk m rs) L j x11 bo q (jN a) x15 x16 from rfl];simp only[X];exact W
def tlS:Nat->CS->CS
 |k+1,.seq _ q=>tlS k q
 |_,q=>q
abbrev vE7(i:Int)(t m sz cnt:Nat)(h g f e d c b a:Ot D):Env:=[jL 0,jI i,jN t,jN m,jN sz,jN cnt,h,g,f,e,d,c,b,a,none,none,none]
def Cv(n:Nat)(s:Za)(a:Nat->Int):Prop:=∀ k:Nat,k<=1000->C (rT (n+10)) s 27 [.lst 0,.int (k:Int)] (.int (a k))
def tkD(t:Nat):D:=.tup (List.replicate t (.tup [.int 0,.int 9]))
theorem Zh1:∀ c,c < 11->Vf (.tup [.int (9+2 * (c:Nat):Int),.int (14+2 * (c:Nat):Int)])=some ((List.range' (9+2 * c) 5).map λ(k:Nat)=>(k:Int)):=by
 intro c a;have:c=0\/c=1\/c=2\/c=3\/c=4\/c=5\/c=6\/c=7\/c=8\/c=9\/c=10:=by omega
 rcases this with rfl|rfl|rfl|rfl|rfl|rfl|rfl|rfl|rfl|rfl|rfl<;>rfl
variable{F:Nat->Fn}
variable{cv:Nat->Int}{x6 x8 x9 x10 x12:Ot D}
section
variable{c:Int}{q:CS}
theorem Y.cell(h:Cv n s cv)(b:U[0]?=some (jL 0))(a:k<=1000):Y (rT (n+10)) s (.call 27 (.aC (.v 0) (.u (.i (k:Int)))) []) U (.int (cv k)):=.call (xs:=[.lst 0,.int (k:Int)]) (.cons (.v b) (.cons (.r rf) .nil)) (h k a)
theorem UJ{c:Za}(h:ev F a U st=some (x,st1))(e:ev F b U st1=some (.tup xs,c))(d:xs.length < 1000:=by first|decide | (simp only[aQ,cU];decide)):ev F (.aC a b) U st=some (.tup (x :: xs),c):=by
 show Zz (ev F a) (ev F b) Xv U st=_;unfold Zz;simp only[h,e];exact if_pos d
theorem ZgT(h:t<=3):okD 7 (tkD t)=true:=by
 have:t=0\/t=1\/t=2\/t=3:=by omega
 rcases this with rfl|rfl|rfl|rfl<;>rfl
theorem Zgl{a:CE}{b:Li Int}(c:ev F a U st=some (x,st1))(h:Vf x=some b):ex F (.for3 i a q) U st=Zl (λd U s=>ex F q (Zg U i d) s) (b.map .int) U st1:=by
 show VO i (ev F a) (ex F q) U st=_;unfold VO;rw[c];simp only[h]
theorem Zax(A:st[0]?=some (false,ns.map D.int))(s:Rs m rs)(y:m<=900)(z:L<=800)(I:t<=2)(l:t<=m)(hn:cnt<=10)(M:Trs m tr)(f:tr.length<=10)(p:st[j]?=some (true,tr.map inD))(H:0≠j):∃ st',ex (rT (n+10)) (tlS 12 c_law_k72.body) (vE7 v1 t m sz cnt (jL w) x7 (some (pgD (tkD t) m rs)) (jN L) (jL j) x11 none none) st=some (.rt (.bl true),st'):=by
 obtain⟨c,r,T,g,q,l1⟩:=ZgA (n:=n+8) (tk:=tkD t) (m:=m) (rs:=rs) (L:=L) (a:=.aC (.v 8) (.aC (.tOf (.v 10)) (.u (.v 9)))) (ds:=[]) (U:=vE7 v1 t m sz cnt (jL w) x7 (some (pgD (tkD t) m rs)) (jN L) (jL j) x11 none none) (st:=st) (st1:=st) f (xs:=[pgD (tkD t) m rs,.tup (tr.map inD),.int (L:Int)]) (UJ rfl (UJ (Yg rfl p) rfl)) rfl
 have Y:=Zh p;have l0:=Zh A;have Z:=Zh q.ob;have X:=Zh q.ke;have J:Lp ns (tkD t) m rs L st.length r j c.length tr [] [] 0 (c++[(true,[])]):=⟨Grw.push.get (g.get A),q.grw .push,.nil,Grw.push.get (g.get p),Zu,M,f,aD _,aD _⟩;have h:Dj st.length r j c.length:=⟨by have:=g.len;omega,by omega,by omega,by omega,by omega,⟨by omega,by omega,H,by have:=g.len;omega⟩⟩
 obtain⟨x14,x15,x16,B,V,ks,N,E,S,d,hN⟩:=WV (n:=n) (v1:=v1) (sz:=sz) (cnt:=cnt) (wr:=w) (x7:=x7) (x11:=x11) h s y z (ZgT (by omega)) I l (List.range' (9+2 * cnt) 5) (x14:=none) (x15:=none) (x16:=none) (λi K=>by have:=List.mem_range'_1.mp K;omega) (by rw[List.length_range'];decide) J
 obtain⟨C,R,_⟩:=Zde (n:=n) (bb:=true) ⟨s,y,d.ok,z⟩ d.b d.k d.tl d.u h.qj h.qb h.qk d.n (by have:=d.ul;omega) (by have:=d.kl;omega)
 have Q:ex (rT (n+10)) (.for3 14 (.aC (.bin .Add (.i 9) (.bin .Mult (.i 2) (.v 5))) (.u (.bin .Add (.i 14) (.bin .Mult (.i 2) (.v 5))))) Yr) (lE v1 t m sz cnt w x7 (pgD (tkD t) m rs) L j x11 st.length c.length none none none) (c++[(true,[])])=some (.nx (lE v1 t m sz cnt w x7 (pgD (tkD t) m rs) L j x11 st.length c.length x14 x15 x16),E):=by
  have o:=Zh1 cnt (by omega)
  have P:ev (rT (n+10)) (.aC (.bin .Add (.i 9) (.bin .Mult (.i 2) (.v 5))) (.u (.bin .Add (.i 14) (.bin .Mult (.i 2) (.v 5))))) (lE v1 t m sz cnt w x7 (pgD (tkD t) m rs) L j x11 st.length c.length none none none) (c++[(true,[])])=some (.tup [.int (9+2 * (cnt:Int)),.int (14+2 * (cnt:Int))],c++[(true,[])]):=by
   have G:ZU (cnt:Int)=true:=UR (by omega)
   show(match (match (if ZU 2||ZU (cnt:Int) then some (2 * (cnt:Int)) else none) with|some v=>some (D.int v,c++[(true,[])])|none=>none) with|some (x,W)=>_|none=>none)=_
   rw[G,dF];rfl
  have O:((List.range' (9+2 * cnt) 5).map λ(k:Nat)=>(k:Int)).map D.int=(List.range' (9+2 * cnt) 5).map λ(k:Nat)=>D.int (k:Int):=bQ ..
  rw[Zgl P o,O];exact S
 refine⟨C,(Zc (Zk T)).trans ((Zc (Zk (F:=rT (n+10)) (e:=.dnew) (v:=.dic c.length) (st:=c) (st':=c++[(true,[])]) rfl)).trans ((Zc Q).trans (Zp (ZK (XO (F:=rT (n+10)) (xs:=[.dic st.length,pgD (tkD t) m rs,.lst j,.int (L:Int),.dic c.length]) rfl R)))))⟩
end
section
variable{c:Int}{q:CS}
theorem Qq(h0:s[0]?=some (false,ns.map D.int))(hc:Cv n s cv)(Q:0 < m)(hm:m<=900)(ht:t<=2)(M:t<=m)(hz:sz<=3)(hn:cnt<=10):RS (rT (n+10)) s (tlS 6 c_law_k72.body) (vE7 v1 t m sz cnt none none none none none none none none):=by
 refine RS.fill (i0:=6) (i:=7) (e:=.v 4) (q:=XY) (q':=tlS 8 c_law_k72.body) (N:=sz) (I:=λj U=>∃ x,U=vE7 v1 t m sz cnt (jL j) x none none none none none none) (P:=λd=>∃ r,YS m sz r/\d=rwE r) (λ_ _=>rfl) (by omega) (λj=>⟨none,rfl⟩) (λj hj k S U z st acc g o A=>?_) λj xs U' p A hx z g2 hj h2=>?_
 .obtain⟨x,rfl⟩:=z
  have X:Lv s (ev (rT (n+10)) YX (vE7 v1 t m sz cnt (jL j) (jN k) none none none none none none)) ((List.range 3).map λa=>D.int (cv (3+3 * k+a))):=V1 (F:=rT (n+10)) (b:=one) (wk:=Yt true) (fr:=[7,0]) (it:=.i 3) (elt:=.call 27 (.aC (.v 2) (.u (.bin .Add (.bin .Add (.i 3) (.bin .Mult (.i 3) (.v 1))) (.v 0)))) []) (en:=λ(k:Nat)=>D.int (k:Int)) (g:=λa=>D.int (cv (3+3 * k+a))) (l:=List.range 3) (Wk.rng (N:=3) (by decide) (.r rf)) (by decide) λa o=>by
   have o:=cW.mp o;exact .call (xs:=[.lst 0,.int ((3+3 * k+a:Nat):Int)]) (.cons (.r rf) (.cons (by
    rw[show((3+3 * k+a:Nat):Int)=3+3 * (k:Int)+(a:Int) by omega]
    exact .add (.add (.r rf) (.mul (.r rf) (.r rf) (UR (by omega)))) (.r rf)) .nil)) (hc _ (by omega))
  obtain⟨s1,w,b1,e1,h1,k1⟩:=X st g;obtain⟨r,hr,cr⟩:=ZdW (n:=n+7) (m:=m) (sz:=sz) Q hm (by omega) h1
  obtain⟨s3,e3,k3⟩:=cr s1 .refl;have ec:ev (rT (n+10)) (.call 29 (.aC YX (.aC (.v 3) (.u (.v 4)))) []) (vE7 v1 t m sz cnt (jL j) (jN k) none none none none none none) st=some (rwE r,s3):=XO (F:=rT (n+10)) (xs:=[.lst w,.int (m:Int),.int (sz:Int)]) (UJ (xs:=[.int (m:Int),.int (sz:Int)]) e1 rfl) e3;obtain⟨Z,W,H,V⟩:=Qb (i:=6) (j:=j) (acc:=acc) rfl ec (k1.trans k3) o A
  exact⟨rwE r,_,Z,⟨r,hr,rfl⟩,⟨_,rfl⟩,W,H,V⟩
 .obtain⟨x,rfl⟩:=z
  obtain⟨rs,rfl,O⟩:=all_map hx;rw[aE]at A;have hR:Rs m rs:=⟨by omega,λr h=>by rw[A];exact O r h⟩
  have E:Cv n p cv:=λk S=>Gv.mono (hc k S) g2
  have y8:Y (rT (n+10)) p (.tupE (.aC (.bin .Mult (.tupE (.u (.tupE (.aC (.i 0) (.u (.i 9)))))) (.v 2)) (.aC (.v 3) (.u (.tOf (.v 6)))))) (vE7 v1 t m sz cnt (jL j) x none none none none none none) (pgD (tkD t) m rs):=.cons (.rep (.r rf) (.r rf) (by omega)) (.cons (.r rf) (.cons (λst g=>⟨st,Yg rfl (g.get h2),.refl⟩) .nil))
  have em:=Zt (cv 2 / 4) (j:=9) (by decide)
  obtain⟨L,hL⟩:∃ L:Nat,cv 2 / 4 % 9=(L:Int):=⟨_,(bR em.1).symm⟩;have y9:Y (rT (n+10)) p (.bin .Mod (.bin .FloorDiv (.call 27 (.aC (.v 0) (.u (.i 2))) []) (.i 4)) (.i 9)) (vE7 v1 t m sz cnt (jL j) x (some (pgD (tkD t) m rs)) none none none none none) (.int (L:Int)):=by
   rw[<-hL];exact .md (.fd (Y.cell (k:=2) E rfl (by decide)) (.r rf) (by decide)) (.r rf) (by decide)
  refine RS.set (i:=8) y8 (RS.set (i:=9) y9 (RS.fill (s:=p) (i0:=10) (i:=11) (e:=.v 5) (q:=XX) (q':=tlS 12 c_law_k72.body) (N:=cnt) (I:=λy U=>∃ G,U=vE7 v1 t m sz cnt (jL j) x (some (pgD (tkD t) m rs)) (jN L) (jL y) G none none) (P:=λd=>∃ u:Li Int,(u.length=t/\∀ v∈u,Sm v)/\d=inD u) (λ_ _=>rfl) (by omega) (λy=>⟨none,rfl⟩) (λy T k S U z st acc g o A=>?_) λy xs U' s3 R J z g3 T h3=>?_)) p .refl
  .obtain⟨G,rfl⟩:=z
   have f:∀ c:Int,∃ v,Sm v/\C (rT (n+10)) p 185 [.int c] (.int v):=λc=>Jm (n:=n+9)
   have X:Lv p (ev (rT (n+10)) X0 (vE7 v1 t m sz cnt (jL j) x (some (pgD (tkD t) m rs)) (jN L) (jL y) (jN k) none none)) ((List.range t).map λa=>D.int (Classical.choose (f (cv (9+2 * k+a))))):=V1 (F:=rT (n+10)) (b:=one) (wk:=Yt true) (fr:=[11,0]) (it:=.v 2) (elt:=.call 185 (.u (.call 27 (.aC (.v 2) (.u (.bin .Add (.bin .Add (.i 9) (.bin .Mult (.i 2) (.v 1))) (.v 0)))) [])) []) (en:=λ(k:Nat)=>D.int (k:Int)) (g:=λa=>D.int (Classical.choose (f (cv (9+2 * k+a))))) (l:=List.range t) (Wk.rng (N:=t) (by omega) (.r rf)) (by rw[cM];omega) λa o=>by
    have o:=cW.mp o;exact .call1 (.call (xs:=[.lst 0,.int ((9+2 * k+a:Nat):Int)]) (.cons (.r rf) (.cons (by
     rw[show((9+2 * k+a:Nat):Int)=9+2 * (k:Int)+(a:Int) by omega]
     exact .add (.add (.r rf) (.mul (.r rf) (.r rf) (UR (by omega)))) (.r rf)) .nil)) (E _ (by omega))) (Classical.choose_spec (f (cv (9+2 * k+a)))).2
   obtain⟨Z,w,b1,W,V,H⟩:=X st g;obtain⟨s5,e5,k5,h5⟩:=Qb (i:=10) (j:=y) (acc:=acc) rfl (Yg W V) H o A;refine⟨inD ((List.range t).map λa=>Classical.choose (f (cv (9+2 * k+a)))),_,s5,⟨_,⟨by rw[aE,cM],λv hv=>?_⟩,rfl⟩,⟨_,rfl⟩,e5,k5,?_⟩
   .obtain⟨a,_,rfl⟩:=aR.mp hv
    exact(Classical.choose_spec (f (cv (9+2 * k+a)))).1
   .rw[h5]
    unfold inD inZ;rw[bQ];rfl
  .obtain⟨G,rfl⟩:=z
   obtain⟨tr,rfl,B⟩:=all_map J;rw[aE]at R;have j0:0≠y:=by have:=Zh h0;have:=g2.len;omega
   exact Zax ((g2.trans g3).get h0) hR hm (by omega) ht M hn ⟨λu K=>by have:=(B u K).1;omega,λu K=>(B u K).2,by omega⟩ (by omega) h3 j0
theorem Q8:∃ st',rT (n+11) 16 [.lst 0] [(false,ns.map .int)]=some (.bl true,st'):=by
 obtain⟨s,es⟩:∃ s:Za,[(false,ns.map .int)]=s:=⟨_,rfl⟩;have p:s[0]?=some (false,ns.map D.int):=by rw[<-es];rfl
 rw[es];obtain⟨cv,a⟩:∃ cv:Nat->Int,Cv n s cv:=by
  have h:∀ k:Nat,∃ v:Int,k<=1000->C (rT (n+10)) s 27 [.lst 0,.int (k:Int)] (.int v):=λk=>by
   by_cases c:k<=1000
   .obtain⟨v,M⟩:=Jk (n:=n+9) p c;exact⟨v,λ_=>M⟩
   .exact⟨0,λh=>absurd h c⟩
  exact⟨λk=>Classical.choose (h k),λk c=>Classical.choose_spec (h k) c⟩
 have e3:=Zt (cv 0) (j:=3) (by decide)
 obtain⟨t,R⟩:∃ t:Nat,cv 0 % 3=(t:Int):=⟨_,(bR e3.1).symm⟩;have b:t<=2:=by omega
 obtain⟨u,Q,P,O,N⟩:∃ u:Nat,(if (t:Int) > 1 then (t:Int) else 1)=(u:Int)/\1<=u/\u<=2/\t<=u:=by
  split
  .exact⟨t,rfl,by omega,by omega,by omega⟩
  .exact⟨1,rfl,by omega,by omega,by omega⟩
 have em:=Zt (cv 0 / 3) (j:=6 - (u:Int)) (by omega)
 obtain⟨m,T⟩:∃ m:Nat,(u:Int)+cv 0 / 3 % (6 - (u:Int))=(m:Int):=⟨_,(bR (by omega)).symm⟩
 have U:=Zt (cv 1) (j:=3) (by decide)
 obtain⟨sz,L⟩:∃ z:Nat,cv 1 % 3=(z:Int):=⟨_,(bR U.1).symm⟩;have V:=Zt (cv 1 / 3) (j:=3) (by decide)
 obtain⟨cnt,S⟩:∃ z:Nat,cv 1 / 3 % 3=(z:Int):=⟨_,(bR V.1).symm⟩;have w:Y (rT (n+10)) s (.max (.i 1) (.v 2)) [jL 0,jI (cv 0),jN t,none,none,none,none,none,none,none,none,none,none,none,none,none,none] (.int (u:Int)):=.r λst=>by rw[<-Q];rfl
 have all:RS (rT (n+10)) s c_law_k72.body ([jL 0]++List.replicate 16 none):=by
  refine .set (x:=.int (cv 0)) (Y.cell (k:=0) a rfl (by decide)) (.set (x:=.int (t:Int)) (by rw[<-R];exact .md (.r rf) (.r rf) (by decide)) (.set (x:=.int (m:Int)) (by rw[<-T];exact .add w (.md (.fd (.r rf) (.r rf) (by decide)) (.sub (.r rf) w) (by omega))) (.set (x:=.int (sz:Int)) (by rw[<-L];exact .md (Y.cell (k:=1) a rfl (by decide)) (.r rf) (by decide)) (.set (x:=.int (cnt:Int)) (by rw[<-S];exact .md (.fd (Y.cell (k:=1) a rfl (by decide)) (.r rf) (by decide)) (.r rf) (by decide)) ?_))))
  have y:Y (rT (n+10)) s (.cmp .Eq (.bin .Mod (.call 27 (.aC (.v 0) (.u (.i 2))) []) (.i 4)) (.i 3)) (vE7 (cv 0) t m sz cnt none none none none none none none none) (.bl (decide (cv 2 % 4=3))):=.cmp (.md (Y.cell (k:=2) a rfl (by decide)) (.r rf) (by decide)) (.r rf) λ_=>rfl
  by_cases q:cv 2 % 4=3
  .rw[aG q]at y
   have e2:=Zt (sz:Int) (j:=2) (by decide)
   obtain⟨d,l⟩:∃ z:Nat,(sz:Int) % 2=(z:Int):=⟨_,(bR e2.1).symm⟩;have e4:=Zt (cv 1 / 3) (j:=4) (by decide)
   obtain⟨B,o⟩:∃ z:Nat,7+cv 1 / 3 % 4=(z:Int):=⟨_,(bR (by omega)).symm⟩
   intro st g;obtain⟨J,e1,f⟩:=y st g;have F:Y (rT (n+10)) s (.bin .Mod (.v 4) (.i 2)) (vE7 (cv 0) t m sz cnt none none none none none none none none) (.int (d:Int)):=by rw[<-l];exact .md (.r rf) (.r rf) (by decide)
   have E:Y (rT (n+10)) s (.bin .Add (.i 7) (.bin .Mod (.bin .FloorDiv (.call 27 (.aC (.v 0) (.u (.i 1))) []) (.i 3)) (.i 4))) (vE7 (cv 0) t m d cnt none none none none none none none none) (.int (B:Int)):=by
    rw[<-o];exact .add (.r rf) (.md (.fd (Y.cell (k:=1) a rfl (by decide)) (.r rf) (by decide)) (.r rf) (by decide))
   obtain⟨I,Z,A⟩:=F J (g.trans f);obtain⟨H,X,K⟩:=E I (g.trans (f.trans A));obtain⟨G,W⟩:=Qq (n:=n) (v1:=cv 0) p a (by omega:0 < m) (by omega) b (by omega:t<=m) (by omega:d<=3) (by omega:B<=10) H (g.trans (f.trans (A.trans K)))
   exact⟨G,(Zc ((Z9 e1).trans ((Zc (Zk Z)).trans ((Zc (Zk X)).trans Ze)))).trans W⟩
  .rw[aF q]at y
   exact .no y (Qq p a (by omega) (by omega) b (by omega) (by omega) (by omega))
 obtain⟨st',e⟩:=all s .refl;exact⟨st',Yd (v:=c_law_k72) rfl rfl e⟩
end
end Dp
namespace PySem.W.Fast
def tw481205971125644167:=0
def tw297517051139730044:=0
def tw13117926865011062363:=0
def tw6022477451056450020:=0
def tw12456351369008603141:=0
def tw77846221242178206:=0
def tw1255222230069816300:=0
def tw14848480621551533686:=0
def tw17860135364345594138:=0
def tw17358156936327106239:=0
def tw3257822364886763249:=0
def tw3712301794895560207:=0
def tw8163874923908277801:=0
def tw1412303970018326462:=0
def tw10656152426718907962:=0
def tw2535967553165486361:=0
def tw14526365739831933353:=0
def tw6173914001235968090:=0
def tw5798271789151652844:=0
def tw17267766081613094962:=0
def tw16808669552198638353:=0
def tw3930770573218242888:=0
def tw17296225937308175713:=0
def tw16242779985176930187:=0
def tw15894752843679284714:=0
def tw13299945849121754787:=0
def tw10631154596297264423:=0
def tw18132856939073141248:=0
def tw4729285717133278510:=0
def tw8170792765926705822:=0
def tw18414632637663104007:=0
def tw6022228626243723287:=0
def tw791682439644594839:=0
def tw15810168023653745735:=0
def tw1543232398830607306:=0
def tw18266876922797848483:=0
def tw364428252162979387:=0
def tw2049219140051875353:=0
def tw1452726083553224219:=0
def tw16222702395366520211:=0
def tw17772652417985690927:=0
def tw16608861492033441892:=0
def tw13665289183022269609:=0
def tw3362756261037588363:=0
def tw15379865340833840494:=0
def tw4571515857446902472:=0
def tw1394932205708584842:=0
def tw5453294789632806183:=0
def tw12766270481403573477:=0
def tw2683988332544781990:=0
def tw8953404819447876121:=0
def tw9746899547932492173:=0
def tw13779246064764153639:=0
def tw3989075563683321999:=0
def tw16218442258507546460:=0
def tw13477787692194367710:=0
def tw13991371611771663005:=0
def tw6480411682626908123:=0
def tw9177440065031804869:=0
def tw1126307451491764540:=0
def tw11995651346958939283:=0
def tw16900665577427788406:=0
def tw4977857037353841655:=0
def tw4499560317170523718:=0
def tw14694300391152104218:=0
def tw6888208947897193182:=0
def tw11189874889007974318:=0
def tw15765761940659365779:=0
def tw15579508043490468831:=0
def tw9927329886830902334:=0
def tw975617225378808475:=0
def tw5425370469926937982:=0
def tw10304623542925804376:=0
def tw3759363119920445548:=0
def tw11960374038407945057:=0
def tw1180619710053979751:=0
def tw1629299294228382319:=0
def tw2405061238359150022:=0
def tw10494144618692901262:=0
def tw1307724926223265066:=0
def tw4888987389929026637:=0
def tw8877029103594308329:=0
def tw4918163258476956327:=0
def tw2955491891243819496:=0
def tw2846323266561831294:=0
def tw7302432035527377125:=0
def tw13253270953407258541:=0
def tw17793052048153862534:=0
def tw6796781577220930053:=0
def tw2463776541774706144:=0
def tw3182745429848644396:=0
def tw18347532686453696033:=0
def tw17379621111062772038:=0
def tw14698362109425765163:=0
def tw7203143914008212590:=0
def tw8228787171248398093:=0
def tw1860218628466328715:=0
def tw2394439793969856299:=0
def tw2511445349128599771:=0
def tw12396849466573243607:=0
def tw3048042070710574526:=0
def tw5532942661086470422:=0
def tw2791833145135933746:=0
def tw7321563656985730041:=0
def tw823251578389821663:=0
def tw4030843442456190012:=0
def tw13970273245631870166:=0
def tw17236714129548409058:=0
def tw10654884152332865726:=0
def tw4946015359609802491:=0
def tw9829013404017954345:=0
def tw11892732933929724585:=0
def tw2569386771406196694:=0
def tw11427573486178995492:=0
def tw13057991006772488465:=0
def tw17145736962842424425:=0
def tw4136582567436712510:=0
def tw3150134121634569017:=0
def tw2831016989469192370:=0
def tw2794433040535181848:=0
def tw9478277043695758845:=0
def tw18244851102122129717:=0
def tw5277545805647713155:=0
def tw13915903092853011117:=0
def tw3045216717733886371:=0
def tw511672956383652072:=0
def tw3987827728409373331:=0
def tw9563907735330107848:=0
def tw15714597248806934465:=0
def tw473115914021606244:=0
def tw11096636087094894540:=0
def tw13979964478216217851:=0
def tw7070667900929918554:=0
def tw2816715777132394438:=0
def tw2762860192521455275:=0
def tw4095587434510844966:=0
def tw8347505830543521380:=0
def tw7602571637161572968:=0
def tw10468695695007271209:=0
def tw6078052303493116321:=0
def tw5303469415954668016:=0
def tw1504782579308500379:=0
def tw15039894843284412635:=0
def tw11235994967593875534:=0
def tw14583601403912466188:=0
def tw6717907782187700824:=0
def tw14462400431972858901:=0
def tw18434916360283057542:=0
def tw5283714786290318367:=0
def tw11773539233800401080:=0
def tw2743803266487341607:=0
def tw13337646147920223:=0
def tw3034131633332773344:=0
def tw1048421716532630488:=0
def tw15606358823601187573:=0
def tw13408635111066950960:=0
def tw12274115250034249666:=0
def tw1492888634375491442:=0
def tw14302680179287434781:=0
def tw10111245422203828195:=0
def tw14794433497471774889:=0
def tw8205702212055812256:=0
def tw6719571896738688995:=0
def tw4613129807786814227:=0
def tw4501480502638968294:=0
def tw12400899993315280791:=0
def tw17377431156018258703:=0
def tw10559473160933077199:=0
def tw266931773903168550:=0
def tw10465531555868853348:=0
def tw10662790233161899120:=0
def tw14740379804278823618:=0
def tw7491057111155424946:=0
def tw7079636680530353828:=0
def tw15609848018576227101:=0
def tw11213387888851989946:=0
def tw7497188702638074211:=0
def tw10850114332213117919:=0
def tw631224620757530776:=0
def tw17332851710967758274:=0
def tw1109211419362458687:=0
def tw8787764623521035032:=0
def tw290532345549899761:=0
def tw9049708891938716031:=0
def tw4079553239973328935:=0
def tw3238491614068120292:=0
def tw14067210975353611144:=0
def tw3416302786534756480:=0
def tw13221825524853577284:=0
def tw6753779640373793522:=0
def tw9853060710005460683:=0
def tw11162281768817800726:=0
def tw12636893111583445605:=0
def tw4281681907029493426:=0
def tw13205088673816491966:=0
def tw5312468176296301496:=0
def tw4157067987801815319:=0
def tw12760590129784411388:=0
def tw11938723696855898313:=0
def tw1017721838681731817:=0
def tw5942160764266534055:=0
def tw14084223600349419721:=0
def tw8171504091809355941:=0
def tw3627039603759348846:=0
def tw16142374240443238817:=0
def tw6964307411322905687:=0
def tw17732878701695135719:=0
def tw13417225252670807499:=0
def tw12053963278606868825:=0
def tw16768559874915541119:=0
def tw9038259534820967607:=0
def tw9243468153912917447:=0
def tw5054276910554411262:=0
def tw18334424644147330679:=0
def tw241953019691650885:=0
def tw9669244081299057350:=0
def tw5493981662620537190:=0
def tw7563048512348815534:=0
def tw11830095546877878893:=0
def tw13734315896224725252:=0
def tw3718716043683525395:=0
def tw911927387340093072:=0
def tw11972950843865496221:=0
def tw11064344409098875309:=0
def tw5824585714891474491:=0
def tw2687274147470370268:=0
def tw1715700504272187432:=0
def tw14581885553120342425:=0
def tw7085968847691323279:=0
def tw2616406365798459483:=0
def tw1596194645850078331:=0
def tw11681830155202768708:=0
def tw9127514726697477699:=0
def tw2248894081750844540:=0
def tw15907359777700536943:=0
def tw4080939553389589104:=0
def tw8155801911705665838:=0
def tw10370715687120102086:=0
def tw17456994811476005507:=0
def tw506621729930677826:=0
def tw17129800033283088528:=0
def tw473941981436335257:=0
def tw1002653550394388784:=0
def tw84882028775327673:=0
def tw15687937056506097928:=0
def tw6286964877736282477:=0
def tw3975007587588765479:=0
def tw5182029617485298663:=0
def tw2004640804149534068:=0
def tw2211495604382569023:=0
def tw6688645356225812908:=0
def tw6757743977374488888:=0
def tw12019166592552953784:=0
def tw4483412016408521936:=0
def tw12979263607405882663:=0
def tw15006904968002058479:=0
def tw7383967227876283330:=0
def tw5991982463269203163:=0
def tw1397066234433312509:=0
def tw12010941858878587521:=0
def tw9944628820197548421:=0
def tw6386552079424334324:=0
def tw14585894964851757297:=0
def tw7746883557920101313:=0
def tw5936793570052627471:=0
def tw17095877478755591723:=0
def tw5090808390299233202:=0
def tw9942843731492581119:=0
def tw4554449440090517390:=0
end PySem.W.Fast
namespace Dp
open PySem L2
noncomputable def top(i:Nat):Stmt:=PySem.Challenge.pw_fakehunt_k72_trials_added.main.body.getD i (.Pass ⟨0,0,0,0⟩)
noncomputable def G:Gs:=[(S "Step",GV.cls 146 [(S "word",147,1),(S "turned",148,3)] [] []),(S "Sign",GV.cls 169 [(S "word",170,1),(S "turned",171,3)] [] []),(S "More",GV.cls 149 [(S "word",150,1),(S "turned",151,3)] [] []),(S "Turn",GV.cls 157 [(S "word",158,1),(S "turned",159,3)] [] []),(S "Out",GV.cls 152 [(S "word",153,1),(S "turned",154,3)] [] []),(S "Swap",GV.cls 160 [(S "word",161,1),(S "turned",162,3)] [] []),(S "Far",GV.cls 163 [(S "word",164,1),(S "turned",165,3)] [] []),(S "Book",GV.cls 263 [(S "__init__",264,4),(S "program_of",265,2),(S "outcome_of",266,3),(S "outcomes_of",267,2),(S "bits",268,1),(S "runs",269,1),(S "now",270,1),(S "change",271,3),(S "add",272,2)] [] [(.int 100)]),(S "_wall",GV.fn 261 1 []),(S "OPERAND_PLACES",GV.dct [(S "put"),(S "if"),(S "tell"),(S "go"),(S "skip")] [(.tup [(.int 2),(.int 4)]),(.tup [(.int 1),(.int 3)]),(.tup [(.int 1)]),(.tup []),(.tup [])]),(S "replaced",GV.fn 42 3 []),(S "operand_places",GV.fn 113 1 []),(S "bit_of",GV.fn 43 1 []),(S "HALF",GV.c (.int 1000000000)),(S "RING",GV.c (.int 2000000000)),(S "PUT_SIGNS",GV.c (.kt [(S "+"),(S "-"),(S "*"),(S "/"),(S "mod")])),(S "IF_SIGNS",GV.c (.kt [(S "<"),(S "<="),(S "="),(S ">="),(S ">"),(S "!=")])),(S "around",GV.fn 0 1 []),(S "divided",GV.fn 1 2 []),(S "left_over",GV.fn 2 2 []),(S "reckon",GV.fn 3 3 []),(S "is_so",GV.fn 4 3 []),(S "CONTRARIES",GV.dct [(S "<"),(S ">="),(S "<="),(S ">"),(S "="),(S "!=")] [(.str (S ">=")),(.str (S "<")),(.str (S ">")),(.str (S "<=")),(.str (S "!=")),(.str (S "="))]),(S "behind",GV.fn 70 2 []),(S "fakes",GV.fn 172 1 []),(S "fake_of",GV.fn 180 3 []),(S "worth",GV.fn 5 2 []),(S "began",GV.fn 6 2 []),(S "at_end",GV.fn 7 2 []),(S "values_behind",GV.fn 8 2 []),(S "place_behind",GV.fn 9 3 []),(S "moved",GV.fn 10 2 []),(S "is_outcome",GV.fn 11 1 []),(S "trail",GV.fn 12 3 [(.int 100)]),(S "places_done",GV.fn 14 1 []),(S "seen_in",GV.fn 44 1 []),(S "MOST_TRIALS",GV.c (.int 10)),(S "check_trials",GV.fn 181 1 []),(S "bits_unlike",GV.fn 183 2 []),(S "OWN",GV.c (.tup [])),(S "codes_of",GV.fn 262 1 []),(S "_law_whole",GV.fn 17 1 []),(S "_law_cell_at",GV.fn 27 2 []),(S "_law_number",GV.fn 185 1 []),(S "_law_operand",GV.fn 28 2 []),(S "_law_row",GV.fn 29 3 []),(S "_law_round",GV.fn 89 1 []),(S "_law_sum",GV.fn 187 3 []),(S "_law_so",GV.fn 33 3 []),(S "_law_worth",GV.fn 34 2 []),(S "_law_outcome",GV.fn 188 4 []),(S "_law_due",GV.fn 38 3 []),(S "_law_asked",GV.fn 278 5 []),(S "_law_refused",GV.fn 229 2 []),(S "_law_added",GV.fn 279 3 []),(S "law",GV.fn 16 1 []),(S "len",GV.blt),(S "range",GV.blt),(S "tuple",GV.blt),(S "list",GV.blt),(S "int",GV.blt),(S "bool",GV.blt),(S "str",GV.blt),(S "min",GV.blt),(S "max",GV.blt),(S "isinstance",GV.blt),(S "all",GV.blt),(S "any",GV.blt),(S "zip",GV.blt),(S "sorted",GV.blt),(S "enumerate",GV.blt),(S "set",GV.blt)]
noncomputable def Zw(i k:Nat):Stmt:=match top i with
 |.ClassDef _ _ _ b _ _ _ _ _ _ _=>b.getD k (.Pass ⟨0,0,0,0⟩)
 |s=>s
abbrev Cmp(i:Nat)(N a:Li Str)(c:CS):Prop:=ZV G (top i) N a c
local macro_rules
 |`(tactic| trivial)=>`(tactic| exact⟨⟨rfl,rfl,rfl,by decide +kernel,rfl,by decide +kernel,by decide +kernel⟩,by unfold L2.Loc;decide +kernel,by kernel_rfl⟩)
theorem q_0:Cmp 0 ["k"] ["k"] c__wall.body:=by trivial
theorem q_6:Cmp 6 ["things","i","thing"] ["things","i","thing"] c_replaced.body:=by trivial
theorem q_7:Cmp 7 ["row"] ["row"] c_operand_places.body:=by trivial
theorem q_8:Cmp 8 ["i","bit","times"] ["i"] c_bit_of.body:=by trivial
theorem Zhr:Cmp 14 ["number"] ["number"] c_around.body:=by trivial
theorem Zhs:Cmp 15 ["one","other"] ["one","other"] c_divided.body:=by trivial
theorem Zht:Cmp 16 ["one","other"] ["one","other"] c_left_over.body:=by trivial
theorem Zhu:Cmp 17 ["one","sign","other"] ["one","sign","other"] c_reckon.body:=by trivial
theorem Zhv:Cmp 18 ["one","sign","other"] ["one","sign","other"] c_is_so.body:=by trivial
theorem Zhw:Cmp 21 ["ring","sign"] ["ring","sign"] c_behind.body:=by trivial
theorem Zhx:Cmp 30 ["program","rows","steps","told","k","row","step"] ["program"] c_fakes.body:=by trivial
theorem Zhy:Cmp 31 ["program","k","row"] ["program","k","row"] c_fake_of.body:=by trivial
theorem Zhz:Cmp 33 ["operand","values"] ["operand","values"] c_worth.body:=by trivial
theorem ZhA:Cmp 34 ["program","inputs"] ["program","inputs"] c_began.body:=by trivial
theorem ZhB:Cmp 35 ["program","state"] ["program","state"] c_at_end.body:=by trivial
theorem ZhC:Cmp 36 ["row","values","number"] ["row","values"] c_values_behind.body:=by trivial
theorem ZhD:Cmp 37 ["row","k","values"] ["row","k","values"] c_place_behind.body:=by trivial
theorem ZhE:Cmp 38 ["program","state","k","values","row"] ["program","state"] c_moved.body:=by trivial
theorem ZhF:Cmp 39 ["thing"] ["thing"] c_is_outcome.body:=by trivial
theorem ZhG:Cmp 40 ["program","inputs","limit","state","things","done","thing"] ["program","inputs","limit"] c_trail.body:=by trivial
theorem ZhH:Cmp 41 ["things","states"] ["things"] c_places_done.body:=by trivial
theorem ZhI:Cmp 42 ["things","bits","k"] ["things"] c_seen_in.body:=by trivial
theorem ZhJ:Cmp 45 ["trials"] ["trials"] c_check_trials.body:=by trivial
theorem ZhK:Cmp 46 ["things","beside","bits","bit","thing","along"] ["things","beside"] c_bits_unlike.body:=by trivial
theorem ZhL:Cmp 49 ["program"] ["program"] c_codes_of.body:=by trivial
theorem ZhM:Cmp 52 ["_law_found"] ["_law_found"] c__law_whole.body:=by trivial
theorem ZhN:Cmp 53 ["_law_script","_law_k"] ["_law_script","_law_k"] c__law_cell_at.body:=by trivial
theorem ZhO:Cmp 54 ["_law_cell"] ["_law_cell"] c__law_number.body:=by trivial
theorem ZhP:Cmp 55 ["_law_cell","_law_many"] ["_law_cell","_law_many"] c__law_operand.body:=by trivial
theorem ZhQ:Cmp 56 ["_law_cells","_law_many","_law_size","_law_more","_law_one","_law_other"] ["_law_cells","_law_many","_law_size"] c__law_row.body:=by trivial
theorem ZhR:Cmp 57 ["_law_number_here"] ["_law_number_here"] c__law_round.body:=by trivial
theorem ZhS:Cmp 58 ["_law_one","_law_sign","_law_other"] ["_law_one","_law_sign","_law_other"] c__law_sum.body:=by trivial
theorem ZhT:Cmp 59 ["_law_one","_law_sign","_law_other"] ["_law_one","_law_sign","_law_other"] c__law_so.body:=by trivial
theorem ZhU:Cmp 60 ["_law_operand_here","_law_values"] ["_law_operand_here","_law_values"] c__law_worth.body:=by trivial
theorem ZhV:Cmp 61 ["_law_rows","_law_many","_law_inputs","_law_limit","_law_values","_law_at","_law_turn","_law_row_here","_law_one"] ["_law_rows","_law_many","_law_inputs","_law_limit"] c__law_outcome.body:=by trivial
theorem ZhW:Cmp 62 ["_law_program","_law_trials","_law_limit","_law_takes","_law_many","_law_rows","_law_due_here","_law_found","_law_k","_law_word","_law_row_here","_law_turned","_law_bits","_law_i"] ["_law_program","_law_trials","_law_limit"] c__law_due.body:=by trivial
theorem ZhX:Cmp 63 ["_law_book","_law_program","_law_trials","_law_limit","_law_known","_law_due_here","_law_inputs","_law_found"] ["_law_book","_law_program","_law_trials","_law_limit","_law_known"] c__law_asked.body:=by trivial
theorem ZhY:Cmp 65 ["_law_book","_law_trials","_law_inputs","_law_runs"] ["_law_book","_law_trials","_law_inputs"] c__law_added.body:=by trivial
theorem ZgI:Cmp 66 ["_law_script","_law_head","_law_taken","_law_many","_law_size","_law_count","_law_rows","_law_k","_law_program","_law_limit","_law_trials","_law_i","_law_book","_law_known","_law_at","_law_cell","_law_inputs"] ["_law_script"] c_law_k72.body:=by trivial
theorem ZeU:ZV G (Zw 22 0) [S "self"] [S "self"] c_Step_word.body:=by trivial
theorem ZeV:ZV G (Zw 22 1) [S "self",S "row",S "many"] [S "self",S "row",S "many"] c_Step_turned.body:=by trivial
theorem ZeW:ZV G (Zw 23 0) [S "self"] [S "self"] c_Sign_word.body:=by trivial
theorem ZeX:ZV G (Zw 23 1) [S "self",S "row",S "many"] [S "self",S "row",S "many"] c_Sign_turned.body:=by trivial
theorem ZeY:ZV G (Zw 24 0) [S "self"] [S "self"] c_More_word.body:=by trivial
theorem ZeZ:ZV G (Zw 24 1) [S "self",S "row",S "many",S "rows",S "i"] [S "self",S "row",S "many"] c_More_turned.body:=by trivial
theorem Ze0:ZV G (Zw 25 0) [S "self"] [S "self"] c_Turn_word.body:=by trivial
theorem Ze1:ZV G (Zw 25 1) [S "self",S "row",S "many"] [S "self",S "row",S "many"] c_Turn_turned.body:=by trivial
theorem Ze2:ZV G (Zw 26 0) [S "self"] [S "self"] c_Out_word.body:=by trivial
theorem Ze3:ZV G (Zw 26 1) [S "self",S "row",S "many"] [S "self",S "row",S "many"] c_Out_turned.body:=by trivial
theorem Ze4:ZV G (Zw 27 0) [S "self"] [S "self"] c_Swap_word.body:=by trivial
theorem Ze5:ZV G (Zw 27 1) [S "self",S "row",S "many"] [S "self",S "row",S "many"] c_Swap_turned.body:=by trivial
theorem Ze6:ZV G (Zw 28 0) [S "self"] [S "self"] c_Far_word.body:=by trivial
theorem Ze7:ZV G (Zw 28 1) [S "self",S "row",S "many"] [S "self",S "row",S "many"] c_Far_turned.body:=by trivial
theorem Ze8:ZV G (Zw 50 0) [S "self",S "program",S "trials",S "limit"] [S "self",S "program",S "trials",S "limit"] c_Book___init__.body:=by trivial
theorem Ze9:ZV G (Zw 50 1) [S "self",S "code"] [S "self",S "code"] c_Book_program_of.body:=by trivial
theorem Zfa:ZV G (Zw 50 2) [S "self",S "code",S "inputs",S "things"] [S "self",S "code",S "inputs"] c_Book_outcome_of.body:=by trivial
theorem Zfb:ZV G (Zw 50 3) [S "self",S "code"] [S "self",S "code"] c_Book_outcomes_of.body:=by trivial
theorem Zfc:ZV G (Zw 50 4) [S "self",S "own"] [S "self"] c_Book_bits.body:=by trivial
theorem Zfd:ZV G (Zw 50 5) [S "self"] [S "self"] c_Book_runs.body:=by trivial
theorem Zfe:ZV G (Zw 50 6) [S "self"] [S "self"] c_Book_now.body:=by trivial
theorem Zff:ZV G (Zw 50 7) [S "self",S "k",S "row"] [S "self",S "k",S "row"] c_Book_change.body:=by trivial
theorem Zfg:ZV G (Zw 50 8) [S "self",S "inputs",S "longer"] [S "self",S "inputs"] c_Book_add.body:=by trivial
@[reducible] noncomputable def tab (l:Li (Nat×Ad)):ClsTab:=⟨λi=>(l.lookup i).getD 0⟩
variable{h:Heap}{mg:Str->Ot vL}
section
variable [ct:ClsTab]
theorem Wb:∀ n,Yj G (run T n):=λ_=>ZbJ
theorem Zgn{K:fG7}{C L j:Ad}(X:K.In h)(F:h.Ns mainGlobals mg)(I:XAt K "TooMany" "TooMany.__init__" "number" (Zw 3 0) C L)(ac:FnAt K "check_trials" (top 45))(hC:ClsTab.ca 263=j)(g:ClsAtB K "Book" j)(l:W.exmOne K (.ref C) (.ref C)=some true)(bi:MtAt K j "add" "Book.add" (Zw 50 8)){f:Ad}{oc kV M J B e:vL}{od Y:Ot Ad}{sl:Array (Ot vL)}(lk:K.lookup f=some ⟨oc,od,.func (fnS "_law_refused" "_law_refused" (top 64) .none kV M J Y B e),sl⟩)(q:W.codeIn K B "_law_refused"=true) :
  QM K mg G T 229 f (fnS "_law_refused" "_law_refused" (top 64) .none kV M J Y B e) [S "_law_book",S "_law_inputs"]:=by
 intro P w base n u;obtain⟨m,Z⟩:=I.cls;have na:=m.na;cases I with
 |mk R cl lb ln sk n1 n2 n3 n4 sa na' ini kp ga gn gc gs gt gm gd li ci ic=>
 cases ac with
 |mk D v y x=>
 have FI:FnOk P w K mg base CX0 1 L _ [S "self",S "number"] (spI C "number"):=Zew m li ci ⟨rfl,rfl,rfl,by decide +kernel,rfl,by decide +kernel,by decide +kernel⟩ (.inl rfl) (.inl rfl) (by decide) (by decide) (by decide) (by decide)
 have CK:=Zf6 (P:=P) (w:=w) (base:=base) (a:=S "trials") Wb (λA c=>u 0 (aV n) A c) m FI (bd2 rfl λ_ _=>rfl) v y ⟨rfl,rfl,rfl,by decide +kernel,rfl,by decide +kernel,by decide +kernel⟩ (by kernel_rfl) (by kernel_rfl) rfl rfl (W.mg_of X F R) (by decide)
 cases bi with
 |mk bm bl be bk bj=>
 have AD:=Zf0 (P:=P) (w:=w) (base:=base) (a0:=S "self") (a1:=S "inputs") (b:=S "longer") (c0:=adC) Wb (λA c=>u 0 (aV n) A c) CK (bd1 rfl λ_=>rfl) x bl be ⟨rfl,rfl,rfl,by decide +kernel,rfl,by decide +kernel,by decide +kernel⟩ (by unfold L2.Loc;decide +kernel) (by kernel_rfl) ⟨rfl,by decide,W.mg_of X F D⟩ ⟨rfl,by decide,by decide⟩
 by_cases t:2<=n
 .exact Zcr (k:=2 * n+1) (n:=n) (N:=[S "_law_book",S "_law_inputs",S "_law_number_here",S "e"]) (it:=2) (ie:=3) (tx:=txE K C j "number") (gr:=id) (pre:=Je) (cR:=cRf) Wb (λA c=>u n (aD n) A c) lk q ⟨rfl,rfl,rfl,by decide +kernel,rfl,by decide +kernel,by decide +kernel⟩ (by unfold L2.Loc;decide +kernel) rfl rfl ⟨rfl,by decide,by decide⟩ ⟨rfl,by decide,by decide⟩
   ⟨rfl,by decide,W.mg_of X F R⟩ l Z na (by kernel_rfl)
   (λA d s H E c=>Zcx (dvs:=[]) (ds:=[]) (pe_var (i:=0) rfl (.inl rfl) (by decide) (by decide)) ⟨g.ye,g.yf,g.yg,g.yh⟩ ⟨bm,bj,bk⟩ AD (c.mono (by omega)) (bd2 rfl λ_ _=>rfl) .nil (pa_cons (pe_var (i:=1) rfl (.inl rfl) (by decide) (by decide)) pa_nil))
   (λ_=>rfl) (λad H O U ds st z E S h p=>ZfJ hC E S h p) (λds st z p=>Zcv t p) (λvs H Q E h=>(spR vs H Q E h).2) (by decide)
 .exact⟨λvs H Q E h=>absurd (spR vs H Q E h).1 t,λA d s H V us vs Q E c e0 hb r o=>absurd (spR _ _ _ _ o).1 t⟩
theorem Zd3{Pm:Params}{K:fG7}{fa:Ad}(X:K.In h)(a:h.Ns mainGlobals mg)(hfa:mg "law"=some (.ref fa)){C0:Ad}{C1:Ad}{C2:Ad}{C3:Ad}{C4:Ad}{C5:Ad}{C6:Ad}{C7:Ad}{A9:Ad}{ob9:Obj}{ep9:Nat}{U:Tok}{i:Ad}{E:Obj}{bn9_0:Nat}{M:Tok}{L:Tok}{R:Tok}{g:Ad}{D:Obj}{bn9_1:Nat}{J:Tok}{I:Tok}{Q:Tok}{f:Ad}{C:Obj}{bn9_2:Nat}{H:Tok}{P:Tok}{c:Ad}{B:Obj}{bn9_3:Nat}{O:Tok}{b:Ad}{A:Obj}{bn9_4:Nat}{t13:Tok}{t14:Tok}{A15:Ad}{Z:Obj}{on15:Nat}{t15_0:Tok}{t15_1:Tok}{t15_2:Tok}{t15_3:Tok}{t15_4:Tok}{A16:Ad}{Y:Obj}{on16:Nat}{t16_0:Tok}{t16_1:Tok}{t16_2:Tok}{t16_3:Tok}{t16_4:Tok}{t16_5:Tok}{A22:Ad}{j:Obj}{ep22:Nat}{z:Tok}{p:Tok}{y:Tok}{o:Tok}{x:Tok}{n:Tok}{w:Tok}{m:Tok}{r:Tok}{l:Tok}{q:Tok}{k:Tok}{t36:Tok}{A39:Ad}{V:Obj}{on39:Nat}{Cq fIq:Ad}
(yz0:ClsTab.ca 146=C0) (yz1:ClsTab.ca 169=C1) (yz2:ClsTab.ca 149=C2) (yz3:ClsTab.ca 157=C3) (yz4:ClsTab.ca 152=C4) (yz5:ClsTab.ca 160=C5) (yz6:ClsTab.ca 163=C6) (yz7:ClsTab.ca 263=C7)
  (y0:ClsAt K "Step" C0) (w0_147:MtAt K C0 "word" "Step.word" (Zw 22 0)) (w0_148:MtAt K C0 "turned" "Step.turned" (Zw 22 1))
  (y1:ClsAt K "Sign" C1) (w1_170:MtAt K C1 "word" "Sign.word" (Zw 23 0)) (w1_171:MtAt K C1 "turned" "Sign.turned" (Zw 23 1))
  (y2:ClsAt K "More" C2) (w2_150:MtAt K C2 "word" "More.word" (Zw 24 0)) (w2_151:MtAt K C2 "turned" "More.turned" (Zw 24 1))
  (y3:ClsAt K "Turn" C3) (w3_158:MtAt K C3 "word" "Turn.word" (Zw 25 0)) (w3_159:MtAt K C3 "turned" "Turn.turned" (Zw 25 1))
  (y4:ClsAt K "Out" C4) (w4_153:MtAt K C4 "word" "Out.word" (Zw 26 0)) (w4_154:MtAt K C4 "turned" "Out.turned" (Zw 26 1))
  (y5:ClsAt K "Swap" C5) (w5_161:MtAt K C5 "word" "Swap.word" (Zw 27 0)) (w5_162:MtAt K C5 "turned" "Swap.turned" (Zw 27 1))
  (y6:ClsAt K "Far" C6) (w6_164:MtAt K C6 "word" "Far.word" (Zw 28 0)) (w6_165:MtAt K C6 "turned" "Far.turned" (Zw 28 1))
  (y7:ClsAtB K "Book" C7) (w7_264:MtAtE K C7 "__init__" "Book.__init__" (Zw 50 0) 100) (w7_265:MtAt K C7 "program_of" "Book.program_of" (Zw 50 1)) (w7_266:MtAt K C7 "outcome_of" "Book.outcome_of" (Zw 50 2)) (w7_267:MtAt K C7 "outcomes_of" "Book.outcomes_of" (Zw 50 3)) (w7_268:MtAt K C7 "bits" "Book.bits" (Zw 50 4)) (w7_269:MtAt K C7 "runs" "Book.runs" (Zw 50 5)) (w7_270:MtAt K C7 "now" "Book.now" (Zw 50 6)) (w7_271:MtAt K C7 "change" "Book.change" (Zw 50 7)) (F:MtAt K C7 "add" "Book.add" (Zw 50 8))
  (a8:FnAt K "_wall" (top 0))
  (g9:W.nsIn K mainGlobals "OPERAND_PLACES"=some (some (.ref A9))) (d9:K.lookup A9=some ob9) (f9c:ob9.cls=.type "dict") (f9d:ob9.dict=none) (f9s:ob9.slots=#[]) (e9:ob9.data=.dict #[⟨PyData.keyHash Pm "put",.str "put" U,.ref i⟩,⟨PyData.keyHash Pm "if",.str "if" R,.ref g⟩,⟨PyData.keyHash Pm "tell",.str "tell" Q,.ref f⟩,⟨PyData.keyHash Pm "go",.str "go" P,.ref c⟩,⟨PyData.keyHash Pm "skip",.str "skip" O,.ref b⟩] ep9) (s9:(A9==sysModules)=false)
  (h9_0:K.lookup i=some E) (i9_0:E.cls=.type "tuple") (j9_0:E.data=.seq #[.int (2) M,.int (4) L] bn9_0)
  (h9_1:K.lookup g=some D) (i9_1:D.cls=.type "tuple") (j9_1:D.data=.seq #[.int (1) J,.int (3) I] bn9_1)
  (h9_2:K.lookup f=some C) (i9_2:C.cls=.type "tuple") (j9_2:C.data=.seq #[.int (1) H] bn9_2)
  (h9_3:K.lookup c=some B) (i9_3:B.cls=.type "tuple") (j9_3:B.data=.seq #[] bn9_3)
  (h9_4:K.lookup b=some A) (i9_4:A.cls=.type "tuple") (j9_4:A.data=.seq #[] bn9_4)
  (a10:FnAt K "replaced" (top 6))
  (a11:FnAt K "operand_places" (top 7))
  (a12:FnAt K "bit_of" (top 8))
  (g13:W.nsIn K mainGlobals "HALF"=some (some (.int (1000000000) t13)))
  (g14:W.nsIn K mainGlobals "RING"=some (some (.int (2000000000) t14)))
  (g15:W.nsIn K mainGlobals "PUT_SIGNS"=some (some (.ref A15))) (d15:K.lookup A15=some Z) (f15c:Z.cls=.type "tuple") (f15d:Z.dict=none) (e15:Z.data=.seq #[.str "+" t15_0,.str "-" t15_1,.str "*" t15_2,.str "/" t15_3,.str "mod" t15_4] on15)
  (g16:W.nsIn K mainGlobals "IF_SIGNS"=some (some (.ref A16))) (d16:K.lookup A16=some Y) (f16c:Y.cls=.type "tuple") (f16d:Y.dict=none) (e16:Y.data=.seq #[.str "<" t16_0,.str "<=" t16_1,.str "=" t16_2,.str ">=" t16_3,.str ">" t16_4,.str "!=" t16_5] on16)
  (a17:FnAt K "around" (top 14))
  (a18:FnAt K "divided" (top 15))
  (a19:FnAt K "left_over" (top 16))
  (a20:FnAt K "reckon" (top 17))
  (a21:FnAt K "is_so" (top 18))
  (g22:W.nsIn K mainGlobals "CONTRARIES"=some (some (.ref A22))) (d22:K.lookup A22=some j) (f22c:j.cls=.type "dict") (f22d:j.dict=none) (f22s:j.slots=#[]) (e22:j.data=.dict #[⟨PyData.keyHash Pm "<",.str "<" z,.str ">=" p⟩,⟨PyData.keyHash Pm ">=",.str ">=" y,.str "<" o⟩,⟨PyData.keyHash Pm "<=",.str "<=" x,.str ">" n⟩,⟨PyData.keyHash Pm ">",.str ">" w,.str "<=" m⟩,⟨PyData.keyHash Pm "=",.str "=" r,.str "!=" l⟩,⟨PyData.keyHash Pm "!=",.str "!=" q,.str "=" k⟩] ep22) (s22:(A22==sysModules)=false)
  (a23:FnAt K "behind" (top 21))
  (a24:FnAt K "fakes" (top 30))
  (a25:FnAt K "fake_of" (top 31))
  (a26:FnAt K "worth" (top 33))
  (a27:FnAt K "began" (top 34))
  (a28:FnAt K "at_end" (top 35))
  (a29:FnAt K "values_behind" (top 36))
  (a30:FnAt K "place_behind" (top 37))
  (a31:FnAt K "moved" (top 38))
  (a32:FnAt K "is_outcome" (top 39))
  (a33:FnAtE K "trail" (top 40) 100)
  (a34:FnAt K "places_done" (top 41))
  (a35:FnAt K "seen_in" (top 42))
  (g36:W.nsIn K mainGlobals "MOST_TRIALS"=some (some (.int (10) t36)))
  (a37:FnAt K "check_trials" (top 45))
  (a38:FnAt K "bits_unlike" (top 46))
  (g39:W.nsIn K mainGlobals "OWN"=some (some (.ref A39))) (d39:K.lookup A39=some V) (f39c:V.cls=.type "tuple") (e39:V.data=.seq #[] on39)
  (a40:FnAt K "codes_of" (top 49))
  (a41:FnAt K "_law_whole" (top 52))
  (a42:FnAt K "_law_cell_at" (top 53))
  (a43:FnAt K "_law_number" (top 54))
  (a44:FnAt K "_law_operand" (top 55))
  (a45:FnAt K "_law_row" (top 56))
  (a46:FnAt K "_law_round" (top 57))
  (a47:FnAt K "_law_sum" (top 58))
  (a48:FnAt K "_law_so" (top 59))
  (a49:FnAt K "_law_worth" (top 60))
  (a50:FnAt K "_law_outcome" (top 61))
  (a51:FnAt K "_law_due" (top 62))
  (a52:FnAt K "_law_asked" (top 63))
  (a53:FnAt K "_law_refused" (top 64))
  (a54:FnAt K "_law_added" (top 65))
  (a55:FnAt K "law" (top 66))
  (z56:W.nsIn K mainGlobals "len"=some none)
  (z57:W.nsIn K mainGlobals "range"=some none)
  (z58:W.nsIn K mainGlobals "tuple"=some none)
  (z59:W.nsIn K mainGlobals "list"=some none)
  (z60:W.nsIn K mainGlobals "int"=some none)
  (z61:W.nsIn K mainGlobals "bool"=some none)
  (z62:W.nsIn K mainGlobals "str"=some none)
  (z63:W.nsIn K mainGlobals "min"=some none)
  (z64:W.nsIn K mainGlobals "max"=some none)
  (z65:W.nsIn K mainGlobals "isinstance"=some none)
  (z66:W.nsIn K mainGlobals "all"=some none)
  (z67:W.nsIn K mainGlobals "any"=some none)
  (z68:W.nsIn K mainGlobals "zip"=some none)
  (z69:W.nsIn K mainGlobals "sorted"=some none)
  (z70:W.nsIn K mainGlobals "enumerate"=some none)
  (z71:W.nsIn K mainGlobals "set"=some none)
  (xa:XAt K "TooMany" "TooMany.__init__" "number" (Zw 3 0) Cq fIq) (xm1:W.exmOne K (.ref Cq) (.ref Cq)=some true) :
  Text Pm K mg G T/\∃ (fd:FuncData) (N:Li Str),(∀ (s:sH7) (u:vL),BindsTo s fd ⟨[u],[]⟩ [(S "_law_script",u)])/\DefOk K mg G T "law" 16 [] fa fd [S "_law_script"] N:=by
 exact⟨Zc7 (gC X a yz0 y0 trivial (gM (by decide) w0_147 ZeU rfl (gM (by decide) w0_148 ZeV rfl trivial)) (gC X a yz1 y1 trivial (gM (by decide) w1_170 ZeW rfl (gM (by decide) w1_171 ZeX rfl trivial)) (gC X a yz2 y2 trivial (gM (by decide) w2_150 ZeY rfl (gM (by decide) w2_151 ZeZ rfl trivial)) (gC X a yz3 y3 trivial (gM (by decide) w3_158 Ze0 rfl (gM (by decide) w3_159 Ze1 rfl trivial)) (gC X a yz4 y4 trivial (gM (by decide) w4_153 Ze2 rfl (gM (by decide) w4_154 Ze3 rfl trivial)) (gC X a yz5 y5 trivial (gM (by decide) w5_161 Ze4 rfl (gM (by decide) w5_162 Ze5 rfl trivial)) (gC X a yz6 y6 trivial (gM (by decide) w6_164 Ze6 rfl (gM (by decide) w6_165 Ze7 rfl trivial)) (gCB X a yz7 y7 trivial (gMI y7 w7_264 Ze8 rfl (gM (by decide) w7_265 Ze9 rfl (gM (by decide) w7_266 Zfa rfl (gM (by decide) w7_267 Zfb rfl (gM (by decide) w7_268 Zfc rfl (gM (by decide) w7_269 Zfd rfl (gM (by decide) w7_270 Zfe rfl (gM (by decide) w7_271 Zff rfl (gM (by decide) F Zfg rfl trivial)))))))) (λ_ _ _ _ _ _ _ _ _ _ d e=>⟨λs us hK hl=>by obtain⟨_,_,_,_,rfl⟩:=Zgy (show us.length=4 by simpa using hl);exact W.binds_K hK rfl d e rfl rfl,λs us hK hl=>by obtain⟨_,_,_,rfl⟩:=ZeE (show us.length=3 by simpa using hl);exact W.binds_K hK rfl d e rfl rfl⟩)) (by decide) (gD X a a8 q_0 rfl (⟨⟨A9,ob9,#[⟨PyData.keyHash Pm "put",.str "put" U,.ref i⟩,⟨PyData.keyHash Pm "if",.str "if" R,.ref g⟩,⟨PyData.keyHash Pm "tell",.str "tell" Q,.ref f⟩,⟨PyData.keyHash Pm "go",.str "go" P,.ref c⟩,⟨PyData.keyHash Pm "skip",.str "skip" O,.ref b⟩],ep9,W.mg_of X a g9,d9,⟨f9c,f9d,f9s⟩,e9,s9,(by decide),(show EsOk Pm K [⟨PyData.keyHash Pm "put",.str "put" U,.ref i⟩,⟨PyData.keyHash Pm "if",.str "if" R,.ref g⟩,⟨PyData.keyHash Pm "tell",.str "tell" Q,.ref f⟩,⟨PyData.keyHash Pm "go",.str "go" P,.ref c⟩,⟨PyData.keyHash Pm "skip",.str "skip" O,.ref b⟩] _ _ from .cons (v:=.ref i) (t:=U) rfl rfl (show RelV (.ref i) (.ref i) from rfl) (λ_ _=>.tup (xs:=[.int (2),.int (4)]) (.inr ⟨E,#[.int (2) M,.int (4) L],bn9_0,h9_0,i9_0,j9_0,(show(2:Nat)<=sizeLine by decide),.cons ⟨_,rfl⟩ (.cons ⟨_,rfl⟩ (.nil))⟩) (.cons (.int _) (.cons (.int _) (.nil)))) (.cons (v:=.ref g) (t:=R) rfl rfl (show RelV (.ref g) (.ref g) from rfl) (λ_ _=>.tup (xs:=[.int (1),.int (3)]) (.inr ⟨D,#[.int (1) J,.int (3) I],bn9_1,h9_1,i9_1,j9_1,(show(2:Nat)<=sizeLine by decide),.cons ⟨_,rfl⟩ (.cons ⟨_,rfl⟩ (.nil))⟩) (.cons (.int _) (.cons (.int _) (.nil)))) (.cons (v:=.ref f) (t:=Q) rfl rfl (show RelV (.ref f) (.ref f) from rfl) (λ_ _=>.tup (xs:=[.int (1)]) (.inr ⟨C,#[.int (1) H],bn9_2,h9_2,i9_2,j9_2,(show(1:Nat)<=sizeLine by decide),.cons ⟨_,rfl⟩ (.nil)⟩) (.cons (.int _) (.nil))) (.cons (v:=.ref c) (t:=P) rfl rfl (show RelV (.ref c) (.ref c) from rfl) (λ_ _=>.tup (xs:=[]) (.inr ⟨B,#[],bn9_3,h9_3,i9_3,j9_3,(show(0:Nat)<=sizeLine by decide),.nil⟩) (.nil)) (.cons (v:=.ref b) (t:=O) rfl rfl (show RelV (.ref b) (.ref b) from rfl) (λ_ _=>.tup (xs:=[]) (.inr ⟨A,#[],bn9_4,h9_4,i9_4,j9_4,(show(0:Nat)<=sizeLine by decide),.nil⟩) (.nil)) (.nil))))))⟩,gD X a a10 q_6 rfl (gD X a a11 q_7 rfl (gD X a a12 q_8 rfl (gI X a g13 (gI X a g14 (⟨⟨.ref A15,.ref A15,W.mg_of X a g15,rfl,λ_ _=>.kt (its:=#[.str "+" t15_0,.str "-" t15_1,.str "*" t15_2,.str "/" t15_3,.str "mod" t15_4]) d15 f15c f15d e15 (show(5:Nat)<=sizeLine by decide) (.cons ⟨_,rfl⟩ (.cons ⟨_,rfl⟩ (.cons ⟨_,rfl⟩ (.cons ⟨_,rfl⟩ (.cons ⟨_,rfl⟩ (.nil))))))⟩,⟨⟨.ref A16,.ref A16,W.mg_of X a g16,rfl,λ_ _=>.kt (its:=#[.str "<" t16_0,.str "<=" t16_1,.str "=" t16_2,.str ">=" t16_3,.str ">" t16_4,.str "!=" t16_5]) d16 f16c f16d e16 (show(6:Nat)<=sizeLine by decide) (.cons ⟨_,rfl⟩ (.cons ⟨_,rfl⟩ (.cons ⟨_,rfl⟩ (.cons ⟨_,rfl⟩ (.cons ⟨_,rfl⟩ (.cons ⟨_,rfl⟩ (.nil)))))))⟩,gD X a a17 Zhr rfl (gD X a a18 Zhs rfl (gD X a a19 Zht rfl (gD X a a20 Zhu rfl (gD X a a21 Zhv rfl (⟨⟨A22,j,#[⟨PyData.keyHash Pm "<",.str "<" z,.str ">=" p⟩,⟨PyData.keyHash Pm ">=",.str ">=" y,.str "<" o⟩,⟨PyData.keyHash Pm "<=",.str "<=" x,.str ">" n⟩,⟨PyData.keyHash Pm ">",.str ">" w,.str "<=" m⟩,⟨PyData.keyHash Pm "=",.str "=" r,.str "!=" l⟩,⟨PyData.keyHash Pm "!=",.str "!=" q,.str "=" k⟩],ep22,W.mg_of X a g22,d22,⟨f22c,f22d,f22s⟩,e22,s22,(by decide),(show EsOk Pm K [⟨PyData.keyHash Pm "<",.str "<" z,.str ">=" p⟩,⟨PyData.keyHash Pm ">=",.str ">=" y,.str "<" o⟩,⟨PyData.keyHash Pm "<=",.str "<=" x,.str ">" n⟩,⟨PyData.keyHash Pm ">",.str ">" w,.str "<=" m⟩,⟨PyData.keyHash Pm "=",.str "=" r,.str "!=" l⟩,⟨PyData.keyHash Pm "!=",.str "!=" q,.str "=" k⟩] _ _ from .cons (v:=.str ">=") (t:=z) rfl rfl (show RelV (.str ">=") (.str ">=" p) from⟨_,rfl⟩) (λ_ _=>.str _) (.cons (v:=.str "<") (t:=y) rfl rfl (show RelV (.str "<") (.str "<" o) from⟨_,rfl⟩) (λ_ _=>.str _) (.cons (v:=.str ">") (t:=x) rfl rfl (show RelV (.str ">") (.str ">" n) from⟨_,rfl⟩) (λ_ _=>.str _) (.cons (v:=.str "<=") (t:=w) rfl rfl (show RelV (.str "<=") (.str "<=" m) from⟨_,rfl⟩) (λ_ _=>.str _) (.cons (v:=.str "!=") (t:=r) rfl rfl (show RelV (.str "!=") (.str "!=" l) from⟨_,rfl⟩) (λ_ _=>.str _) (.cons (v:=.str "=") (t:=q) rfl rfl (show RelV (.str "=") (.str "=" k) from⟨_,rfl⟩) (λ_ _=>.str _) (.nil)))))))⟩,gD X a a23 Zhw rfl (gD X a a24 Zhx rfl (gD X a a25 Zhy rfl (gD X a a26 Zhz rfl (gD X a a27 ZhA rfl (gD X a a28 ZhB rfl (gD X a a29 ZhC rfl (gD X a a30 ZhD rfl (gD X a a31 ZhE rfl (gD X a a32 ZhF rfl (gE X a a33 ZhG rfl (λ_ _ _ _ _ _ _ _ _ _ d e=>⟨λs us hK hl=>by obtain⟨_,_,_,rfl⟩:=ZeE (show us.length=3 by simpa using hl);exact W.binds_K hK rfl d e rfl rfl,λs us hK hl=>by obtain⟨_,_,rfl⟩:=Zgx (show us.length=2 by simpa using hl);exact W.binds_K hK rfl d e rfl rfl⟩) (gD X a a34 ZhH rfl (gD X a a35 ZhI rfl (gI X a g36 (gD X a a37 ZhJ rfl (gD X a a38 ZhK rfl (⟨⟨.ref A39,.ref A39,W.mg_of X a g39,rfl,λ_ _=>.tup (xs:=[]) (.inr ⟨V,#[],on39,d39,f39c,e39,(show(0:Nat)<=sizeLine by decide),.nil⟩) (.nil)⟩,gD X a a40 ZhL rfl (gD X a a41 ZhM rfl (gD X a a42 ZhN rfl (gD X a a43 ZhO rfl (gD X a a44 ZhP rfl (gD X a a45 ZhQ rfl (gD X a a46 ZhR rfl (gD X a a47 ZhS rfl (gD X a a48 ZhT rfl (gD X a a49 ZhU rfl (gD X a a50 ZhV rfl (gD X a a51 ZhW rfl (gD X a a52 ZhX rfl (gH X a a53 (Zgn X a xa a37 yz7 y7 xm1 F) (λ_ _ _ _ _ _=>bd2 rfl λ_ _=>rfl) (gD X a a54 ZhY rfl (gD X a a55 ZgI rfl (gB X a z56 (gB X a z57 (gB X a z58 (gB X a z59 (gB X a z60 (gB X a z61 (gB X a z62 (gB X a z63 (gB X a z64 (gB X a z65 (gB X a z66 (gB X a z67 (gB X a z68 (gB X a z69 (gB X a z70 (gB X a z71 (trivial))))))))))))))))))))))))))))))))⟩))))))))))))))))⟩)))))⟩⟩)))))⟩)))))))))),gL X a hfa a55 ZgI rfl λ_ _ _ _ _ _ _=>rfl⟩
end
end Dp
open PySem PySem.W PyProof.Rows
set_option maxRecDepth 100000 in
set_option maxHeartbeats 0 in
theorem PySem.Challenge.cw_fakehunt_k72_trials_added_holds : PySem.Challenge.rw_fakehunt_k72_trials_added.Holds := by
 w_on;o_law;k_head;(case hw=>w_witness2)
 k_fill
 refine Dp.Q9 (l:=PySem.Challenge.rw_fakehunt_k72_trials_added) (G:=Dp.G) (T:=Dp.T) (n:=11) (i:=16) (x := "_law_script") rfl rfl ⟨rfl,by decide,by decide⟩ (λw h Y=>PySem.W.kIn_of Y) Dp.Wb ?F (λns hn=>Dp.Q8 (n:=0))
 case F=>
  intro w mg fa h KX G0 hmg;refine' ⟨Dp.tab [(146,?C0),(169,?C1),(149,?C2),(157,?C3),(152,?C4),(160,?C5),(163,?C6),(263,?C7)],Dp.Zd3 (ct:=Dp.tab [(146,?C0),(169,?C1),(149,?C2),(157,?C3),(152,?C4),(160,?C5),(163,?C6),(263,?C7)]) (Pm:=w.params) (C0:=?C0) (C1:=?C1) (C2:=?C2) (C3:=?C3) (C4:=?C4) (C5:=?C5) (C6:=?C6) (C7:=?C7) KX G0 hmg ?z0 ?z1 ?z2 ?z3 ?z4 ?z5 ?z6 ?z7 ⟨?_,?_,?_,?_,?_,?_,?_,?_,?_,?_,?_,?_⟩ (.mk ?_ ?_ ?_ ?_ ?_) (.mk ?_ ?_ ?_ ?_ ?_) ⟨?_,?_,?_,?_,?_,?_,?_,?_,?_,?_,?_,?_⟩ (.mk ?_ ?_ ?_ ?_ ?_) (.mk ?_ ?_ ?_ ?_ ?_) ⟨?_,?_,?_,?_,?_,?_,?_,?_,?_,?_,?_,?_⟩ (.mk ?_ ?_ ?_ ?_ ?_) (.mk ?_ ?_ ?_ ?_ ?_) ⟨?_,?_,?_,?_,?_,?_,?_,?_,?_,?_,?_,?_⟩ (.mk ?_ ?_ ?_ ?_ ?_) (.mk ?_ ?_ ?_ ?_ ?_) ⟨?_,?_,?_,?_,?_,?_,?_,?_,?_,?_,?_,?_⟩ (.mk ?_ ?_ ?_ ?_ ?_) (.mk ?_ ?_ ?_ ?_ ?_) ⟨?_,?_,?_,?_,?_,?_,?_,?_,?_,?_,?_,?_⟩ (.mk ?_ ?_ ?_ ?_ ?_) (.mk ?_ ?_ ?_ ?_ ?_) ⟨?_,?_,?_,?_,?_,?_,?_,?_,?_,?_,?_,?_⟩ (.mk ?_ ?_ ?_ ?_ ?_) (.mk ?_ ?_ ?_ ?_ ?_) ⟨?_,?_,?_,?_,?_,?_,?_,?_,?_,?_,?_,?_⟩ (.mk ?_ ?_ ?_ ?_ ?_ ?_ ?_) (.mk ?_ ?_ ?_ ?_ ?_) (.mk ?_ ?_ ?_ ?_ ?_) (.mk ?_ ?_ ?_ ?_ ?_) (.mk ?_ ?_ ?_ ?_ ?_) (.mk ?_ ?_ ?_ ?_ ?_) (.mk ?_ ?_ ?_ ?_ ?_) (.mk ?_ ?_ ?_ ?_ ?_) (.mk ?_ ?_ ?_ ?_ ?_) (.mk ?_ ?_ ?_ ?_) ?_ ?_ ?_ ?_ ?_ ?_ ?_ ?_ ?_ ?_ ?_ ?_ ?_ ?_ ?_ ?_ ?_ ?_ ?_ ?_ ?_ ?_ (.mk ?_ ?_ ?_ ?_) (.mk ?_ ?_ ?_ ?_) (.mk ?_ ?_ ?_ ?_) ?_ ?_ ?_ ?_ ?_ ?_ ?_ ?_ ?_ ?_ ?_ ?_ (.mk ?_ ?_ ?_ ?_) (.mk ?_ ?_ ?_ ?_) (.mk ?_ ?_ ?_ ?_) (.mk ?_ ?_ ?_ ?_) (.mk ?_ ?_ ?_ ?_) ?_ ?_ ?_ ?_ ?_ ?_ ?_ (.mk ?_ ?_ ?_ ?_) (.mk ?_ ?_ ?_ ?_) (.mk ?_ ?_ ?_ ?_) (.mk ?_ ?_ ?_ ?_) (.mk ?_ ?_ ?_ ?_) (.mk ?_ ?_ ?_ ?_) (.mk ?_ ?_ ?_ ?_) (.mk ?_ ?_ ?_ ?_) (.mk ?_ ?_ ?_ ?_) (.mk ?_ ?_ ?_ ?_) (.mk ?_ ?_ ?_ ?_ ?_ ?_) (.mk ?_ ?_ ?_ ?_) (.mk ?_ ?_ ?_ ?_) ?_ (.mk ?_ ?_ ?_ ?_) (.mk ?_ ?_ ?_ ?_) ?_ ?_ ?_ ?_ (.mk ?_ ?_ ?_ ?_) (.mk ?_ ?_ ?_ ?_) (.mk ?_ ?_ ?_ ?_) (.mk ?_ ?_ ?_ ?_) (.mk ?_ ?_ ?_ ?_) (.mk ?_ ?_ ?_ ?_) (.mk ?_ ?_ ?_ ?_) (.mk ?_ ?_ ?_ ?_) (.mk ?_ ?_ ?_ ?_) (.mk ?_ ?_ ?_ ?_) (.mk ?_ ?_ ?_ ?_) (.mk ?_ ?_ ?_ ?_) (.mk ?_ ?_ ?_ ?_) (.mk ?_ ?_ ?_ ?_) (.mk ?_ ?_ ?_ ?_) (.mk ?_ ?_ ?_ ?_) ?_ ?_ ?_ ?_ ?_ ?_ ?_ ?_ ?_ ?_ ?_ ?_ ?_ ?_ ?_ ?_ (.mk ?_ ?_ ?_ ?_ ?_ ?_ ?_ ?_ ?_ ?_ ?_ ?_ ?_ ?_ ?_ ?_ ?_ ?_ ?_ ?_ ?_ ?_ ?_) ?_⟩
  all_goals (first|k_is|exact rfl|skip)
  all_goals (first|k_is|exact rfl|skip)

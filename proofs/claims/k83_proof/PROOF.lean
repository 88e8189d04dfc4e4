import PyProof.Rows.All
import Wide.All
import OpenK.AllK
import Wide.FinOn
import Lean
import PyProof.EqAt
import PyProof.EqKinds
import PyProof.TupleCall
import PyProof.TupleKey
import PyProof.DictWalks
import PyProof.DictItems
import KE.KPairComp
import KE.KUnpack
import PySem.Challenge.RW_fakehunt_k83_whole_book
set_option Elab.async false
set_option linter.all false
set_option maxRecDepth 100000
set_option maxHeartbeats 4000000
set_option genSizeOf false
def aD:=@List.length_map
def aE:=@decide_eq_false
def aF:=@Nat.le_refl
def aG:=@decide_eq_true
def aH:=@List.mem_cons
def aI:=@List.length_append
def aJ:=@List.map_cons
def aK:=@Nat.le_trans
def aM:=@List.size_toArray
def aO:=@List.mem_singleton
def aP:=@List.length_cons
def aR:=@List.mem_map
def aS:=@List.getElem?_map
def aT:=@Nat.lt_of_lt_of_le
def aU:=@List.mem_of_getElem?
def aV:=@Nat.zero_le
def aX:=@List.map_append
def aY:=@List.all_cons
def aZ:=@Int.toNat_natCast
def bA:=@Nat.ne_of_lt
def bB:=@List.append_nil
def bC:=@List.length_set
def bD:=@List.not_mem_nil
def bE:=@List.mem_append
def bF:=@List.getElem?_eq_some_iff
def bG:=@List.append_assoc
def bH:=@Nat.zero_add
def bI:=@List.getElem?_set_ne
def bK:=@Bool.eq_iff_iff
def bL:=@List.map_map
def bM:=@List.mem_filter
def bN:=@Nat.lt_succ_self
def bO:=@List.nodup_cons
def bP:=@List.drop_eq_getElem_cons
def bQ:=@List.lookup_cons
def bR:=@Int.toNat_of_nonneg
def bS:=@List.length_take
def bT:=@List.getElem?_append_left
def bU:=@List.all_eq_true
def bV:=@Bool.false_eq_true
def bW:=@List.drop_zero
def bX:=@Bool.or_eq_true
def bY:=@Int.natCast_add
def bZ:=@Nat.lt_irrefl
def cA:=@List.length_replicate
def cB:=@List.replicate_succ
def cC:=@Bool.true_and
def cD:=@beq_eq_false_iff_ne
def cF:=@Array.length_toList
def cG:=@List.mem_append_right
def cH:=@Nat.le_succ
def cI:=@List.getElem?_append_right
def cJ:=@List.any_cons
def cK:=@Bool.and_false
def cL:=@List.find?_cons
def cM:=@List.nodup_append
def cN:=@List.flatMap_cons
def cP:=@Option.bind_eq_some_iff
def cQ:=@Bool.and_eq_true_iff
def cR:=@List.mem_range
def cT:=@Nat.le_of_eq
def cU:=@List.flatten_cons
def cV:=@Nat.add_assoc
def cW:=@List.nodup_nil
def cX:=@List.all_map
def cY:=@Bool.not_eq_true'
def cZ:=@List.getElem?_eq_none_iff
def dA:=@List.getElem_mem
def dB:=@Bool.decide_or
def dC:=@List.getElem?_set_self
def dD:=@Nat.ne_of_gt
def dE:=@Bool.false_and
def dF:=@List.length_drop
def dG:=@Bool.or_false
def dH:=@List.map_nil
def dI:=@List.length_nil
def dJ:=@Array.getElem?_eq_getElem
def dL:=@Bool.and_true
def dM:=@Option.map_eq_some_iff
def dO:=@List.range'_succ
def dP:=@Nat.le_add_right
def dQ:=@List.cons_ne_nil
def dR:=@List.nil_append
def dS:=@Nat.le_of_not_lt
def dU:=@List.length_eq_zero_iff
def dW:=@List.range_eq_range'
def dX:=@List.take_of_length_le
def dY:=@List.length_range
def dZ:=@Int.natCast_nonneg
def eA:=@List.drop_of_length_le
def eB:=@List.map_flatMap
def eC:=@List.getElem?_replicate
def eD:=@List.length_singleton
def eE:=@List.getElem?_eq_none
def eF:=@List.drop_eq_nil_of_le
def eG:=@List.find?_cons_of_neg
def eH:=@List.getElem?_toArray
def eI:=@List.filter_cons_of_neg
def eJ:=@List.filter_cons_of_pos
def eK:=@List.length_filter_le
section
open PySem PySem.Spec PyProof.Rows
def aA:=@wpAny_bind
def aB:=@wpAny_pure
def aL:=@Heap.lt_size
def aQ:=@Heap.get?_push_of_some
def aW:=@Heap.get?_push_size
def bJ:=@wpAny_mono
end
abbrev Li.{u}(α:Type u):Type u:=List α
abbrev Ot.{u}(α:Type u):Type u:=Option α
abbrev vL:=PySem.Value
abbrev Ad:=PySem.Addr
abbrev sH7:=PySem.Shared
theorem oB7{α β:Type}{a:α}{f:α->Ot β}:(some a).bind f=f a:=rfl
abbrev fG7:=PySem.W.Frag
theorem bA7(a b:Bool):((a&&b)=true)=(a=true/\b=true):=Bool.and_eq_true a b
theorem lG7{α:Type _}{l:Li α}{i:Nat}(h:i<l.length):l[i]?=some l[i]:=List.getElem?_eq_getElem h
theorem lM7{α:Type _}(y:α){a:α}{l:Li α}(h:a∈l):a∈y::l:=List.mem_cons_of_mem y h
theorem lQ7{α:Type _}{a:α}{l:Li α}:a∈a::l:=List.mem_cons_self
theorem bF7:¬false=true:=Bool.false_ne_true
namespace L2
open PySem PySem.Spec PyProof.Rows
abbrev Key:=Sum Int Str
noncomputable def keyIs:Key->vL->Bool
  |.inl k,v=>Value.isInt k v
  |.inr x,v=>Value.isStrOf x v
noncomputable def keyH(w:World):Key->Int
  |.inl k=>hashInt k
  |.inr x=>hashStr w x
theorem keyIs_shape:∀ {k:Key}{v:vL},keyIs k v=true->(∃ i t,k=Sum.inl i/\v=Value.int i t)\/(∃ x t,k=Sum.inr x/\v=Value.str x t)
  |.inl i,v,h=>by
    obtain⟨t,e⟩:=Value.isInt_shape (k:=i) (v:=v) h;exact .inl ⟨i,t,rfl,e⟩
  |.inr x,v,h=>by
    obtain⟨t,e⟩:=Value.isStrOf_shape (x:=x) (v:=v) h;exact .inr ⟨x,t,rfl,e⟩
theorem keyIs_int(i:Int)(t:Tok):keyIs (.inl i) (.int i t)=true:=by simp[keyIs,Value.isInt]
theorem keyIs_str(x:Str)(t:Tok):keyIs (.inr x) (.str x t)=true:=by simp[keyIs,Value.isStrOf]
theorem key_ll(a b:Int):decide ((Sum.inl a:Key)=Sum.inl b)=(a==b):=by
  by_cases e:a=b
  . subst e;simp
  . have h:¬(Sum.inl a:Key)=Sum.inl b:=λq=>e (Sum.inl.inj q)
    rw[aE h];exact(cD.mpr e).symm
theorem key_rr(a b:Str):decide ((Sum.inr a:Key)=Sum.inr b)=decide (a=b):=by
  by_cases e:a=b
  . subst e;simp
  . have h:¬(Sum.inr a:Key)=Sum.inr b:=λq=>e (Sum.inr.inj q)
    rw[aE h,aE e]
theorem key_lr(a:Int)(b:Str):decide ((Sum.inl a:Key)=Sum.inr b)=false:=aE (λq=>nomatch q)
theorem key_rl(a:Str)(b:Int):decide ((Sum.inr a:Key)=Sum.inl b)=false:=aE (λq=>nomatch q)
noncomputable def mixKind(prog:Program)(w:World):PySem.KeyKind prog w Key where
  is:=keyIs
  hash:=keyH w
  inj:=λv a b l f=>by
    rcases keyIs_shape l with⟨i,t,rfl,rfl⟩|⟨x,t,rfl,rfl⟩
    . rcases keyIs_shape f with⟨j,u,rfl,e⟩|⟨y,u,rfl,e⟩
      . injection e with c _;rw[c]
      . exact nomatch e
    . rcases keyIs_shape f with⟨j,u,rfl,e⟩|⟨y,u,rfl,e⟩
      . exact nomatch e
      . injection e with c _;rw[c]
  byValue:=λk v h=>by
    rcases keyIs_shape h with⟨i,t,rfl,rfl⟩|⟨x,t,rfl,rfl⟩<;>rfl
  pyHash:=λd h=>by
    rcases keyIs_shape d with⟨i,t,rfl,rfl⟩|⟨x,t,rfl,rfl⟩
    . exact wpAny_pyHash_int h
    . exact wpAny_pyHash_str h
  eqBool:=λg d h=>by
    rcases keyIs_shape g with⟨i,t,rfl,rfl⟩|⟨x,t,rfl,rfl⟩
    . rcases keyIs_shape d with⟨j,u,rfl,rfl⟩|⟨y,u,rfl,rfl⟩
      . rw[key_ll]at h;exact wpAny_eqBool_int h
      . rw[key_lr]at h;exact SeqAt.EqAt.int_str i t y u _ _ _ _ h
    . rcases keyIs_shape d with⟨j,u,rfl,rfl⟩|⟨y,u,rfl,rfl⟩
      . rw[key_rl]at h;exact SeqAt.EqAt.str_int x t j u _ _ _ _ h
      . rw[key_rr]at h;exact wpAny_eqBool_str h
  «strs»:=λk x t v h=>by
    rcases keyIs_shape h with⟨i,u,rfl,e⟩|⟨y,u,rfl,e⟩
    . exact nomatch e
    . injection e with c _
      subst c;cases v<;>rfl
theorem mixKind_int(prog:Program)(w:World)(i:Int)(t:Tok):(mixKind prog w).is (.inl i) (.int i t)=true:=keyIs_int i t
theorem mixKind_str(prog:Program)(w:World)(x:Str)(t:Tok):(mixKind prog w).is (.inr x) (.str x t)=true:=keyIs_str x t
inductive V where
  |non|bl (b:Bool)|int (i:Int)|str (x:Str)|byt (b:Array UInt8)|flt (b:UInt64)|ref (a:Addr)|ty (n:String)
  deriving DecidableEq
def RelV:V->vL->Prop
  |.non,u=>u=Value.none
  |.bl b,u=>u=Value.bool b
  |.int i,u=>∃ t,u=Value.int i t
  |.str x,u=>∃ t,u=Value.str x t
  |.byt b,u=>∃ t,u=Value.bytes b t
  |.flt b,u=>∃ t,u=Value.float b t
  |.ref a,u=>u=Value.ref a
  |.ty n,u=>u=Value.type n
abbrev Vals:Li V->Li vL->Prop:=Paired RelV
variable{xs:Li V}{us:Li vL}
theorem Vals.length(r:Vals xs us):xs.length=us.length:=Paired.length r
theorem Vals.get:∀ {xs:Li V}{us:Li vL}{i:Nat}{x:V},Vals xs us->xs[i]?=some x->∃ u,us[i]?=some u/\RelV x u
  |_,_,_,_,.nil,e=>by simp at e
  |_,_,0,_,.cons r _,e=>by simp at e;subst e;exact⟨_,rfl,r⟩
  |_,_,i+1,x,.cons _ t,e=>by
    obtain⟨u,b,a⟩:=Vals.get (i:=i) (x:=x) t (by simpa using e)
    exact⟨u,by simpa using b,a⟩
theorem Vals.set{x:V}{u:vL}(r:RelV x u):∀ {xs:Li V}{us:Li vL} (i:Nat),Vals xs us->Vals (xs.set i x) (us.set i u)
  |_,_,_,.nil=>.nil
  |_,_,0,.cons _ t=>.cons r t
  |_,_,i+1,.cons q t=>.cons q (Vals.set r i t)
theorem Vals.append:∀ {xs ys:Li V}{us ws:Li vL},Vals xs us->Vals ys ws->Vals (xs++ys) (us++ws)
  |_,_,_,_,.nil,s=>s
  |_,_,_,_,.cons r t,s=>.cons r (Vals.append t s)
theorem Vals.take:∀ {xs:Li V}{us:Li vL} (n:Nat),Vals xs us->Vals (xs.take n) (us.take n)
  |_,_,0,_=>.nil
  |_,_,_+1,.nil=>.nil
  |_,_,n+1,.cons r t=>.cons r (Vals.take n t)
theorem Vals.drop:∀ {xs:Li V}{us:Li vL} (n:Nat),Vals xs us->Vals (xs.drop n) (us.drop n)
  |_,_,0,r=>r
  |_,_,_+1,.nil=>.nil
  |_,_,n+1,.cons _ t=>Vals.drop n t
def RelO:Ot V->Ot vL->Prop
  |some v,some u=>RelV v u
  |none,none=>True
  |_,_=>False
def KV{a:Type}:Li (a×V)->Li (a×vL)->Prop:=Paired λ(p:a×V) (q:a×vL)=>p.1=q.1/\RelV p.2 q.2
noncomputable def kV:Key->V
  |.inl i=>.int i
  |.inr x=>.str x
inductive HO where
    |lst (xs:List V)
    |tup (xs:List V)
    |dK (kvs:List (Key×V))|dT (kvs:List (List Key×V))|dN (f:World->List DictEntry)
    |set (S:Int->Bool) (n:Nat)
    |ins (C dx:Addr) (fs:List (Str×V))
    |own (x:Addr)
    |xd (fs:List (Str×V))
    |met (f x:Addr)
    |rng (lo hi:Int)
    |frz (o:Obj) (u:HO)
    |tbl (ps:Array Value)
    |ext (φ:Heap->Prop)
abbrev Hp:=Ad->Ot HO
noncomputable def upd(H:Hp)(a:Ad)(o:HO):Hp:=λb=>if b=a then some o else H b
variable{H:Hp}
theorem upd_same{a:Ad}{o:HO}:upd H a o a=some o:=by unfold upd;rw[if_pos rfl]
theorem upd_ne{a b:Ad}{o:HO}(h:b≠a):upd H a o b=H b:=by unfold upd;rw[if_neg h]
theorem ne_of{a b:Ad}{o u:HO}(h:H a=some o)(c:H b=some u)(d:o≠u):a≠b:=by
  intro e;subst e;rw[h]at c;exact d (Option.some.inj c)
theorem ne_of_none{a b:Ad}{o:HO}(h:H a=some o)(c:H b=none):a≠b:=by
  intro e;subst e;rw[h]at c;cases c
section
variable (P:Program) (w:World)
def ObjOk(H:Hp)(h:Heap)(a:Ad):HO->Prop
  |.lst xs=>xs.length<=sizeLine/\∃ (its:Li vL) (n:Nat),Vals xs its/\h.get? a=some { cls:=.type "list",data:=.seq its.toArray n }
  |.tup xs=>xs.length<=sizeLine/\∃ its:Li vL,Vals xs its/\IsTup h a its.toArray
  |.dK b=>b.length<=sizeLine/\(a==sysModules)=false/\∃ i,KV b i/\h.DictOf (mixKind P w) a i
  |.dT b=>b.length<=sizeLine/\(a==sysModules)=false/\∃ xs:Li (Li Key×Ad×vL),
      Paired (λ(p:Li Key×V) (q:Li Key×Ad×vL)=>p.1=q.1/\H q.2.1=some (.tup (p.1.map kV))/\RelV p.2 q.2.2) b xs /\
      ∃ o d s,h.get? a=some o/\o.ExactDict/\o.data=.dict d s/\d.toList=xs.map (entryOfKey (tupleKind (mixKind P w)))/\(xs.map (·.1)).Nodup
  |.dN f=>(a==sysModules)=false/\∃ o d,h.get? a=some o/\o.ExactDict/\o.data=.dict d d.size/\d.toList=f w
  |.set S n=>h.SetOf (intKind P w) a S n
  |.ins C e fs=>H e=some (.own a)/\fs.length<=1000/\e≠a/\h.get? a=some (W.instObj C e) /\
      ∃ c,h.Ns1 e c/\(∀ f,RelO (fs.lookup f) (c f))/\PySem.Within c (fs.map (·.1))
  |.own _=>∃ o,h.get? a=some o
  |.xd fs=>∃ c,h.Ns1 a c/\∀ f,RelO (fs.lookup f) (c f)
  |.rng m r=>∃ t u v,h.get? a=some { cls:=.type "range",data:=.fields #[.int m t,.int r u,.int 1 v] }
  |.frz o u=>h.get? a=some o/\ObjOk H h a u
  |.tbl l=>h.get? a=some { cls:=.none,data:=.fields l }
  |.met f x=>h.get? a=some (W.methodObj (.ref f) (.ref x))
  |.ext g=>g h/\(∃ o,h.get? a=some o)/\∀ k j:Heap,g k->(∀ o,k.get? a=some o->j.get? a=some o)->g j
def HOk(H:Hp)(h:Heap):Prop:=∀ a o,H a=some o->ObjOk P w H h a o
end
variable{P:Program}{w:World}{H H':Hp}{h h':Heap}{a:Ad}
section
variable{o:HO}
theorem ObjOk.lt(x:ObjOk P w H h a o):a < h.objs.size:=by
  cases o with
  |lst xs=>obtain⟨_,_,_,_,e⟩:=x;exact aL e
  |tup xs=>obtain⟨_,_,_,p⟩:=x;exact p.lt
  |dK b=>obtain⟨_,_,_,_,o,_,_,e,_⟩:=x;exact aL e
  |dT b=>obtain⟨_,_,_,_,o,_,_,e,_⟩:=x;exact aL e
  |dN f=>obtain⟨_,o,_,e,_⟩:=x;exact aL e
  |set S n=>obtain⟨o,_,_,_,e,_⟩:=x;exact aL e
  |ins C k fs=>obtain⟨_,_,_,e,_⟩:=x;exact aL e
  |own y=>obtain⟨_,e⟩:=x;exact aL e
  |xd fs=>obtain⟨_,⟨_,_,_,e,_⟩,_⟩:=x;exact aL e
  |rng i j=>obtain⟨_,_,_,e⟩:=x;exact aL e
  |frz g u=>obtain⟨e,_⟩:=x;exact aL e
  |tbl d=>exact aL (show h.get? a=some _ from x)
  |met f y=>exact aL (show h.get? a=some _ from x)
  |ext c=>obtain⟨_,⟨_,e⟩,_⟩:=x;exact aL e
theorem Paired.mapP{d c:Type}{F G:d->c->Prop}:∀ {l₁:Li d}{l₂:Li c},Paired F l₁ l₂->(∀ a b,F a b->G a b)->Paired G l₁ l₂
  |_,_,.nil,_=>.nil
  |_,_,.cons r t,f=>.cons (f _ _ r) (Paired.mapP t f)
theorem ObjOk.stay(x:ObjOk P w H h a o)(k:∀ b u,(b=a\/H b=some (.own a))->h.get? b=some u->h'.get? b=some u)(I:∀ b,H b=some (.own a)->H' b=some (.own a))(G:∀ b xs,H b=some (.tup xs)->H' b=some (.tup xs)):ObjOk P w H' h' a o:=by
  induction o with
  |lst xs=>obtain⟨z,its,n,r,e⟩:=x;exact⟨z,its,n,r,k _ _ (.inl rfl) e⟩
  |tup xs=>obtain⟨z,its,r,g,e,c⟩:=x;exact⟨z,its,r,g,k _ _ (.inl rfl) e,c⟩
  |dK s=>obtain⟨z,y,D,r,g,i,j,e,c⟩:=x;exact⟨z,y,D,r,g,i,j,k _ _ (.inl rfl) e,c⟩
  |dT s=>
    obtain⟨z,y,xs,r,g,i,j,e,c⟩:=x;exact⟨z,y,xs,Paired.mapP r λp q z=>⟨z.1,G _ _ z.2.1,z.2.2⟩,g,i,j,k _ _ (.inl rfl) e,c⟩
  |dN f=>obtain⟨z,g,i,e,c⟩:=x;exact⟨z,g,i,k _ _ (.inl rfl) e,c⟩
  |set S n=>obtain⟨g,i,j,t,e,c⟩:=x;exact⟨g,i,j,t,k _ _ (.inl rfl) e,c⟩
  |ins C N fs=>
    obtain⟨d,z,E,e,m,⟨l,i,j,J,c⟩,r⟩:=x;exact⟨I _ d,z,E,k _ _ (.inl rfl) e,m,⟨l,i,j,k _ _ (.inr d) J,c⟩,r⟩
  |own y=>obtain⟨g,e⟩:=x;exact⟨g,k _ _ (.inl rfl) e⟩
  |xd fs=>obtain⟨m,⟨l,i,j,e,c⟩,r⟩:=x;exact⟨m,⟨l,i,j,k _ _ (.inl rfl) e,c⟩,r⟩
  |rng L M=>obtain⟨t,u,v,e⟩:=x;exact⟨t,u,v,k _ _ (.inl rfl) e⟩
  |frz g u F=>obtain⟨e,q⟩:=x;exact⟨k _ _ (.inl rfl) e,F q⟩
  |tbl B=>
    have e:h.get? a=some { cls:=.none,data:=.fields B }:=x;show h'.get? a=some { cls:=.none,data:=.fields B };exact k a _ (.inl rfl) e
  |met f y=>
    have e:h.get? a=some (W.methodObj (.ref f) (.ref y)):=x;show h'.get? a=some (W.methodObj (.ref f) (.ref y));exact k a _ (.inl rfl) e
  |ext K=>obtain⟨p,⟨o,e⟩,A⟩:=x;exact⟨A _ _ p λo q=>k _ _ (.inl rfl) q,⟨o,k _ _ (.inl rfl) e⟩,A⟩
theorem HOk.lt(x:HOk P w H h)(e:H a=some o):a < h.objs.size:=(x a o e).lt
theorem HOk.fresh(x:HOk P w H h)(e:h.objs.size<=a):H a=none:=by
  cases q:H a with
  |none=>rfl
  |some u=>exact absurd (aT (x.lt q) e) (bZ _)
theorem HOk.kept(x:HOk P w H h)(k:∀ b u,h.get? b=some u->h'.get? b=some u):HOk P w H h':=λa o e=>
  (x a o e).stay (λb u _ q=>k b u q) (λ_ q=>q) λ_ _ q=>q
theorem HOk.laid(x:HOk P w H h)(k:∀ b u,h.get? b=some u->h'.get? b=some u)(g:h.objs.size<=a)(new:ObjOk P w (upd H a o) h' a o):HOk P w (upd H a o) h':=λb u e=>by
  have d:=x.fresh g;by_cases f:b=a
  . subst f;rw[upd_same]at e;cases e;exact new
  . rw[upd_ne f]at e
    exact(x b u e).stay (λc v _ q=>k c v q) (λc q=>by rw[upd_ne (ne_of_none q d)];exact q) λc xs q=>by rw[upd_ne (ne_of_none q d)];exact q
end
def Rd(H:Hp)(a:Ad)(u:HO):Prop:=H a=some u\/∃ o,H a=some (.frz o u)
variable{w:World}{h:Heap}
theorem Rd.ok{P:Program}{a:Ad}{u:HO}(r:Rd H a u)(x:HOk P w H h):ObjOk P w H h a u:=by
  rcases r with r|⟨o,r⟩
  . exact x a u r
  . obtain⟨_,q⟩:=x a _ r
    exact q
def Mut:Ot HO->Prop
  |some (.lst _)=>True
  |some (.dK _)=>True
  |some (.dT _)=>True
  |some (.dN _)=>True
  |some (.set _ _)=>True
  |some (.ins _ _ _)=>True
  |some (.ext _)=>True
  |_=>False
variable{x:Ad}
section
variable{e:Ad}{o':HO}
theorem HOk.write(ok:HOk P w H h)(mu:Mut (H x))(l:e=x\/H e=some (.own x))(k:∀ b u,b≠e->h.get? b=some u->h'.get? b=some u)(i:∃ u,h'.get? e=some u)(new:ObjOk P w (upd H x o') h' x o'):HOk P w (upd H x o') h':=λb u q=>by
  have d:∀ c y,H c=some (.own y)->c≠x:=λc y r z=>by subst z;rw[r]at mu;exact mu
  have f:∀ c xs,H c=some (.tup xs)->c≠x:=λc xs r z=>by subst z;rw[r]at mu;exact mu
  by_cases g:b=x
  . subst g;rw[upd_same]at q;cases q;exact new
  . rw[upd_ne g]at q
    by_cases a:b=e
    . have j:H b=some (.own x):=by
        rcases l with z|z
        . exact absurd (a.trans z) g
        . rw[a];exact z
      rw[q]at j;cases j
      obtain⟨v,m⟩:=i;exact⟨v,by rw[a];exact m⟩
    . refine(ok b u q).stay (λc v hc r=>k c v ?_ r) (λc r=>by rw[upd_ne (d c b r)];exact r) λc xs r=>by rw[upd_ne (f c xs r)];exact r
      rcases hc with rfl|hc
      . exact a
      . rintro rfl
        rcases l with z|z
        . exact d c b hc z
        . rw[hc]at z;cases z;exact g rfl
end
structure Un(fs ex:List Addr)(H H':Hp)(h h':Heap):Prop where
  keep:∀ b o,h.get? b=some o->H b=none->b∉fs->b∉ex->h'.get? b=some o
  slot:∀ b o,h.get? b=some o->H b=none->b∈fs->b∉ex->∃ sl,h'.get? b=some { o with slots:=sl }
  free:∀ b o,h.get? b=some o->H b=none->b∉ex->H' b=none
  there:∀ b o,h.get? b=some o->b∉ex->∃ o',h'.get? b=some o'
  tups:∀ b xs,H b=some (.tup xs)->H' b=some (.tup xs)
  frzs:∀ b o u,H b=some (.frz o u)->H' b=some (.frz o u)
  tbls:∀ b ps,H b=some (.tbl ps)->∃ more,H' b=some (.tbl (ps++more))
section
variable{fs fs' ex ex':Li Ad}{H1 H2:Hp}{h1 h2:Heap}{e:Ad}{o:HO}
theorem Un.any(u:Un fs ex H H1 h h1){b:Ad}{a:Obj}(q:h.get? b=some a)(n:H b=none)(c:b∉ex):∃ sl,h1.get? b=some { a with slots:=sl }:=by
  by_cases d:b∈fs
  . exact u.slot b a q n d c
  . exact⟨a.slots,u.keep b a q n d c⟩
theorem Un.kept(k:∀ b u,h.get? b=some u->h'.get? b=some u):Un fs ex H H h h':=
  ⟨λb a q _ _ _=>k b a q,λb a q _ _ _=>⟨a.slots,k b a q⟩,λ_ _ _ n _=>n,λb a q _=>⟨a,k b a q⟩,λ_ _ q=>q,λ_ _ _ q=>q,λ_ c q=>⟨#[],by rw[q];simp⟩⟩
theorem Un.refl:Un fs ex H H h h:=Un.kept λ_ _ q=>q
theorem Un.laid(k:∀ b u,h.get? b=some u->h'.get? b=some u)(d:h.objs.size<=a)(c:H a=none):Un fs ex H (upd H a o) h h' where
  keep:=λb u q _ _ _=>k b u q
  slot:=λb u q _ _ _=>⟨u.slots,k b u q⟩
  free:=λb u q n _=>by rw[upd_ne (bA (aT (aL q) d))];exact n
  there:=λb u q _=>⟨u,k b u q⟩
  tups:=λb xs q=>by rw[upd_ne (ne_of_none q c)];exact q
  frzs:=λb u xs q=>by rw[upd_ne (ne_of_none q c)];exact q
  tbls:=λb e q=>⟨#[],by rw[upd_ne (ne_of_none q c),q];simp⟩
theorem Un.write(mu:Mut (H x))(i:e=x\/H e=some (.own x))(k:∀ b u,b≠e->h.get? b=some u->h'.get? b=some u)(d:∃ u,h'.get? e=some u):Un fs ex H (upd H x o) h h':=by
  have f:∀ b,H b=none->b≠x:=λb n z=>by subst z;rw[n]at mu;exact mu
  have g:∀ b,H b=none->b≠e:=λb n z=>by
    subst z;rcases i with r|r
    . exact f b n r
    . rw[n]at r;cases r
  have c:∀ b u,H b=some u->¬Mut (some u)->b≠x:=λb u q nm z=>by subst z;rw[q]at mu;exact nm mu
  refine⟨λb u q n _ _=>k b u (g b n) q,λb u q n _ _=>⟨u.slots,k b u (g b n) q⟩,λb u q n _=>by rw[upd_ne (f b n)];exact n,λb u q _=>?_,
    λb xs q=>by rw[upd_ne (c b _ q λz=>z)];exact q,λb u xs q=>by rw[upd_ne (c b _ q λz=>z)];exact q,λb j q=>⟨#[],by rw[upd_ne (c b _ q λz=>z),q];simp⟩⟩
  by_cases a:b=e
  . subst a;exact d
  . exact⟨u,k b u a q⟩
end
noncomputable def trk(h:Heap)(H:Hp):Li Ad:=(List.range h.objs.size).filter λa=>(H a).isSome
noncomputable def hidT(h:Heap)(H:Hp):Heap:=W.hideAll h (trk h H)
theorem hidT_size(h:Heap)(H:Hp):(hidT h H).objs.size=h.objs.size:=W.hideAll_size _ _
theorem hidT_get{b:Ad}{o:Obj}(e:h.get? b=some o)(n:H b=none):(hidT h H).get? b=some o:=
  W.hideAll_get _ e λa=>by
    have q:(H b).isSome=true:=(bM.mp a).2;rw[n]at q;simp at q
theorem of_hidT{b:Ad}{o:Obj}(e:(hidT h H).get? b=some o):h.get? b=some o/\H b=none:=by
  have a:h.get? b=some o:=W.of_hideAll (trk h H) e;refine⟨a,?_⟩;cases q:H b with
  |none=>rfl
  |some x=>
    have c:b∈trk h H:=bM.mpr ⟨cR.mpr (aL a),by simp[q]⟩
    have z:(hidT h H).get? b=none:=W.hideAll_none (trk h H) c;rw[z]at e;cases e
structure Mod(K:fG7)(mg:Str->Option Value)(base:Heap):Prop where
  kin:K.In base
  glob:base.Ns mainGlobals mg
  blt:∃ mb,base.Ns builtinsNs mb/\∀ x:Str,x ≠ "__name__"->mb x=bootBuiltins x
  nolimit:base.NoLimit
structure Cx where
  prog:Program
  w:World
  K:fG7
  mg:Str->Option Value
  base:Heap
  A:Around
  N:List Str
  s₀:Shared
  H₀:Hp
  env:Env
  outer:List Env
  stack:List Env
  ex:List Addr
  fn:Str->Bool
  calm:Bool
  pn:List (Addr×Obj)
  xe:Value->Shared->Prop
noncomputable def frs(l:Li Env):Li Ad:=l.filterMap (·.frame)
noncomputable abbrev Cx.fs(X:Cx):Li Ad:=frs X.outer
def Vis(sc:Scope)(x:Str):Prop:=sc.names.lookup x=some .local\/sc.names.lookup x=some .cell\/sc.names.lookup x=some .free
def Loc(sc:Scope)(x:Str):Prop:=sc.names.lookup x=some .local\/sc.names.lookup x=some .cell
def Look(env:Env)(h:Heap)(m:Str->Ot vL)(x:Str)(u:vL):Prop:=
  (env.kindOf x=some .local/\m x=some u)\/((env.kindOf x=some .cell\/env.kindOf x=some .free)/\∃ c,env.cells.lookup x=some c/\h.IsCell c (some u))
structure Cx.Ok(X:Cx):Prop where
  mod:Mod X.K X.mg X.base
  kind:X.env.scope.kind=.function
  glob:X.env.globals=mainGlobals
  blt:X.env.builtins=builtinsNs
  above:X.s₀.heap.objs.size<=X.env.locals
  inj:∀ x y c,X.env.cells.lookup x=some c->X.env.cells.lookup y=some c->x=y
  has:∀ x,(X.env.kindOf x=some .cell\/X.env.kindOf x=some .free)->∃ c,X.env.cells.lookup x=some c
  cab:∀ x c,X.fn x=true->X.env.cells.lookup x=some c->X.s₀.heap.objs.size<=c
  hd:X.calm=true->X.A.handled=none
  frames:X.A.frames=some X.stack
  stk:X.stack=X.outer\/(X.stack=X.env :: X.outer/\X.env.frame=some X.env.locals)
  exf:∀ b∈X.ex,b≠X.env.locals/\∀ x c,X.env.cells.lookup x=some c->c≠b
  bs:∀ b o,X.base.get? b=some o->X.s₀.heap.get? b=some o/\X.H₀ b=none
  bsz:X.base.objs.size<=X.s₀.heap.objs.size
  noex:∀ b o,X.base.get? b=some o->b∉X.ex
  exfs:∀ b∈X.ex,b∉X.fs
  funs:X.s₀.heap.FunFrames X.base X.outer
  frf:∀ b∈X.fs,X.H₀ b=none
structure Inv(X:Cx)(pQ:List (Addr×Obj))(O:List (Option V))(H:Hp)(s:Shared):Prop where
  ok:X.Ok
  os:s.os=X.s₀.os
  bare:AllBare s.gens
  base:Un X.fs X.ex X.H₀ H X.s₀.heap s.heap
  loc:∃ m,s.heap.Ns X.env.locals m/\∀ (i:Nat) (x:Str) (v:V),X.N[i]?=some x->O[i]?=some (some v)->Vis X.env.scope x->∃ u,RelV v u/\Look X.env s.heap m x u
  cell:∀ x c,X.env.cells.lookup x=some c->∃ v,s.heap.IsCell c v
  free:H X.env.locals=none
  freeC:∀ x c,X.env.cells.lookup x=some c->H c=none
  pin:∀ p∈X.pn++pQ,s.heap.get? p.1=some p.2/\H p.1=none/\p.1≠X.env.locals/\p.1∉X.fs/\∀ v,p.2.data≠.cell v
  hok:HOk X.prog X.w H s.heap
  len:O.length=X.N.length
variable{g':Array GenState}{t' i:Nat}{d':Drawn}{N:Li Str}{s':sH7}
variable{X:Cx}{pQ:Li (Ad×Obj)}{s:sH7}
section
variable{O:Li (Ot V)}
theorem Cx.Ok.nofr(ok:X.Ok){b:Ad}{o:Obj}(e:X.base.get? b=some o):b∉X.fs:=λa=>by
  have:=(ok.funs.mem a).1;rw[e]at this;cases this
theorem Inv.bs(I:Inv X pQ O H s):∀ b o,X.base.get? b=some o->s.heap.get? b=some o/\H b=none:=λb o e=>
  ⟨I.base.keep b o (I.ok.bs b o e).1 (I.ok.bs b o e).2 (I.ok.nofr e) (I.ok.noex b o e),I.base.free b o (I.ok.bs b o e).1 (I.ok.bs b o e).2 (I.ok.noex b o e)⟩
theorem Inv.bk(I:Inv X pQ O H s):∀ b o,X.base.get? b=some o->s.heap.get? b=some o:=λb o e=>(I.bs b o e).1
theorem Inv.mod(I:Inv X pQ O H s):Mod X.K X.mg X.base:=I.ok.mod
theorem Inv.kIn(I:Inv X pQ O H s):X.K.In s.heap:=I.ok.mod.kin.keeps I.bk
theorem Inv.lt(I:Inv X pQ O H s):X.env.locals < s.heap.objs.size:=let ⟨_,hn,_⟩:=I.loc;hn.lt
theorem Inv.sz(I:Inv X pQ O H s):X.s₀.heap.objs.size<=s.heap.objs.size:=aK I.ok.above (Nat.le_of_lt I.lt)
theorem Inv.nofs(I:Inv X pQ O H s){a:Ad}(h:s.heap.objs.size<=a):a∉X.fs:=λc=>by
  obtain⟨_,o,b,_⟩:=I.ok.funs.mem c;exact absurd (aT (aL b) (aK I.sz h)) (bZ _)
theorem Inv.cne(I:Inv X pQ O H s):∀ x c,X.env.cells.lookup x=some c->c≠X.env.locals:=λx c e z=>by
  obtain⟨v,o,d,f⟩:=I.cell x c e;obtain⟨m,⟨g,h,i,a,b,_⟩,_⟩:=I.loc;rw[z,a]at d;cases d;rw[b]at f;cases f
theorem Inv.funs(I:Inv X pQ O H s):s.heap.FunFrames X.base X.outer:=by
  have all:∀ (l:Li Env),(∀ b∈frs l,b∈X.fs)->X.s₀.heap.FunFrames X.base l->s.heap.FunFrames X.base l:=by
    intro l
    induction l with
    |nil=>intro _ _;trivial
    |cons p r g=>
      intro f k;obtain⟨m,⟨L,o,a,j,i,n⟩,h⟩:=k;have d:L∈X.fs:=f L (by unfold frs;rw[List.filterMap_cons,a];exact lQ7)
      obtain⟨sl,e⟩:=I.base.slot L o i (I.ok.frf L d) d λz=>I.ok.exfs L z d
      exact⟨m,⟨L,_,a,j,e,n⟩,g (λb c=>f b (by unfold frs;rw[List.filterMap_cons,a];exact lM7 _ c)) h⟩
  exact all X.outer (λ_ c=>c) I.ok.funs
theorem Inv.stack(I:Inv X pQ O H s):s.heap.FunFrames X.base X.stack:=by
  rcases I.ok.stk with e|⟨e,b⟩
  . rw[e];exact I.funs
  . rw[e]
    obtain⟨m,a,_⟩:=I.loc;refine .cons (by rw[I.ok.kind];decide) b a ?_ I.funs
    exact Heap.get?_none_of_le (aK I.ok.bsz I.ok.above)
theorem Inv.stkSub(I:Inv X pQ O H s):∀ b∈frs X.stack,b∈X.env.locals :: X.fs:=λb a=>by
  rcases I.ok.stk with e|⟨e,c⟩
  . rw[e]at a;exact lM7 _ a
  . rw[e]at a
    unfold frs at a;rw[List.filterMap_cons,c]at a;exact a
theorem Inv.stkFree(I:Inv X pQ O H s):∀ b∈frs X.stack,H b=none:=λb hb=>by
  rcases aH.mp (I.stkSub b hb) with e|hb
  . rw[e];exact I.free
  . obtain⟨_,o,a,_⟩:=I.ok.funs.mem hb
    exact I.base.free b o a (I.ok.frf b hb) λz=>I.ok.exfs b z hb
theorem Inv.step{ch:Li Ad}(I:Inv X pQ O H s)(g:∀ b∈ch,(b∈X.ex\/X.s₀.heap.objs.size<=b)/\b≠X.env.locals/\(∀ x c,X.env.cells.lookup x=some c->c≠b)/\∀ p∈X.pn++pQ,p.1≠b)(keep:∀ b o,b≠X.env.locals->b∉X.fs->b∉ch->s.heap.get? b=some o->H b=none->h'.get? b=some o)(slot:∀ b o,b≠X.env.locals->b∈X.fs->b∉ch->s.heap.get? b=some o->H b=none->∃ sl,h'.get? b=some { o with slots:=sl })(free:∀ b o,b∉ch->s.heap.get? b=some o->H b=none->H' b=none)(there:∀ b o,b∉ch->s.heap.get? b=some o->∃ B,h'.get? b=some B)(tups:∀ b xs,H b=some (.tup xs)->H' b=some (.tup xs))(frzs:∀ b o u,H b=some (.frz o u)->H' b=some (.frz o u))(tbls:∀ b E,H b=some (.tbl E)->∃ more,H' b=some (.tbl (E++more)))(N:∀ m,s.heap.Ns X.env.locals m->h'.Ns X.env.locals m)(hok:HOk X.prog X.w H' h')(T:AllBare g') :
    Inv X pQ O H' { s with heap:=h',gens:=g',drawn:=d',toks:=t' }:=by
  have C:∀ b o,X.s₀.heap.get? b=some o->b≠X.env.locals:=λb o e=>bA (aT (aL e) I.ok.above)
  have j:∀ b o,X.s₀.heap.get? b=some o->b∉X.ex->b∉ch:=λb o e a y=>by
    rcases (g b y).1 with z|z
    . exact a z
    . exact absurd (aT (aL e) z) (bZ _)
  have h:∀ x c,X.env.cells.lookup x=some c->∀ v,s.heap.IsCell c v->h'.IsCell c v:=λx c e v ⟨o,A,G⟩=>by
    have f:c∉ch:=λz=>(g c z).2.2.1 x c e rfl
    by_cases M:c∈X.fs
    . obtain⟨sl,q⟩:=slot c o (I.cne x c e) M f A (I.freeC x c e)
      exact⟨_,q,G⟩
    . exact⟨o,keep c o (I.cne x c e) M f A (I.freeC x c e),G⟩
  refine⟨I.ok,I.os,T,⟨λb o e n y a=>?_,λb o e n y a=>?_,λb o e n a=>?_,λb o e a=>?_,λb xs e=>tups b xs (I.base.tups b xs e),λb o xs e=>frzs b o xs (I.base.frzs b o xs e),λb E e=>?_⟩,?_,λx c e=>?_,?_,λx c e=>?_,λp L=>?_,hok,I.len⟩
  . exact keep b o (C b o e) y (j b o e a) (I.base.keep b o e n y a) (I.base.free b o e n a)
  . obtain⟨sl,t⟩:=I.base.slot b o e n y a
    obtain⟨F,D⟩:=slot b _ (C b o e) y (j b o e a) t (I.base.free b o e n a);exact⟨F,D⟩
  . obtain⟨B,t⟩:=I.base.there b o e a
    exact free b B (j b o e a) t (I.base.free b o e n a)
  . obtain⟨B,t⟩:=I.base.there b o e a
    exact there b B (j b o e a) t
  . obtain⟨Q,t⟩:=I.base.tbls b E e
    obtain⟨P,D⟩:=tbls b _ t;exact⟨Q++P,by rw[D,Array.append_assoc]⟩
  . obtain⟨m,R,S⟩:=I.loc
    refine⟨m,N m R,λi x v t D U=>?_⟩
    obtain⟨u,r,l⟩:=S i x v t D U;refine⟨u,r,?_⟩;rcases l with l|⟨k,c,e,z⟩
    . exact .inl l
    . exact .inr ⟨k,c,e,h x c e _ z⟩
  . obtain⟨v,z⟩:=I.cell x c e
    exact⟨v,h x c e v z⟩
  . obtain⟨m,⟨o,_,_,A,_⟩,_⟩:=I.loc
    exact free _ o (λz=>(g _ z).2.1 rfl) A I.free
  . obtain⟨v,o,A,G⟩:=I.cell x c e
    exact free c o (λz=>(g c z).2.2.1 x c e rfl) A (I.freeC x c e)
  . obtain⟨e,n,K,J,d⟩:=I.pin p L
    have f:p.1∉ch:=λz=>(g p.1 z).2.2.2 p L rfl
    exact⟨keep p.1 p.2 K J f e n,free p.1 p.2 f e n,K,J,d⟩
theorem Inv.un(I:Inv X pQ O H s)(u:Un X.fs [] H H' s.heap h')(hok:HOk X.prog X.w H' h'):Inv X pQ O H' { s with heap:=h',toks:=t' }:=by
  obtain⟨m,⟨o,p,q,g,r⟩,_⟩:=id I.loc;obtain⟨sl,j⟩:=u.any g I.free (by simp)
  exact I.step (g':=s.gens) (d':=s.drawn) (ch:=[]) (λ_ z=>nomatch z) (λb o _ c _ e n=>u.keep b o e n c (by simp)) (λb o _ c _ e n=>u.slot b o e n c (by simp)) (λb o _ e n=>u.free b o e n (by simp)) (λb o _ e=>u.there b o e (by simp)) u.tups u.frzs u.tbls (λl i=>by
    obtain⟨k,d,f,a,h⟩:=i;rw[g]at a;cases a
    exact⟨_,d,f,j,h⟩) hok I.bare
theorem Inv.call{ch:Li Ad}(I:Inv X pQ O H s)(u:Un (frs X.stack) ch H H' s.heap h')(hok:HOk X.prog X.w H' h')(q:AllBare g')(f:∀ b∈ch,(b∈X.ex\/X.s₀.heap.objs.size<=b)/\b≠X.env.locals/\(∀ x c,X.env.cells.lookup x=some c->c≠b)/\∀ p∈X.pn++pQ,p.1≠b) :
    Inv X pQ O H' { s with heap:=h',gens:=g',drawn:=d',toks:=t' }:=by
  obtain⟨m,⟨o,A,B,j,r⟩,_⟩:=id I.loc;obtain⟨sl,g⟩:=u.any j I.free λz=>(f _ z).2.1 rfl
  exact I.step (ch:=ch) f (λb o g t a e n=>u.keep b o e n (λz=>(aH.mp (I.stkSub b z)).elim g t) a) (λb o _ _ a e n=>u.any e n a) (λb o a e n=>u.free b o e n a) (λb o a e=>u.there b o e a) u.tups u.frzs u.tbls (λy l=>by
    obtain⟨v,h,i,d,k⟩:=l;rw[j]at d;cases d
    exact⟨_,h,i,g,k⟩) hok q
theorem Inv.turned{a:Ad}(I:Inv X pQ O H s)(k:∀ b o,b≠a->s.heap.get? b=some o->h'.get? b=some o)(i:H a=none)(g:a≠X.env.locals)(y:a∈X.ex\/X.s₀.heap.objs.size<=a)(w:∀ x c,X.env.cells.lookup x=some c->c≠a)(t:∀ p∈X.pn++pQ,p.1≠a):Inv X pQ O H { s with heap:=h',toks:=t' }:=by
  have f:∀ b u,H b=some u->b≠a:=λb u e z=>by rw[z,i]at e;cases e
  refine I.step (g':=s.gens) (d':=s.drawn) (ch:=[a]) (λb l=>?_) (λb o _ _ d e _=>k b o (λz=>d (by simp[z])) e) (λb o _ _ d e _=>⟨o.slots,k b o (λz=>d (by simp[z])) e⟩) (λ_ _ _ _ n=>n)
    (λb o d e=>⟨o,k b o (λz=>d (by simp[z])) e⟩) (λ_ _ e=>e) (λ_ _ _ e=>e) (λb C e=>⟨#[],by rw[e];simp⟩) (λm j=>?_) (λb u e=>?_) I.bare
  . have e:b=a:=by simpa using l
    subst e;exact⟨y,g,w,t⟩
  . obtain⟨o,A,B,h,r⟩:=j
    exact⟨o,A,B,k _ o (Ne.symm g) h,r⟩
  . refine(I.hok b u e).stay (λc v d q=>k c v ?_ q) (λ_ q=>q) λ_ _ q=>q
    rcases d with z|z
    . rw[z];exact f b u e
    . exact f c _ z
theorem Inv.tok(I:Inv X pQ O H s)(t:Nat):Inv X pQ O H { s with toks:=t }:=I.un (h':=s.heap) (t':=t) Un.refl I.hok
theorem Inv.kept{t':Nat}(I:Inv X pQ O H s)(k:∀ b u,s.heap.get? b=some u->h'.get? b=some u):Inv X pQ O H { s with heap:=h',toks:=t' }:=I.un (Un.kept k) (I.hok.kept k)
theorem Inv.laid{a:Ad}{o:HO}{t':Nat}(I:Inv X pQ O H s)(k:∀ b u,s.heap.get? b=some u->h'.get? b=some u)(c:s.heap.objs.size<=a)(new:ObjOk X.prog X.w (upd H a o) h' a o) :
    Inv X pQ O (upd H a o) { s with heap:=h',toks:=t' }:=I.un (Un.laid k c (I.hok.fresh c)) (I.hok.laid k c new)
theorem Inv.write{x e:Ad}{o:HO}{t':Nat}(I:Inv X pQ O H s)(mu:Mut (H x))(c:e=x\/H e=some (.own x))(k:∀ b u,b≠e->s.heap.get? b=some u->h'.get? b=some u)(a:∃ u,h'.get? e=some u)(new:ObjOk X.prog X.w (upd H x o) h' x o):Inv X pQ O (upd H x o) { s with heap:=h',toks:=t' }:=I.un (Un.write mu c k a) (I.hok.write mu c k a new)
theorem Inv.pins_of{a:Li (Ad×Obj)}(I:Inv X pQ O H s)(h:∀ p∈a,s.heap.get? p.1=some p.2/\H p.1=none/\p.1≠X.env.locals/\p.1∉X.fs/\∀ v,p.2.data≠.cell v):Inv X a O H s:=
  ⟨I.ok,I.os,I.bare,I.base,I.loc,I.cell,I.free,I.freeC,λp b=>(bE.mp b).elim (λz=>I.pin p (List.mem_append_left _ z)) (h p),I.hok,I.len⟩
theorem nodup_ix(hN:N.Nodup){j:Nat}{x:Str}(a:N[i]?=some x)(b:N[j]?=some x):i=j:=by
  obtain⟨f,d⟩:=bF.mp a;obtain⟨e,c⟩:=bF.mp b;exact(List.getElem_inj hN).mp (d.trans c.symm)
theorem store_ok2{M:Model}{A:Around}{E:vL->sH7->Prop}{x:Str}{v:V}{u:vL}{Q:Unit->sH7->Prop}(I:Inv X pQ O H s)(hN:X.N.Nodup)(P:X.N[i]?=some x)(t:Loc X.env.scope x)(r:RelV v u)(h:∀ s',Inv X pQ (O.set i (some v)) H s'->(∃ a,Heap.SameBut a s.heap s'.heap/\(a=X.env.locals\/X.env.cells.lookup x=some a))->Q () s')(hf:X.fn x=true\/X.env.scope.names.lookup x=some .local:=by first|exact .inl rfl|exact .inr rfl|assumption):wpAny M A (storeName X.env x u) Q E s:=by
  obtain⟨m,hn,hl⟩:=id I.loc;have R:(X.env.scope.kind==.class||(X.env.scope.kind==.module&&X.env.locals != X.env.globals))=false:=by rw[I.ok.kind];rfl
  have D:i < O.length:=by rw[I.len];exact(bF.mp P).1
  have cne:=I.cne;have g:∀ {a:Ad}{h':Heap},(∃ o,s.heap.get? a=some o/\H a=none)->Heap.SameBut a s.heap h'->HOk X.prog X.w H h':=λ{a h'} ha f b ob e=>by
    obtain⟨_,_,B⟩:=ha;refine(I.hok b ob e).stay (λc U hc q=>(f.2 c ?_).trans q) (λ_ q=>q) λ_ _ q=>q
    rintro rfl
    rcases hc with rfl|hc
    . rw[B]at e;cases e
    . rw[B]at hc;cases hc
  rcases t with hk|hk
  . refine wpAny_storeName_local hk hn (λh' hn' f=>?_) R
    obtain⟨oL,_,_,hoL,_⟩:=id hn;refine h _ ⟨I.ok,I.os,I.bare,⟨λb o e n J t=>?_,λb o e n J t=>?_,I.base.free,λb o e t=>?_,I.base.tups,I.base.frzs,I.base.tbls⟩,⟨_,hn',λj y Z l C e3=>?_⟩,λy c e=>?_,I.free,I.freeC,λp hp=>?_,g ⟨oL,hoL,I.free⟩ f,by simpa using I.len⟩ ⟨_,f,.inl rfl⟩
    . exact(f.2 b (bA (aT (aL e) I.ok.above))).trans (I.base.keep b o e n J t)
    . obtain⟨sl,l⟩:=I.base.slot b o e n J t
      exact⟨sl,(f.2 b (bA (aT (aL e) I.ok.above))).trans l⟩
    . obtain⟨o',l⟩:=I.base.there b o e t
      exact⟨o',(f.2 b (bA (aT (aL e) I.ok.above))).trans l⟩
    . by_cases F:j=i
      . subst F
        rw[P]at l;cases l
        rw[dC D]at C;cases C;exact⟨u,r,.inl ⟨hk,by simp⟩⟩
      . rw[bI (Ne.symm F)]at C
        obtain⟨u',r',q⟩:=hl j y Z l C e3;refine⟨u',r',?_⟩;rcases q with⟨k,e⟩|⟨k,c,e,z⟩
        . refine .inl ⟨k,?_⟩
          have:y≠x:=λe=>F (nodup_ix hN l (e ▸ P))
          simp[this,e]
        . exact .inr ⟨k,c,e,z.sameBut f (cne y c e)⟩
    . obtain⟨U,z⟩:=I.cell y c e
      exact⟨U,z.sameBut f (cne y c e)⟩
    . obtain⟨e,n,W,nf,d⟩:=I.pin p hp
      exact⟨(f.2 p.1 W).trans e,n,W,nf,d⟩
  . have G:X.fn x=true:=by
      rcases hf with z|z
      . exact z
      . rw[z]at hk;cases hk
    obtain⟨c,hc⟩:=I.ok.has x (.inl hk);obtain⟨U,z⟩:=I.cell x c hc;refine wpAny_storeName_cell I.ok.kind hk hc z (λh' T f=>?_)
    obtain⟨oc,L,K⟩:=id z;refine h { s with heap:=h' } ⟨I.ok,I.os,I.bare,⟨λb o e n J t=>?_,λb o e n J t=>?_,I.base.free,λb o e t=>?_,I.base.tups,I.base.frzs,I.base.tbls⟩,⟨m,hn.sameBut f (Ne.symm (cne x c hc)),λj y Z l C e3=>?_⟩,λy Y e=>?_,I.free,I.freeC,λp hp=>?_,g ⟨oc,L,I.freeC x c hc⟩ f,by simpa using I.len⟩ ⟨c,f,.inr hc⟩
    . exact(f.2 b (bA (aT (aL e) (I.ok.cab x c G hc)))).trans (I.base.keep b o e n J t)
    . obtain⟨sl,l⟩:=I.base.slot b o e n J t
      exact⟨sl,(f.2 b (bA (aT (aL e) (I.ok.cab x c G hc)))).trans l⟩
    . obtain⟨o',l⟩:=I.base.there b o e t
      exact⟨o',(f.2 b (bA (aT (aL e) (I.ok.cab x c G hc)))).trans l⟩
    . by_cases F:j=i
      . subst F
        rw[P]at l;cases l
        rw[dC D]at C;cases C;exact⟨u,r,.inr ⟨.inl hk,c,hc,T⟩⟩
      . rw[bI (Ne.symm F)]at C
        obtain⟨u',r',q⟩:=hl j y Z l C e3;refine⟨u',r',?_⟩;rcases q with q|⟨k,Y,e,z'⟩
        . exact .inl q
        . refine .inr ⟨k,Y,e,z'.sameBut f ?_⟩
          rintro rfl
          exact F (nodup_ix hN l (I.ok.inj _ _ _ e hc ▸ P))
    . by_cases S:Y=c
      . subst S;exact⟨_,T⟩
      . obtain⟨w2,z2⟩:=I.cell y Y e
        exact⟨w2,z2.sameBut f S⟩
    . obtain⟨e,n,W,nf,d⟩:=I.pin p hp
      refine⟨(f.2 p.1 ?_).trans e,n,W,nf,d⟩;intro q;rw[q,L]at e;have q':oc=p.2:=Option.some.inj e;exact d U (by rw[<-q'];exact K)
theorem store_ok{M:Model}{A:Around}{E:vL->sH7->Prop}{x:Str}{v:V}{u:vL}{Q:Unit->sH7->Prop}(I:Inv X pQ O H s)(hN:X.N.Nodup)(b:X.N[i]?=some x)(a:Loc X.env.scope x)(r:RelV v u)(h:∀ s',Inv X pQ (O.set i (some v)) H s'->Q () s')(c:X.fn x=true\/X.env.scope.names.lookup x=some .local:=by first|exact .inl rfl|exact .inr rfl|assumption):wpAny M A (storeName X.env x u) Q E s:=
  store_ok2 I hN b a r (λs' d _=>h s' d) c
theorem Inv.call'{ch:Li Ad}(I:Inv X pQ O H s)(f:s'.os=s.os)(u:Un (frs X.stack) ch H H' s.heap s'.heap)(hok:HOk X.prog X.w H' s'.heap)(g:AllBare s'.gens)(a:∀ b∈ch,(b∈X.ex\/X.s₀.heap.objs.size<=b)/\b≠X.env.locals/\(∀ x c,X.env.cells.lookup x=some c->c≠b)/\∀ p∈X.pn++pQ,p.1≠b):Inv X pQ O H' s':=by
  obtain⟨h',g',d',t',d⟩:=s';have e:d=s.os:=f;subst e;exact I.call (g':=g') (t':=t') (d':=d') u hok g a
end
abbrev XK:=vL->Ot Ad->Hp->Prop
abbrev St:=Li (Ot V)
abbrev VK:=V->Hp->Prop
abbrev TE:=St->Hp->VK->Prop
abbrev TT:=St->Hp->(Bool->Hp->Prop)->Prop
abbrev TA:=St->Hp->(Li V->Hp->Prop)->Prop
structure Ends where
  nx:St->Hp->Prop
  rt:VK
  bk:St->Hp->Prop:=λ_ _=>False
  ct:St->Hp->Prop:=λ_ _=>False
abbrev TS:=Ends->St->Hp->Prop
def EP(X:Cx)(b:Li (Ad×Obj))(O:St)(Q:VK)(u:vL)(s':sH7):Prop:=∃ v a,Inv X b O a s'/\RelV v u/\Q v a
def TP(X:Cx)(c:Li (Ad×Obj))(O:St)(Q:Bool->Hp->Prop)(b:Bool)(s':sH7):Prop:=∃ a,Inv X c O a s'/\Q b a
def AP(X:Cx)(c:Li (Ad×Obj))(O:St)(Q:Li V->Hp->Prop)(us:Li vL)(s':sH7):Prop:=∃ a b,Inv X c O b s'/\Vals a us/\Q a b
def SP(X:Cx)(c:Li (Ad×Obj))(D:Ends)(f:Flow)(s':sH7):Prop:=
  match f with
  |.next=>∃ b a,Inv X c b a s'/\D.nx b a
  |.brk=>∃ b a,Inv X c b a s'/\D.bk b a
  |.cont=>∃ b a,Inv X c b a s'/\D.ct b a
  |.ret u=>∃ v b a,Inv X c b a s'/\RelV v u/\D.rt v a
def PE(X:Cx)(e:Expr)(t:TE):Prop:=
  ∀ (pQ:Li (Ad×Obj)) (s:sH7) (O:St) (H:Hp) (Q:VK),Inv X pQ O H s->t O H Q->wpAny (model X.prog X.w) X.A (eval e X.env) (EP X pQ O Q) X.xe s
def PT(X:Cx)(e:Expr)(t:TT):Prop:=
  ∀ (pQ:Li (Ad×Obj)) (s:sH7) (O:St) (H:Hp) (Q:Bool->Hp->Prop),Inv X pQ O H s->t O H Q->wpAny (model X.prog X.w) X.A (isTrue e X.env (eval e X.env)) (TP X pQ O Q) X.xe s
def PW(X:Cx)(e:Expr)(t:TT):Prop:=
  ∀ (whole:Sem vL) (pQ:Li (Ad×Obj)) (s:sH7) (O:St) (H:Hp) (Q:Bool->Hp->Prop),Inv X pQ O H s->t O H Q->wpAny (model X.prog X.w) X.A (isTrue e X.env whole) (TP X pQ O Q) X.xe s
variable{X:Cx}
theorem PW.pt{e:Expr}{t:TT}(h:PW X e t):PT X e t:=h _
def PA(X:Cx)(a:Li Expr)(t:TA):Prop:=
  ∀ (pos:Pos) (pQ:Li (Ad×Obj)) (s:sH7) (O:St) (H:Hp) (Q:Li V->Hp->Prop),Inv X pQ O H s->t O H Q->wpAny (model X.prog X.w) X.A (spliced (backTo pos (starEach a X.env))) (AP X pQ O Q) X.xe s
def PS(X:Cx)(a:Stmt)(t:TS):Prop:=
  ∀ (pQ:Li (Ad×Obj)) (s:sH7) (O:St) (H:Hp) (D:Ends),Inv X pQ O H s->t D O H->wpAny (model X.prog X.w) X.A (exec a X.env) (SP X pQ D) X.xe s
def PSs(X:Cx)(a:Li Stmt)(t:TS):Prop:=
  ∀ (pQ:Li (Ad×Obj)) (s:sH7) (O:St) (H:Hp) (D:Ends),Inv X pQ O H s->t D O H->wpAny (model X.prog X.w) X.A (execs a X.env) (SP X pQ D) X.xe s
variable{M:Model}{A:Around}
theorem thn{b:Type}{t:Sem b}{Q c:b->sH7->Prop}{E:vL->sH7->Prop}{s:sH7}(h:wpAny M A t Q E s)(d:∀ a s,Q a s->c a s):wpAny M A t c E s:=bJ h d λ_ _ x=>x
variable{pQ:Li (Ad×Obj)}{s:sH7}{Q:vL->sH7->Prop}
variable{b:Expr}{ta tb:TE}{pos:Pos}
section
def tVar(i:Nat):TE:=λO H Q=>∃ v,O[i]?=some (some v)/\Q v H
def tC(v:V):TE:=λ_ H Q=>Q v H
theorem pe_var{x:Str}{d:Pos}(hN:X.N[i]?=some x)(j:Vis X.env.scope x)(hd:(x==("__debug__":Str))=false:=by decide)(f:(x==("__classdict__":Str))=false:=by decide):PE X (.Name x d) (tVar i):=by
  intro pQ s O H Q I h;obtain⟨v,e,h⟩:=h;obtain⟨m,k,o⟩:=I.loc;obtain⟨u,r,l⟩:=o i x v hN e j;have b:EP X pQ O Q u s:=⟨v,H,I,r,h⟩;rcases l with⟨hk,n⟩|⟨hk,c,g,a⟩
  . exact wpAny_Name (wpAny_loadName_local I.ok.kind hk k n b) hd
  . rcases hk with hk|hk
    . exact wpAny_Name (wpAny_loadName_cell I.ok.kind hk g a b) hd
    . exact wpAny_Name (wpAny_loadName_free I.ok.kind hk g a b f) hd
theorem pe_int{i j pos}:PE X (.Constant (.int i) j pos) (tC (.int i)):=λ_ _ _ H _ I h=>wpAny_Constant_int ⟨.int i,H,I.tok _,⟨_,rfl⟩,h⟩
theorem pe_bl{b j pos}:PE X (.Constant (.bool b) j pos) (tC (.bl b)):=λ_ _ _ H _ I h=>Constant_bool ⟨.bl b,H,I,rfl,h⟩
theorem pe_non{j pos}:PE X (.Constant .none j pos) (tC .non):=λ_ _ _ H _ I h=>Constant_none ⟨.non,H,I,rfl,h⟩
theorem pe_str{x j pos}:PE X (.Constant (.str x) j pos) (tC (.str x)):=λ_ _ _ H _ I h=>Calls.Constant_str ⟨.str x,H,I.tok _,⟨_,rfl⟩,h⟩
def Gl(X:Cx)(x:Str):Prop:=X.env.kindOf x=some .globalImplicit
theorem ld_glob{E:vL->sH7->Prop}{O:St}{x:Str}{u:vL}{a:Pos}(I:Inv X pQ O H s)(c:Gl X x)(b:X.mg x=some u)(h:Q u s)(hd:(x==("__debug__":Str))=false:=by decide):wpAny (model X.prog X.w) X.A (eval (.Name x a) X.env) Q E s:=
  Calls.Name_function_global I.ok.kind c (Calls.loadGlobal_global (by rw[I.ok.glob];exact I.mod.glob.keeps I.bk) b h) hd
theorem ld_blt{E:vL->sH7->Prop}{O:St}{x:Str}{u:vL}{a:Pos}(I:Inv X pQ O H s)(e:Gl X x)(d:X.mg x=none)(b:bootBuiltins x=some u)(h:Q u s)(c:x ≠ "__name__":=by decide)(hd:(x==("__debug__":Str))=false:=by decide):wpAny (model X.prog X.w) X.A (eval (.Name x a) X.env) Q E s:=by
  obtain⟨i,g,f⟩:=I.mod.blt;exact Calls.Name_function_global I.ok.kind e (Calls.loadGlobal_builtin (by rw[I.ok.glob];exact I.mod.glob.keeps I.bk) d (by rw[I.ok.blt];exact g.keeps I.bk) ((f x c).trans b) h) hd
theorem pe_glob{x:Str}{v:V}{u:vL}{a:Pos}(c:Gl X x)(b:X.mg x=some u)(r:RelV v u)(hd:(x==("__debug__":Str))=false:=by decide):PE X (.Name x a) (tC v):=
  λ_ _ _ H _ I h=>ld_glob I c b ⟨v,H,I,r,h⟩ hd
theorem pe_bltn{x:Str}{v:V}{u:vL}{a:Pos}(e:Gl X x)(d:X.mg x=none)(b:bootBuiltins x=some u)(r:RelV v u)(c:x ≠ "__name__":=by decide)(hd:(x==("__debug__":Str))=false:=by decide):PE X (.Name x a) (tC v):=
  λ_ _ _ H _ I h=>ld_blt I e d b ⟨v,H,I,r,h⟩ c hd
variable{a:Expr}
def PC(X:Cx)(e:CmpOp)(a b:Expr)(t:TE):Prop:=
  ∀ (pQ:Li (Ad×Obj)) (s:sH7) (O:St) (H:Hp) (Q:VK),Inv X pQ O H s->t O H Q->
    wpAny (model X.prog X.w) X.A (eval a X.env) (λv d=>wpAny (model X.prog X.w) X.A (eval b X.env) (λu c=>wpAny (model X.prog X.w) X.A (compareOp e v u) (EP X pQ O Q) X.xe c) X.xe d) X.xe s
def tB(t:TE):TT:=λO H Q=>t O H λx a=>∃ c,x=.bl c/\Q c a
theorem pt_val{e:Expr}{t:TE}(h:PE X e t)(g:∀ a,isTrue e X.env a=(do let v <-a;standAt e.pos;holding [v] (truthy v)):=by intro _;rfl):PT X e (tB t):=by
  intro pQ s O H Q I f;refine isTrue_plain (thn (h pQ s O H _ I f) λv k ⟨x,j,i,b,c⟩=>?_) (g _)
  obtain⟨d,rfl,q⟩:=c;cases b;exact wpAny_truthy_bool ⟨j,i,q⟩
variable{tA tB':TT}{rest:Li Expr}
def tAnd(t u:TT):TT:=λO H Q=>t O H λc a=>if c=true then u O a Q else Q false a
def tOr(t u:TT):TT:=λO H Q=>t O H λc a=>if c=true then Q true a else u O a Q
def tNot(t:TT):TT:=λO H Q=>t O H λc a=>Q (!c) a
theorem pw_and1(b:PT X a tA):PW X (.BoolOp .And [a] pos) tA:=by
  intro d pQ s O H Q I h;refine isTrue_and (thn (b pQ s O H Q I h) λc f e=>?_)
  cases c with
  |true=>exact isTrue_and_nil e
  |false=>exact e
theorem pw_or1(b:PT X a tA):PW X (.BoolOp .Or [a] pos) tA:=by
  intro d pQ s O H Q I h;refine isTrue_or (thn (b pQ s O H Q I h) λc f e=>?_)
  cases c with
  |false=>exact isTrue_or_nil e
  |true=>exact e
theorem pw_and(k:PT X a tA)(j:PW X (.BoolOp .And (b :: rest) pos) tB'):PW X (.BoolOp .And (a :: b :: rest) pos) (tAnd tA tB'):=by
  intro g pQ s O H Q I h;refine isTrue_and (thn (k pQ s O H _ I h) λc i ⟨f,e,d⟩=>?_)
  cases c with
  |true=>exact j g pQ i O f Q e d
  |false=>exact⟨f,e,d⟩
theorem pw_or(k:PT X a tA)(j:PW X (.BoolOp .Or (b :: rest) pos) tB'):PW X (.BoolOp .Or (a :: b :: rest) pos) (tOr tA tB'):=by
  intro g pQ s O H Q I h;refine isTrue_or (thn (k pQ s O H _ I h) λc i ⟨f,e,d⟩=>?_)
  cases c with
  |true=>exact⟨f,e,d⟩
  |false=>exact j g pQ i O f Q e d
theorem pt_not(b:PT X a tA):PT X (.UnaryOp .Not a pos) (tNot tA):=by
  intro pQ s O H Q I h;exact isTrue_not (b pQ s O H (λc d=>Q (!c) d) I h)
def tAndV(ta tb:TE):TE:=λO H Q=>ta O H λx a=>∃ c,x=.bl c/\if c=true then tb O a Q else Q (.bl false) a
def tOrV(ta tb:TE):TE:=λO H Q=>ta O H λx a=>∃ c,x=.bl c/\if c=true then Q (.bl true) a else tb O a Q
def tNotV(ta:TE):TE:=λO H Q=>ta O H λx a=>∃ c,x=.bl c/\Q (.bl (!c)) a
theorem pe_one{op}{t:TE}(h:PE X a t):PE X (.BoolOp op [a] pos) t:=λpQ s O H Q I b=>BoolOp_one (h pQ s O H Q I b)
theorem pe_and(k:PE X a ta)(j:PE X (.BoolOp .And (b :: rest) pos) tb):PE X (.BoolOp .And (a :: b :: rest) pos) (tAndV ta tb):=by
  intro pQ s O H Q I h;refine BoolOp_and (thn (k pQ s O H _ I h) λv g ⟨x,f,e,i,d⟩=>?_)
  obtain⟨c,rfl,d⟩:=d;cases i;refine wpAny_truthy_bool ?_;cases c with
  |true=>exact j pQ g O f Q e d
  |false=>exact⟨.bl false,f,e,rfl,d⟩
theorem pe_or(k:PE X a ta)(j:PE X (.BoolOp .Or (b :: rest) pos) tb):PE X (.BoolOp .Or (a :: b :: rest) pos) (tOrV ta tb):=by
  intro pQ s O H Q I h;refine BoolOp_or (thn (k pQ s O H _ I h) λv g ⟨x,f,e,i,d⟩=>?_)
  obtain⟨c,rfl,d⟩:=d;cases i;refine wpAny_truthy_bool ?_;cases c with
  |false=>exact j pQ g O f Q e d
  |true=>exact⟨.bl true,f,e,rfl,d⟩
theorem pe_not(e:PE X a ta):PE X (.UnaryOp .Not a pos) (tNotV ta):=by
  intro pQ s O H Q I h;refine UnaryOp_ (thn (e pQ s O H _ I h) λv i ⟨x,g,f,d,b⟩=>?_)
  obtain⟨c,rfl,b⟩:=b;cases d;exact not_of (wpAny_truthy_bool ⟨.bl (!c),g,f,rfl,b⟩)
def tIf(t:TT)(ta tb:TE):TE:=λO H Q=>t O H λc a=>if c=true then ta O a Q else tb O a Q
theorem pe_ifExp{c:Expr}(j:PT X c tA)(l:PE X a ta)(k:PE X b tb):PE X (.IfExp c a b pos) (tIf tA ta tb):=by
  intro pQ s O H Q I h;refine wpAny_IfExp (thn (j pQ s O H _ I h) λd e ⟨i,g,f⟩=>?_)
  cases d with
  |true=>exact l pQ e O i Q g f
  |false=>exact k pQ e O i Q g f
end
def SqL(K:fG7)(H:Hp)(a:Ad)(xs:Li V):Prop:=
  Rd H a (.lst xs) \/
    ∃ (o:Obj) (its:Array vL) (n:Nat),K.lookup a=some o/\o.cls=.type "list"/\o.dict=none/\o.data=.seq its n/\its.size<=sizeLine/\Vals xs its.toList
def SqT(K:fG7)(H:Hp)(a:Ad)(xs:Li V):Prop:=
  Rd H a (.tup xs) \/
    ∃ (o:Obj) (its:Array vL) (n:Nat),K.lookup a=some o/\o.cls=.type "tuple"/\o.data=.seq its n/\its.size<=sizeLine/\Vals xs its.toList
noncomputable def absV:vL->Ot V
  |.none=>some .non
  |.bool b=>some (.bl b)
  |.int i _=>some (.int i)
  |.str x _=>some (.str x)
  |.bytes b _=>some (.byt b)
  |.float b _=>some (.flt b)
  |.ref a=>some (.ref a)
  |.type n=>some (.ty n)
  |_=>none
theorem RelV.abs{x:V}{u:vL}(r:RelV x u):absV u=some x:=by
  cases x with
  |non=>cases r;rfl
  |bl _=>cases r;rfl
  |int _=>obtain⟨t,rfl⟩:=r;rfl
  |str _=>obtain⟨t,rfl⟩:=r;rfl
  |byt _=>obtain⟨t,rfl⟩:=r;rfl
  |flt _=>obtain⟨t,rfl⟩:=r;rfl
  |ref _=>cases r;rfl
  |ty _=>cases r;rfl
variable{y:V}
theorem RelV.inj{x:V}{u:vL}(r:RelV x u)(q:RelV y u):x=y:=Option.some.inj (r.abs.symm.trans q.abs)
theorem Vals.inj:∀ {xs ys:Li V}{us:Li vL},Vals xs us->Vals ys us->xs=ys
  |_,_,_,.nil,.nil=>rfl
  |_,_,_,.cons r t,.cons a t'=>by rw[r.inj a,Vals.inj t t']
variable{K:fG7}
variable{O:St}{xs:Li V}
section
variable{ys:Li V}
theorem SqT.of(h:H a=some (.tup xs)):SqT K H a xs:=.inl (.inl h)
theorem Inv.list(I:Inv X pQ O H s)(h:SqL X.K H a xs):∃ its:Li vL,Vals xs its/\PlainL s.heap a its.toArray/\xs.length<=sizeLine:=by
  rcases h with h|⟨o,its,n,c,f,d,b,g,r⟩
  . obtain⟨z,its,n,r,e⟩:=h.ok I.hok
    exact⟨its,r,⟨_,n,e,rfl,rfl,rfl⟩,z⟩
  . refine⟨its.toList,r,⟨o,n,I.kIn a o c,f,d,by simpa using b⟩,?_⟩
    have e:=r.length;simp only[cF]at e;omega
theorem Inv.tuple(I:Inv X pQ O H s)(h:SqT X.K H a xs):∃ its:Li vL,Vals xs its/\IsTup s.heap a its.toArray/\xs.length<=sizeLine:=by
  rcases h with h|⟨o,its,n,c,d,b,f,r⟩
  . obtain⟨z,its,r,p⟩:=h.ok I.hok
    exact⟨its,r,p,z⟩
  . refine⟨its.toList,r,⟨o,I.kIn a o c,d,n,by simpa using b⟩,?_⟩
    have e:=r.length;simp only[cF]at e;omega
theorem Inv.list_inj(I:Inv X pQ O H s)(h:SqL X.K H a xs)(g:SqL X.K H a ys):xs=ys:=by
  obtain⟨its,r,⟨o,n,e,_,_,d⟩,_⟩:=I.list h;obtain⟨b,f,⟨j,k,c,_,_,d'⟩,_⟩:=I.list g;rw[e]at c;cases c
  rw[d]at d'
  injection d' with i _
  have:its=b:=by simpa using congrArg Array.toList i
  subst this;exact r.inj f
theorem Inv.tuple_inj(I:Inv X pQ O H s)(h:SqT X.K H a xs)(g:SqT X.K H a ys):xs=ys:=by
  obtain⟨its,r,⟨o,e,_,n,d⟩,_⟩:=I.tuple h;obtain⟨b,f,⟨j,c,_,k,d'⟩,_⟩:=I.tuple g;rw[e]at c;cases c
  rw[d]at d'
  injection d' with i _
  have:its=b:=by simpa using congrArg Array.toList i
  subst this;exact r.inj f
end
noncomputable abbrev Cx.wish(X:Cx)(E:vL->sH7->Prop):Cx:={ X with xe:=E }
noncomputable abbrev Cx.nox(X:Cx):Cx:=X.wish λ_ _=>False
theorem Cx.Ok.wish(ok:X.Ok)(E:vL->sH7->Prop):(X.wish E).Ok:=
  ⟨ok.mod,ok.kind,ok.glob,ok.blt,ok.above,ok.inj,ok.has,ok.cab,ok.hd,ok.frames,ok.stk,ok.exf,ok.bs,ok.bsz,ok.noex,ok.exfs,ok.funs,ok.frf⟩
theorem Cx.Ok.unwish{E:vL->sH7->Prop}(ok:(X.wish E).Ok):X.Ok:=
  ⟨ok.mod,ok.kind,ok.glob,ok.blt,ok.above,ok.inj,ok.has,ok.cab,ok.hd,ok.frames,ok.stk,ok.exf,ok.bs,ok.bsz,ok.noex,ok.exfs,ok.funs,ok.frf⟩
variable{E:vL->sH7->Prop}
theorem Inv.wish(I:Inv X pQ O H s)(E:vL->sH7->Prop):Inv (X.wish E) pQ O H s:=⟨I.ok.wish E,I.os,I.bare,I.base,I.loc,I.cell,I.free,I.freeC,I.pin,I.hok,I.len⟩
theorem Inv.unwish(I:Inv (X.wish E) pQ O H s):Inv X pQ O H s:=⟨I.ok.unwish,I.os,I.bare,I.base,I.loc,I.cell,I.free,I.freeC,I.pin,I.hok,I.len⟩
theorem SP.unwish{D:Ends}{f:Flow}(h:SP (X.wish E) pQ D f s'):SP X pQ D f s':=by
  cases f with
  |next=>obtain⟨a,b,I,q⟩:=h;exact⟨a,b,I.unwish,q⟩
  |brk=>obtain⟨a,b,I,q⟩:=h;exact⟨a,b,I.unwish,q⟩
  |cont=>obtain⟨a,b,I,q⟩:=h;exact⟨a,b,I.unwish,q⟩
  |ret u=>obtain⟨v,a,b,I,r,q⟩:=h;exact⟨v,a,b,I.unwish,r,q⟩
theorem PSs.nox{a:Li Stmt}{t:TS}(h:PSs X.nox a t):PSs X a t:=λpQ s O H D I b=>
  bJ (h pQ s O H D (I.wish _) b) (λ_ _ q=>q.unwish) λ_ _ z=>False.elim z
variable{e:Expr}{te:TE}
section
variable{st:Stmt}{rest:Li Stmt}{t u:TS}
def tNext:TS:=λD O H=>D.nx O H
def tSeq(t u:TS):TS:=λD O H=>t { D with nx:=u D } O H
theorem pss_nil:PSs X [] tNext:=λ_ _ O H _ I h=>wpAny_execs_nil ⟨O,H,I,h⟩
theorem pss_cons(c:PS X st t)(b:PSs X rest u):PSs X (st :: rest) (tSeq t u):=by
  intro pQ s O H D I h;refine wpAny_execs_cons (thn (c pQ s O H { D with nx:=u D } I h) λf a q=>?_)
  cases f with
  |next=>
    obtain⟨d,g,e,q⟩:=q;exact b pQ a d g D e q
  |ret v=>exact q
  |brk=>exact q
  |cont=>exact q
def tBreak:TS:=λD O H=>D.bk O H
def tCont:TS:=λD O H=>D.ct O H
theorem ps_pass:PS X (.Pass pos) tNext:=λ_ _ O H _ I h=>wpAny_Pass ⟨O,H,I,h⟩
theorem ps_break:PS X (.Break pos) tBreak:=λ_ _ O H _ I h=>wpAny_Break ⟨O,H,I,h⟩
theorem ps_continue:PS X (.Continue pos) tCont:=λ_ _ O H _ I h=>wpAny_Continue ⟨O,H,I,h⟩
theorem Inv.quiet{O:St}(I:Inv X pQ O H s):interactive X.env=false:=by simp[interactive,I.ok.kind]
def tDrop(te:TE):TS:=λD O H=>te O H λ_ a=>D.nx O a
theorem ps_expr(c:PE X e te)(b:swapsWith e none pos.line X.env=pure false:=by rfl):PS X (.Expr e pos) (tDrop te):=by
  intro pQ s O H D I h;exact wpAny_Expr_any (thn (c pQ s O H _ I h) λv g ⟨x,f,d,i,a⟩=>⟨O,f,d,a⟩) I.quiet b
def tRet(te:TE):TS:=λD O H=>te O H D.rt
theorem ps_ret(c:PE X e te):PS X (.Return (some e) pos) (tRet te):=by
  intro pQ s O H D I h;exact wpAny_Return_some (thn (c pQ s O H _ I h) λv g ⟨x,f,d,a,b⟩=>⟨x,O,f,d,a,b⟩)
def tIfS(c:TT)(t u:TS):TS:=λD O H=>c O H λb a=>if b=true then t D O a else u D O a
theorem ps_if{c:Expr}{a b:Li Stmt}{e:TT}(k:PT X c e)(m:PSs X a t)(l:PSs X b u):PS X (.If c a b pos) (tIfS e t u):=by
  intro pQ s O H D I h;refine wpAny_If (thn (k pQ s O H _ I h) λd f ⟨j,i,g⟩=>?_)
  cases d with
  |true=>exact m pQ f O j D i g
  |false=>exact l pQ f O j D i g
end
abbrev TG:=V->St->Hp->(St->Hp->Prop)->Prop
abbrev TGs:=Li V->St->Hp->(St->Hp->Prop)->Prop
def PG(X:Cx)(a:Expr)(t:TG):Prop:=
  ∀ (pQ:Li (Ad×Obj)) (s:sH7) (O:St) (H:Hp) (v:V) (u:vL) (Q:St->Hp->Prop),Inv X pQ O H s->RelV v u->t v O H Q->
    wpAny (model X.prog X.w) X.A (assign a X.env u) (λ_ s'=>∃ b c,Inv X pQ b c s'/\Q b c) X.xe s
def PGs(X:Cx)(c:Li Expr)(t:TGs):Prop:=
  ∀ (pQ:Li (Ad×Obj)) (s:sH7) (O:St) (H:Hp) (vs:Li V) (us:Li vL) (Q:St->Hp->Prop),Inv X pQ O H s->Vals vs us->t vs O H Q->
    wpAny (model X.prog X.w) X.A (assignInOrder ((assignEach c X.env).map (·.2)) us) (λ_ s'=>∃ a b,Inv X pQ a b s'/\Q a b) X.xe s
abbrev TSet:=V->V->V->Hp->(Hp->Prop)->Prop
def PSet(X:Cx)(t:TSet):Prop:=
  ∀ (pQ:Li (Ad×Obj)) (s:sH7) (O:St) (H:Hp) (o i v:V) (ov iv u:vL) (Q:Hp->Prop),Inv X pQ O H s->RelV o ov->RelV i iv->RelV v u->t o i v H Q->
    wpAny (model X.prog X.w) X.A (setItem ov iv u) (λ_ s'=>∃ a,Inv X pQ O a s'/\Q a) X.xe s
variable{es:Li Expr}{n:Nat}{tg:Expr}
def gName(i:Nat):TG:=λv O H Q=>Q (O.set i (some v)) H
theorem pg_name{x:Str}(hN:X.N.Nodup)(b:X.N[i]?=some x)(a:Loc X.env.scope x)(c:X.fn x=true\/X.env.scope.names.lookup x=some .local:=by first|exact .inl rfl|exact .inr rfl|assumption):PG X (.Name x pos) (gName i):=by
  intro pQ s O H v u Q I r h;exact wpAny_assign_Name (store_ok I hN b a r (λs' d=>⟨_,H,d,h⟩) c)
def gNil:TGs:=λa O H Q=>a=[]/\Q O H
def gCons(t:TG)(u:TGs):TGs:=λa O H Q=>∃ v r,a=v :: r/\t v O H λb c=>u r b c Q
theorem pgs_nil:PGs X [] gNil:=by
  intro pQ s O H a us Q I r h;obtain⟨e,h⟩:=h;subst e;cases r;exact assignInOrder_nil ⟨O,H,I,h⟩
theorem pgs_cons{e:Expr}{t:TG}{u:TGs}(i:PG X e t)(g:PGs X es u)(f:(assignEach (e :: es) X.env).map (·.2)=assign e X.env :: (assignEach es X.env).map (·.2):=by rfl):PGs X (e :: es) (gCons t u):=by
  intro pQ s O H m us Q I r h;obtain⟨v,n,j,h⟩:=h;subst j;cases r with
  |cons r c=>
    rw[f];refine assignInOrder_cons (thn (i pQ s O H _ _ _ I r h) λ_ b ⟨a,l,k,d⟩=>?_)
    exact g pQ b a l _ _ Q k c d
def gTup(K:fG7)(n:Nat)(t:TGs):TG:=λv O H Q=>∃ a xs,v=.ref a/\SqT K H a xs/\xs.length=n/\t xs O H Q
theorem pg_tup{k:Nat}{t:TGs}(p:X.calm=true)(h:PGs X es t)(l:(assignEach es X.env).length=n:=by rfl)(d:(assignEach es X.env).findIdx? (·.1)=none:=by rfl):PG X (.Tuple es k pos) (gTup X.K n t):=by
  intro pQ s O H v u Q I r c;obtain⟨a,xs,w,j,m,c⟩:=c;subst w;cases r;obtain⟨its,f,i,y⟩:=I.tuple j;refine assign_Tuple_tuple (I.ok.hd p) i (by simp[l,<-m,f.length]) d λq g=>?_
  have x:Inv X pQ O H { s with heap:=q }:=I.kept (t':=s.toks) λb o e=>g b o (bA (aL e)) e
  exact h pQ _ O H xs _ Q x (by simpa using f) c
def gSub(a b:TE)(t:TSet):TG:=λv O H Q=>a O H λo e=>b O e λi d=>t o i v d λc=>Q O c
theorem pg_sub{o i:Expr}{c d:TE}{t:TSet}(p:PE X o c)(q:PE X i d)(n:PSet X t)(w:∀ v,assign (.Subscript o i pos) X.env v=(do
      let a <-holding [v] (eval o X.env)
      let b <-holding [v,a] (eval i X.env)
      standAt pos
      holding [v,a,b] (setItem a b v)
      release [v,a,b] []):=by intro _;rfl):PG X (.Subscript o i pos) (gSub c d t):=by
  intro pQ s O H v u Q I r h;rw[w];refine aA (wpAny_holding (thn (p pQ s O H _ I h) λa f ⟨x,E,B,j,m⟩=>?_))
  refine aA (wpAny_holding (thn (q pQ f O E _ B m) λb e ⟨y,D,A,g,l⟩=>?_))
  refine aA (wpAny_standAt (aA (wpAny_holding (thn (n pQ e O D x y v a b u _ A j g r l) λ_ F ⟨C,z,k⟩=>?_))))
  exact wpAny_release ⟨O,C,z,k⟩
def tAsg(te:TE)(g:TG):TS:=λD O H=>te O H λx a=>g x O a D.nx
theorem ps_asg{e:Expr}{te:TE}{g:TG}(j:PE X e te)(i:PG X tg g)(f:swapsWithSole [tg] e pos.line X.env=pure false:=by rfl)(d:swappedStores [tg] e X.env=pure none:=by rfl)(k:(assignEach [tg] X.env).map (·.2)=[assign tg X.env]:=by rfl):PS X (.Assign [tg] e pos) (tAsg te g):=by
  intro pQ s O H D I h;refine wpAny_Assign_stores (thn (j pQ s O H _ I h) λv a ⟨x,m,l,b,c⟩=>?_) f d
  rw[k];exact thn (i pQ a O m x v _ l b c) λ_ n q=>q
theorem ps_set{x:Str}{e:Expr}{te:TE}{a:Pos}(hN:X.N.Nodup)(g:X.N[i]?=some x)(d:Loc X.env.scope x)(k:PE X e te)(f:swapsWith e (some (.Name x a)) pos.line X.env=pure false:=by rfl)(j:X.fn x=true\/X.env.scope.names.lookup x=some .local:=by first|exact .inl rfl|exact .inr rfl|assumption) :
    PS X (.Assign [.Name x a] e pos) (tAsg te (gName i)):=by
  intro pQ s O H D I h;refine wpAny_Assign_Name (thn (k pQ s O H _ I h) λv p ⟨y,n,m,b,c⟩=>?_) f
  exact store_ok m hN g d b (λo l=>⟨_,n,l,c⟩) j
variable{body:Li Stmt}
def tWhile(c:TT)(g:TS):TS:=λD O H=>∃ W:Nat->St->Hp->Prop,(∃ m,W m O H)/\∀ m O H,W m O H->
  c O H λb e=>if b=true then ∃ N:St->Hp->Prop,(∀ d f,N d f->∃ a,a < m/\W a d f)/\g { D with nx:=N,ct:=N,bk:=D.nx } O e else D.nx O e
theorem ps_while{c:Expr}{p:TT}{q:TS}(r:PassesOwn (model X.prog X.w) X.A X.env X.xe)(K:PT X c p)(L:PSs X body q):PS X (.While c body [] pos) (tWhile p q):=by
  intro pQ s O H D I h;obtain⟨W,⟨J,E⟩,turn⟩:=h;refine wpAny_While (codeAny_whileLoop (λn s'=>∃ u B,Inv X pQ u B s'/\W n u B) ?_ J ⟨O,H,I,E⟩)
  rintro n G ⟨d,z,M,C⟩
  refine wpAny_passesOwn r (thn (K pQ G d z _ M (turn n d z C)) λb F ⟨y,x,i⟩=>?_)
  cases b with
  |true=>
    obtain⟨N,t,i⟩:=i;rw[if_pos rfl];refine wpAny_passesOwn r (thn (L pQ F d y _ x i) λf P g=>?_)
    cases f with
    |next=>
      obtain⟨a,e,o,k⟩:=g;obtain⟨l,m,j⟩:=t a e k;exact⟨l,m,a,e,o,j⟩
    |cont=>
      obtain⟨a,e,o,k⟩:=g;obtain⟨l,m,j⟩:=t a e k;exact⟨l,m,a,e,o,j⟩
    |brk=>exact g
    |ret v=>exact g
  |false=>
    rw[if_neg bF7];exact wpAny_execs_nil ⟨d,y,x,i⟩
structure It where
  go:Nat->Hp->Prop
  yld:Nat->Hp->V->Hp->Prop
  stop:Nat->Hp->Prop
def FpOk(X:Cx)(pQ:Li (Ad×Obj))(H:Hp)(b:Ad):Prop:=
  H b=none/\b≠X.env.locals/\b∉X.fs/\(b∈X.ex\/X.s₀.heap.objs.size<=b)/\(∀ x c,X.env.cells.lookup x=some c->c≠b)/\∀ p∈X.pn++pQ,p.1≠b
theorem Inv.fpOk{O:St}{d:Hp}{b:Ad}(I:Inv X pQ O H s)(a:s.heap.objs.size<=b)(g:d b=none):FpOk X pQ d b:=by
  refine⟨g,dD (aT I.lt a),I.nofs a,.inr (aK I.sz a),λx c e z=>?_,λp f z=>?_⟩
  . obtain⟨v,q⟩:=I.cell x c e
    exact absurd (aT q.lt (by rw[z];exact a)) (bZ _)
  . exact absurd (aT (aL (I.pin p f).1) (by rw[z];exact a)) (bZ _)
structure Turn(P:Program)(w:World)(K:fG7)(tg:Expr)(J:It)(fp:List Addr)(it:Addr)(tn:Nat->Heap->Prop):Prop where
  mem:it∈fp
  obj:∀ i h,tn i h->∀ b∈fp,∃ o,h.get? b=some o/\∀ v,o.data≠.cell v
  keep:∀ i h h',tn i h->(∀ b∈fp,∀ o,h.get? b=some o->h'.get? b=some o)->tn i h'
  item:∀ (X:Cx),X.prog=P->X.w=w->X.K=K->X.calm=true->∀ (i:Nat) (pQ:List (Addr×Obj)) (s:Shared) (O:St) (H:Hp) (E:Value->Shared->Prop),Inv X pQ O H s->(∀ b∈fp,FpOk X pQ H b)->tn i s.heap->J.go i H->
    wpAny (model P w) X.A (pyNext (.ref it)) (λr s1=>∃ u,r=some u /\
      wpAny (model P w) X.A (letOwnedTupleGo tg (.ref it) u) (λ_ s2=>∃ x H',Inv X pQ O H' s2/\RelV x u/\J.yld i H x H'/\tn (i+1) s2.heap/\∀ b∈fp,H' b=none) E s1) E s
  done:∀ (X:Cx),X.prog=P->X.w=w->X.K=K->X.calm=true->∀ (i:Nat) (pQ:List (Addr×Obj)) (s:Shared) (O:St) (H:Hp) (E:Value->Shared->Prop),Inv X pQ O H s->(∀ b∈fp,FpOk X pQ H b)->tn i s.heap->J.stop i H->
    wpAny (model P w) X.A (pyNext (.ref it)) (λr s1=>r=none/\Inv X pQ O H s1) E s
  self:∀ (A:Around) (i:Nat) (s:Shared) (Q:Value->Shared->Prop) (E:Value->Shared->Prop),tn i s.heap->Q (.ref it) s->wpAny (model P w) A (pyIter (.ref it)) Q E s
abbrev TI:=St->Hp->(It->Hp->Prop)->Prop
def PIE(X:Cx)(pQ:Li (Ad×Obj))(O:St)(tg:Expr)(R:It->Hp->Prop)(a:vL)(c:sH7):Prop:=
  ∃ (it:Ad) (fp:Li Ad) (tn:Nat->Heap->Prop) (J:It) (H':Hp),a=.ref it/\Inv X pQ O H' c/\Turn X.prog X.w X.K tg J fp it tn/\tn 0 c.heap/\(∀ b∈fp,FpOk X pQ H' b)/\R J H'
def PI(X:Cx)(tg iter:Expr)(a:TI):Prop:=
  ∀ (pQ:Li (Ad×Obj)) (s:sH7) (O:St) (H:Hp) (R:It->Hp->Prop),Inv X pQ O H s->a O H R->
    wpAny (model X.prog X.w) X.A (eval iter X.env) (λv b=>wpAny (model X.prog X.w) X.A (pyIter v) (PIE X pQ O tg R) X.xe b) X.xe s
theorem go_of{E:vL->sH7->Prop}{c:Ad}{u:vL}{o:Obj}{n:String}{b:Array vL}{Q:Unit->sH7->Prop}(d:s.heap.get? c=some o)(f:o.cls=.type n)(hd:o.data=.fields b)(e:["enumerate", "zip", "dict_itemiterator", "dict_reverseitemiterator", "odict_iterator", "itertools.zip_longest", "itertools.pairwise"].contains n=false)(a:Q () s):wpAny M A (letOwnedTupleGo tg (.ref c) u) Q E s:=by
  unfold letOwnedTupleGo;cases tg<;>first
    |exact aB a
    | (cases u<;>first
        |exact aB a
        | (refine aA (wpAny_load d ?_)
           rw[f,hd];show wpAny M A (if (["enumerate", "zip", "dict_itemiterator", "dict_reverseitemiterator", "odict_iterator", "itertools.zip_longest", "itertools.pairwise"].contains n&&b[0]?==some (rawInt _))=true then _ else _) Q E s
           rw[if_neg (by intro h;rw[e,dE]at h;cases h)]
           exact aB a))
noncomputable def Itl(K:fG7)(a:Ad):It:=
  ⟨λi H=>∃ xs x,SqL K H a xs/\xs[i]?=some x,λi H x b=>b=H/\∀ xs,SqL K H a xs->xs[i]?=some x,λi H=>∃ xs,SqL K H a xs/\xs.length<=i⟩
noncomputable def Itt(K:fG7)(a:Ad):It:=
  ⟨λi H=>∃ xs x,SqT K H a xs/\xs[i]?=some x,λi H x b=>b=H/\∀ xs,SqT K H a xs->xs[i]?=some x,λi H=>∃ xs,SqT K H a xs/\xs.length<=i⟩
noncomputable def Itr(a:Int)(n:Nat):It:=⟨λi _=>i < n,λi H x b=>b=H/\x=.int (a+i),λi _=>n<=i⟩
theorem turn_list{P:Program}(a g:Ad):Turn P w K tg (Itl K a) [g] g (λi h=>h.IsListIter g a i) where
  mem:=by simp
  obj:=λi h f b j=>by
    have e:b=g:=by simpa using j
    subst e;obtain⟨o,e,c,d⟩:=f;exact⟨o,e,λv z=>by rw[d]at z;cases z⟩
  keep:=λi h q f k=>f.at λo e=>k g (by simp) o e
  item:=by
    intro X B y C M i pQ s O H E I n f A;subst B y C;obtain⟨xs,x,m,t⟩:=A;obtain⟨its,r,p,R⟩:=I.list m;obtain⟨u,T,Q⟩:=r.get t;obtain⟨L,J,U,G,F,D⟩:=n g (by simp)
    refine wpAny_pyNext_list_item f p.isList (x:=u) (by simpa using T) λq l N=>?_
    have W:Inv X pQ O H { s with heap:=q }:=I.turned (t':=s.toks) (λb o j e=>(N.2 b j).trans e) L J G F D
    obtain⟨o,e,c,d⟩:=id l;exact⟨u,rfl,go_of (s:={ s with heap:=q }) e c d (by decide) ⟨x,H,W,Q,⟨rfl,λY S=>by rw[I.list_inj S m];exact t⟩,l,λb j=>(n b j).1⟩⟩
  done:=by
    intro X B y C M i pQ s O H E I n f A;subst B y C;obtain⟨xs,m,t⟩:=A;obtain⟨its,r,p,R⟩:=I.list m;obtain⟨L,J,U,G,F,D⟩:=n g (by simp)
    have Z:=r.length;exact wpAny_pyNext_list_end (I.ok.hd M) f p.isList (by simp;omega) λq V=>⟨rfl,I.turned (t':=s.toks) (λb o j e=>V b o j e) L J G F D⟩
  self:=λ_ _ _ _ _ f h=>wpAny_pyIter_listiter f h
theorem turn_tuple{P:Program}(a g:Ad):Turn P w K tg (Itt K a) [g] g (λi h=>h.IsTupleIter g a i) where
  mem:=by simp
  obj:=λi h f b j=>by
    have e:b=g:=by simpa using j
    subst e;obtain⟨o,e,c,d⟩:=f;exact⟨o,e,λv z=>by rw[d]at z;cases z⟩
  keep:=λi h q f k=>f.at λo e=>k g (by simp) o e
  item:=by
    intro X B y C M i pQ s O H E I n f A;subst B y C;obtain⟨xs,x,m,t⟩:=A;obtain⟨its,r,p,R⟩:=I.tuple m;obtain⟨u,T,Q⟩:=r.get t;obtain⟨L,J,U,G,F,D⟩:=n g (by simp)
    refine wpAny_pyNext_tuple_item f (show s.heap.IsTuple a its.toArray from p) (x:=u) (by simpa using T) λq l N=>?_
    have W:Inv X pQ O H { s with heap:=q }:=I.turned (t':=s.toks) (λb o j e=>(N.2 b j).trans e) L J G F D
    obtain⟨o,e,c,d⟩:=id l;exact⟨u,rfl,go_of (s:={ s with heap:=q }) e c d (by decide) ⟨x,H,W,Q,⟨rfl,λY S=>by rw[I.tuple_inj S m];exact t⟩,l,λb j=>(n b j).1⟩⟩
  done:=by
    intro X B y C M i pQ s O H E I n f A;subst B y C;obtain⟨xs,m,t⟩:=A;obtain⟨its,r,p,R⟩:=I.tuple m;obtain⟨L,J,U,G,F,D⟩:=n g (by simp)
    have Z:=r.length;exact wpAny_pyNext_tuple_end (I.ok.hd M) f (show s.heap.IsTuple a its.toArray from p) (by simp;omega) λq V=>⟨rfl,I.turned (t':=s.toks) (λb o j e=>V b o j e) L J G F D⟩
  self:=λ_ _ _ _ _ f h=>wpAny_pyIter_tupleiter f h
theorem turn_range{P:Program}(c:Ad)(g:Int)(n:Nat):Turn P w K tg (Itr g n) [c] c (λi h=>IsRangeIter h c (g+(i:Nat) * 1) ((n:Int) - (i:Nat)) 1) where
  mem:=by simp
  obj:=λi h a b d=>by
    have e:b=c:=by simpa using d
    subst e;exact⟨_,a,λv z=>by
      have F:Data.fields _=Data.cell v:=z;cases F⟩
  keep:=λi h l a k=>k c (by simp) _ a
  item:=by
    intro X r m u q i pQ s O H E I j a p;subst r m u;obtain⟨C,B,L,A,y,x⟩:=j c (by simp)
    have W:=Walks.range (prog:=X.prog) (w:=X.w) (I.ok.hd q) c g 1 n;refine W.item i s _ _ p a λv l D J f G=>?_
    obtain⟨t,rfl⟩:=J;have N:Inv X pQ O H { s with heap:=l,toks:=D }:=I.turned (λb o d e=>G b o (by simpa using d) e) C B A y x
    refine⟨_,rfl,go_of (s:={ s with heap:=l,toks:=D }) (n := "range_iterator") f rfl rfl (by decide) ⟨.int (g+i),H,N,⟨t,?_⟩,⟨rfl,rfl⟩,f,λb d=>(j b d).1⟩⟩
    rw[Int.mul_one]
  done:=by
    intro X r m u q i pQ s O H E I j a p;subst r m u;obtain⟨C,B,L,A,y,x⟩:=j c (by simp)
    exact wpAny_pyNext_range_end (I.ok.hd q) a (by have:n<=i:=p;omega) λl M=>⟨rfl,I.turned (t':=s.toks) (λb o d e=>M b o d e) C B A y x⟩
  self:=λ_ _ _ _ _ a h=>wpAny_pyIter_rangeiter a h
variable{l:Expr}{lo:Int}{fp:Li Ad}
variable{tg:Expr}
def iList(K:fG7)(tl:TE):TI:=λO H R=>tl O H λx b=>∃ a,x=.ref a/\(∃ xs,SqL K b a xs)/\R (Itl K a) b
def iTup(K:fG7)(tl:TE):TI:=λO H R=>tl O H λx b=>∃ a,x=.ref a/\(∃ xs,SqT K b a xs)/\R (Itt K a) b
theorem pi_list{tl:TE}(hl:PE X l tl):PI X tg l (iList X.K tl):=by
  intro pQ s O H R I h;refine thn (hl pQ s O H _ I h) λv c ⟨x,k,d,f,g⟩=>?_
  obtain⟨a,e,⟨xs,i⟩,q⟩:=g;subst e;cases f;obtain⟨its,m,p,n⟩:=d.list i;refine wpAny_pyIter_list p.isList ?_;refine⟨c.heap.objs.size,[c.heap.objs.size],_,_,k,rfl,d.kept (t':=c.toks) λb o e=>aQ _ e,turn_list a _,⟨_,aW _ rfl,rfl,rfl⟩,λb j=>?_,q⟩
  have e:b=c.heap.objs.size:=by simpa using j
  subst e;exact d.fpOk (aF _) (d.hok.fresh (aF _))
theorem pi_tup{tl:TE}(hl:PE X l tl):PI X tg l (iTup X.K tl):=by
  intro pQ s O H R I h;refine thn (hl pQ s O H _ I h) λv c ⟨x,k,d,f,g⟩=>?_
  obtain⟨a,e,⟨xs,i⟩,q⟩:=g;subst e;cases f;obtain⟨its,m,p,n⟩:=d.tuple i;refine wpAny_pyIter_tuple (show c.heap.IsTuple a its.toArray from p) ?_;refine⟨c.heap.objs.size,[c.heap.objs.size],_,_,k,rfl,d.kept (t':=c.toks) λb o e=>aQ _ e,turn_tuple a _,⟨_,aW _ rfl,rfl,rfl⟩,λb j=>?_,q⟩
  have e:b=c.heap.objs.size:=by simpa using j
  subst e;exact d.fpOk (aF _) (d.hok.fresh (aF _))
theorem range_it{O:St}{R:It->Hp->Prop}{E:vL->sH7->Prop}{a:Int}{t u v:Tok}{c:Nat}(I:Inv X pQ O H s)(j:-(2 ^ 62)<=lo)(i:lo < 2 ^ 62)(h:-(2 ^ 62)<=a)(g:a < 2 ^ 62)(q:R (Itr lo (a - lo).toNat) H):wpAny (model X.prog X.w) X.A (pyIter (.ref s.heap.objs.size)) (PIE X pQ O tg R) E { s with heap:=s.heap.push { cls:=.type "range",data:=.fields #[.int lo t,.int a u,.int 1 v] },toks:=c }:=by
  refine wpAny_pyIter_range (IsRange.new ..) (small_one j i h g) ?_;have d:Inv X pQ O H { s with heap:=s.heap.push { cls:=.type "range",data:=.fields #[.int lo t,.int a u,.int 1 v] },toks:=c }:=I.kept λb o e=>aQ _ e
  refine⟨(s.heap.push { cls:=.type "range",data:=.fields #[.int lo t,.int a u,.int 1 v] }).objs.size,[(s.heap.push { cls:=.type "range",data:=.fields #[.int lo t,.int a u,.int 1 v] }).objs.size],_,_,H,rfl,
    d.kept (t':=c) λb o e=>aQ _ e,turn_range _ lo (a - lo).toNat,?_,λb f=>?_,q⟩
  . have l:lo+((0:Nat):Int) * 1=lo:=by simp
    have k:(((a - lo).toNat:Nat):Int) - ((0:Nat):Int)=Builtin.Range.rangeSize lo a 1:=by rw[rangeSize_one];split<;>omega
    show IsRangeIter _ _ (lo+((0:Nat):Int) * 1) ((((a - lo).toNat:Nat):Int) - ((0:Nat):Int)) 1;rw[l,k];exact aW _ rfl
  . have e:b=(s.heap.push { cls:=.type "range",data:=.fields #[.int lo t,.int a u,.int 1 v] }).objs.size:=by simpa using f
    subst e;exact d.fpOk (aF _) (d.hok.fresh (aF _))
def iRng1(b:TA):TI:=λO H R=>b O H λa c=>∃ j:Int,a=[.int j]/\-(2 ^ 62)<=j/\j < 2 ^ 62/\R (Itr 0 j.toNat) c
theorem pi_range1{a:Expr}{d:TA}{p b:Pos}(m:Gl X "range")(l:X.mg "range"=none)(n:PA X [a] d)(k:starEach [a] X.env=[(false,eval a X.env)]:=by rfl):PI X tg (.Call (.Name "range" p) [a] [] b) (iRng1 d):=by
  intro pQ s O H R I h;refine Call_ (ld_blt I m l boot_range (PyProof.Rows.callWith_type1 (thn (n b pQ s O H _ I h) λus v ⟨u,w,o,g,c⟩=>?_) k rfl))
  obtain⟨j,e,c,i,q⟩:=c;subst e;cases g with
  |cons r f=>
    cases f;obtain⟨t,rfl⟩:=r;exact call_range_1 (range_it o (by omega) (by omega) c i (by simpa using q))
def tFor(e:TI)(g:TG)(f:TS):TS:=λD O H=>e O H λJ j=>∃ W:Nat->Nat->St->Hp->Prop,(∃ m,W 0 m O j)/\∀ i m O H,W i m O H->
  (J.stop i H/\D.nx O H)\/(J.go i H/\∃ N:St->Hp->Prop,(∀ d a,N d a->∃ c,c < m/\W (i+1) c d a)/\∀ x a,J.yld i H x a->g x O a λb h=>f { D with nx:=N,ct:=N,bk:=D.nx } b h)
noncomputable def pinsAt(fp:Li Ad)(h:Heap):Li (Ad×Obj):=fp.filterMap λb=>(h.get? b).map λo=>(b,o)
theorem mem_pinsAt{b:Ad}{o:Obj}(a:b∈fp)(e:h.get? b=some o):(b,o)∈pinsAt fp h:=List.mem_filterMap.mpr ⟨b,a,by rw[e];rfl⟩
theorem of_pinsAt{p:Ad×Obj}(a:p∈pinsAt fp h):p.1∈fp/\h.get? p.1=some p.2:=by
  obtain⟨b,c,e⟩:=List.mem_filterMap.mp a;cases q:h.get? b with
  |none=>rw[q]at e;cases e
  |some o=>
    rw[q]at e;have d:(b,o)=p:=Option.some.inj e;subst d;exact⟨c,q⟩
theorem Inv.pinned{O:St}{fp:Li Ad}(I:Inv X pQ O H s)(h:∀ b∈fp,FpOk X pQ H b)(g:∀ b∈fp,∃ o,s.heap.get? b=some o/\∀ v,o.data≠.cell v):Inv X (pQ++pinsAt fp s.heap) O H s:=
  I.pins_of λp f=>(bE.mp f).elim (λz=>I.pin p (cG _ z)) λz=>by
    obtain⟨a,e⟩:=of_pinsAt z;obtain⟨k,j,i,_⟩:=h p.1 a;obtain⟨o,c,d⟩:=g p.1 a;rw[e]at c;cases c
    exact⟨e,k,j,i,d⟩
theorem Inv.unpinned{a:Li (Ad×Obj)}{O:St}(I:Inv X (pQ++a) O H s):Inv X pQ O H s:=I.pins_of λp b=>I.pin p (cG _ (List.mem_append_left _ b))
theorem ps_for{iter:Expr}{V:TI}{g:TG}{Z:TS}{Q:Pos}(E:PassesOwn (model X.prog X.w) X.A X.env X.xe)(hc:X.calm=true)(hi:PI X tg iter V)(hg:PG X tg g)(k:PSs X body Z)(hs:∀ x,foldedSetIterable iter X.env x=pure x:=by intro _;rfl):PS X (.For tg iter body [] Q) (tFor V g Z):=by
  intro pQ s O H D I h;refine wpAny_For (thn (hi pQ s O H _ I h) λv s1 h1=>thn h1 λitv s2 h2=>?_) hs
  obtain⟨it,fp,Y,J,H2,e,I2,T,M,f2,W,⟨m0,w0⟩,turn⟩:=h2;subst e
  -- what stays true of the iterator's objects through the loop
  have j:∀ {t:Hp},(∀ b∈fp,t b=none)->∀ b∈fp,FpOk X pQ t b:=λhn b k=>⟨hn b k,(f2 b k).2⟩
  refine codeAny_forLoop_any (λn s'=>∃ i G t,Inv X pQ G t s'/\Y i s'.heap/\(∀ b∈fp,t b=none)/\W i n G t) ?_ m0 ⟨0,O,H2,I2,M,λb k=>(f2 b k).1,w0⟩
  rintro n s3 ⟨i,c,K,I3,B,F,w3⟩
  rcases turn i n c K w3 with⟨stop,qn⟩|⟨go,N,hN,step⟩
  . refine wpAny_passesOwn E (thn (T.done X rfl rfl rfl hc i pQ s3 c K X.xe I3 (j F) B stop) λr s4 ⟨R,I4⟩=>?_)
    subst R;exact wpAny_execs_nil ⟨c,K,I4,qn⟩
  . refine wpAny_passesOwn E (thn (T.item X rfl rfl rfl hc i pQ s3 c K X.xe I3 (j F) B go) λr s4 ⟨u,R,h4⟩=>?_)
    subst R;refine wpAny_passesOwn E (thn h4 λ_ s5 ⟨x,H5,I5,r5,y5,z,S⟩=>?_)
    have U:=I5.pinned (j S) (T.obj _ _ z);refine wpAny_passesOwn E (thn (hg _ s5 c H5 x u _ U r5 (step x H5 y5)) λ_ s6 ⟨L,H6,I6,q6⟩=>?_)
    refine wpAny_passesOwn E (thn (k _ s6 L H6 _ I6 q6) λf P y=>?_)
    have l:∀ {a:St}{q:Hp},Inv X (pQ++pinsAt fp s5.heap) a q P->N a q->∃ m,m < n/\∃ i G t,Inv X pQ G t P/\Y i P.heap/\(∀ b∈fp,t b=none)/\W i m G t:=λ{a q} p C=>by
      obtain⟨m',hm,w7⟩:=hN a q C;refine⟨m',hm,i+1,a,q,p.unpinned,T.keep _ _ _ z λb k o e=>(p.pin (b,o) (cG _ (cG _ (mem_pinsAt k e)))).1,λb k=>?_,w7⟩
      obtain⟨o,e,d⟩:=T.obj _ _ z b k;exact(p.pin (b,o) (cG _ (cG _ (mem_pinsAt k e)))).2.1
    cases f with
    |next=>obtain⟨a,q,p,C⟩:=y;exact l p C
    |cont=>obtain⟨a,q,p,C⟩:=y;exact l p C
    |brk=>obtain⟨a,q,p,y⟩:=y;exact⟨a,q,p.unpinned,y⟩
    |ret v=>obtain⟨x7,a,q,p,r7,y⟩:=y;exact⟨x7,a,q,p.unpinned,r7,y⟩
theorem for_tup{a:Ad}{g:TG}{j:TS}{D:Ends}{O:St}{H:Hp}(Pv:Nat->St->Hp->Prop)(r:Pv 0 O H)(hl:∀ i O H,i<=xs.length->Pv i O H->SqT K H a xs)(n:∀ i x O H,xs[i]?=some x->Pv i O H->g x O H λb h=>j { D with nx:=Pv (i+1),ct:=Pv (i+1),bk:=D.nx } b h)(hd:∀ O H,Pv xs.length O H->D.nx O H) :
    ∃ W:Nat->Nat->St->Hp->Prop,(∃ m,W 0 m O H)/\∀ i m O H,W i m O H->
      ((Itt K a).stop i H/\D.nx O H)\/((Itt K a).go i H/\∃ N:St->Hp->Prop,(∀ f c,N f c->∃ k,k < m/\W (i+1) k f c)/\∀ x c,(Itt K a).yld i H x c->g x O c λb h=>j { D with nx:=N,ct:=N,bk:=D.nx } b h):=by
  refine⟨λi m O H=>m=xs.length - i/\i<=xs.length/\Pv i O H,⟨xs.length,by simp,aV _,r⟩,?_⟩
  rintro i m O H ⟨rfl,o,p⟩
  have q:=hl i O H o p;by_cases d:i < xs.length
  . refine .inr ⟨⟨xs,xs[i],q,by simp[d]⟩,Pv (i+1),λf c l=>⟨xs.length - (i+1),by omega,rfl,d,l⟩,λx c y=>?_⟩
    obtain⟨e,y⟩:=y;subst e;exact n i x O _ (y xs q) p
  . have e:i=xs.length:=by omega
    subst e;exact .inl ⟨⟨xs,q,aF _⟩,hd O H p⟩
theorem for_range{g:TG}{h:TS}{D:Ends}{O:St}{H:Hp}(Pv:Nat->St->Hp->Prop)(o:Pv 0 O H)(l:∀ i O H,i < n->Pv i O H->g (.int (lo+i)) O H λa f=>h { D with nx:=Pv (i+1),ct:=Pv (i+1),bk:=D.nx } a f)(hd:∀ O H,Pv n O H->D.nx O H) :
    ∃ W:Nat->Nat->St->Hp->Prop,(∃ m,W 0 m O H)/\∀ i m O H,W i m O H->
      ((Itr lo n).stop i H/\D.nx O H)\/((Itr lo n).go i H/\∃ N:St->Hp->Prop,(∀ d c,N d c->∃ j,j < m/\W (i+1) j d c)/\∀ x c,(Itr lo n).yld i H x c->g x O c λa f=>h { D with nx:=N,ct:=N,bk:=D.nx } a f):=by
  refine⟨λi m O H=>m=n - i/\i<=n/\Pv i O H,⟨n,by simp,aV _,o⟩,?_⟩
  rintro i m O H ⟨rfl,q,p⟩
  by_cases b:i < n
  . refine .inr ⟨b,Pv (i+1),λd c k=>⟨n - (i+1),by omega,rfl,b,k⟩,λx c y=>?_⟩
    obtain⟨e,y⟩:=y;subst e y;exact l i O _ b p
  . have e:i=n:=by omega
    subst e;exact .inl ⟨aF _,hd O H p⟩
abbrev R2:=V->V->Hp->VK->Prop
def OpR(X:Cx)(f:vL->vL->Sem vL)(r:R2):Prop:=
  ∀ (pQ:Li (Ad×Obj)) (s:sH7) (O:St) (H:Hp) (x y:V) (v u:vL) (Q:VK),Inv X pQ O H s->RelV x v->RelV y u->r x y H Q->
    wpAny (model X.prog X.w) X.A (f v u) (EP X pQ O Q) X.xe s
def UnR(X:Cx)(f:vL->Sem vL)(r:V->Hp->VK->Prop):Prop:=
  ∀ (pQ:Li (Ad×Obj)) (s:sH7) (O:St) (H:Hp) (x:V) (v:vL) (Q:VK),Inv X pQ O H s->RelV x v->r x H Q->
    wpAny (model X.prog X.w) X.A (f v) (EP X pQ O Q) X.xe s
def CallR(X:Cx)(f:vL)(r:Li V->Hp->VK->Prop):Prop:=
  ∀ (pQ:Li (Ad×Obj)) (s:sH7) (O:St) (H:Hp) (xs:Li V) (us:Li vL) (Q:VK),Inv X pQ O H s->Vals xs us->r xs H Q->
    wpAny (model X.prog X.w) X.A (call f us) (EP X pQ O Q) X.xe s
def tOp(r:R2)(b a:TE):TE:=λO H Q=>b O H λx d=>a O d λy c=>r x y c Q
def tUn(r:V->Hp->VK->Prop)(a:TE):TE:=λO H Q=>a O H λx b=>r x b Q
def rI(C:Int->Int->Prop)(g:Int->Int->V):R2:=λx y H Q=>∃ i j,x=.int i/\y=.int j/\C i j/\Q (g i j) H
def rI0(g:Int->Int->V):R2:=λx y H Q=>∃ i j,x=.int i/\y=.int j/\Q (g i j) H
def rU(g:Int->V):V->Hp->VK->Prop:=λx H Q=>∃ i,x=.int i/\Q (g i) H
variable{c:Expr}{tc:TE}
section
variable{a:Expr}
theorem binT(q:PE X a ta)(p:PE X b tb){O:St}{R:V->V->Hp->Prop}(I:Inv X pQ O H s)(h:ta O H λx i=>tb O i λy c=>R x y c){f:vL->vL->Sem vL}(o:∀ v u g x y c,Inv X pQ O c g->RelV x v->RelV y u->R x y c->wpAny (model X.prog X.w) X.A (f v u) Q X.xe g) :
    wpAny (model X.prog X.w) X.A (eval a X.env) (λv e=>wpAny (model X.prog X.w) X.A (eval b X.env) (λu d=>wpAny (model X.prog X.w) X.A (f v u) Q X.xe d) X.xe e) X.xe s:=by
  refine thn (q pQ s O H _ I h) λv j ⟨x,i,t,l,n⟩=>?_
  refine thn (p pQ j O i _ t n) λu g ⟨y,c,r,k,m⟩=>?_
  exact o v u g x y c r l k m
theorem pe_op{c:Operator}{r:R2}(g:OpR X (binaryOp c) r)(j:PE X a ta)(i:PE X b tb):PE X (.BinOp a c b pos) (tOp r ta tb):=by
  intro pQ s O H Q I h;exact wpAny_BinOp (binT j i I h λv u d x y l k f e q=>g pQ d O l x y v u Q k f e q)
theorem pe_un{b:UnaryOp}{r:V->Hp->VK->Prop}(f:UnR X (unaryOp b) r)(g:PE X a ta):PE X (.UnaryOp b a pos) (tUn r ta):=by
  intro pQ s O H Q I h;exact UnaryOp_ (thn (g pQ s O H _ I h) λv c ⟨x,j,i,d,e⟩=>f pQ c O j x v Q i d e)
theorem opI{f:vL->vL->Sem vL}{C:Int->Int->Prop}{g:Int->Int->Int}(a:∀ (i j:Int) (t u:Tok) (s:sH7) (Q:vL->sH7->Prop) (E:vL->sH7->Prop),C i j->Q (.int (g i j) s.toks) { s with toks:=s.toks+1 }->wpAny (model X.prog X.w) X.A (f (.int i t) (.int j u)) Q E s) :
    OpR X f (rI C λi j=>.int (g i j)):=by
  intro pQ s O H x y v u Q I c b h;obtain⟨i,j,rfl,rfl,d,q⟩:=h;obtain⟨t,rfl⟩:=c;obtain⟨t',rfl⟩:=b;exact a i j t t' s _ _ d ⟨.int (g i j),H,I.tok _,⟨_,rfl⟩,q⟩
theorem opI0{f:vL->vL->Sem vL}{g:Int->Int->Int}(a:∀ (i j:Int) (t u:Tok) (s:sH7) (Q:vL->sH7->Prop) (E:vL->sH7->Prop),Q (.int (g i j) s.toks) { s with toks:=s.toks+1 }->wpAny (model X.prog X.w) X.A (f (.int i t) (.int j u)) Q E s) :
    OpR X f (rI0 λi j=>.int (g i j)):=by
  intro pQ s O H x y v u Q I c b h;obtain⟨i,j,rfl,rfl,q⟩:=h;obtain⟨t,rfl⟩:=c;obtain⟨t',rfl⟩:=b;exact a i j t t' s _ _ ⟨.int (g i j),H,I.tok _,⟨_,rfl⟩,q⟩
theorem opB0{f:vL->vL->Sem vL}{g:Int->Int->Bool}(a:∀ (i j:Int) (t u:Tok) (s:sH7) (Q:vL->sH7->Prop) (E:vL->sH7->Prop),Q (.bool (g i j)) s->wpAny (model X.prog X.w) X.A (f (.int i t) (.int j u)) Q E s) :
    OpR X f (rI0 λi j=>.bl (g i j)):=by
  intro pQ s O H x y v u Q I c b h;obtain⟨i,j,rfl,rfl,q⟩:=h;obtain⟨t,rfl⟩:=c;obtain⟨t',rfl⟩:=b;exact a i j t t' s _ _ ⟨.bl (g i j),H,I,rfl,q⟩
def CDiv(i j:Int):Prop:=0 < j/\j < 1073741824
def CDivN(i j:Int):Prop:=j≠0/\j.natAbs < 1073741824
def CPow(i j:Int):Prop:=0<=j/\j<=1000000/\i.natAbs < 2 ^ 64
def CMul(i j:Int):Prop:=(-(2 ^ 64) < i/\i < 2 ^ 64)\/(-(2 ^ 64) < j/\j < 2 ^ 64)
theorem CMul.ok{i j:Int}(h:CMul i j):IntMulOk i j:=by
  rcases h with⟨b,a⟩|⟨b,a⟩
  . exact .of_left (intBits_le_64 b a)
  . exact .of_right (intBits_le_64 b a)
theorem op_add:OpR X (binaryOp .Add) (rI0 λi j=>.int (i+j)):=opI0 λ_ _ _ _ _ _ _ q=>add_int q
theorem op_sub:OpR X (binaryOp .Sub) (rI0 λi j=>.int (i - j)):=opI0 λ_ _ _ _ _ _ _ q=>sub_int q
theorem op_mul:OpR X (binaryOp .Mult) (rI CMul λi j=>.int (i * j)):=opI λ_ _ _ _ _ _ _ a q=>mul_int q a.ok
theorem op_fdiv:OpR X (binaryOp .FloorDiv) (rI CDiv λi j=>.int (i / j)):=opI λi j _ _ _ _ _ a q=>by
  have c:(0:Int) < j:=a.1;have b:j < 1073741824:=a.2;exact floordiv_int (by omega) (by rw[Int.fdiv_eq_ediv_of_nonneg i (by omega)];exact q) (.inl (PyProof.noPylong_small (by omega)))
theorem op_fdivN:OpR X (binaryOp .FloorDiv) (rI CDivN λi j=>.int (i.fdiv j)):=opI λ_ _ _ _ _ _ _ a q=>floordiv_int a.1 q (.inl (PyProof.noPylong_small a.2))
theorem op_mod:OpR X (binaryOp .Mod) (rI (λ_ j=>0 < j) λi j=>.int (i % j)):=opI λi j _ _ _ _ _ a q=>by
  have b:(0:Int) < j:=a;exact mod_int' (by omega) (by rw[Int.fmod_eq_emod_of_nonneg i (by omega)];exact q)
theorem op_modN:OpR X (binaryOp .Mod) (rI (λ_ j=>j≠0) λi j=>.int (i.fmod j)):=opI λ_ _ _ _ _ _ _ a q=>mod_int' a q
theorem op_shl:OpR X (binaryOp .LShift) (rI CPow λi j=>.int (i * 2 ^ j.toNat)):=opI λ_ _ _ _ _ _ _ a q=>lshift_int_small a.1 a.2.1 a.2.2 q
theorem op_and:OpR X (binaryOp .BitAnd) (rI0 λi j=>.int (Builtin.bitAnd i j)):=opI0 λ_ _ _ _ _ _ _ q=>and_int q
theorem op_or:OpR X (binaryOp .BitOr) (rI0 λi j=>.int (Builtin.bitOr i j)):=opI0 λ_ _ _ _ _ _ _ q=>or_int q
theorem unI{f:vL->Sem vL}{g:Int->Int}(a:∀ (i:Int) (t:Tok) (s:sH7) (Q:vL->sH7->Prop) (E:vL->sH7->Prop),Q (.int (g i) s.toks) { s with toks:=s.toks+1 }->wpAny (model X.prog X.w) X.A (f (.int i t)) Q E s) :
    UnR X f (rU λi=>.int (g i)):=by
  intro pQ s O H x v Q I b h;obtain⟨i,rfl,q⟩:=h;obtain⟨t,rfl⟩:=b;exact a i t s _ _ ⟨.int (g i),H,I.tok _,⟨_,rfl⟩,q⟩
theorem un_neg:UnR X (unaryOp .USub) (rU λi=>.int (-i)):=unI λ_ _ _ _ _ q=>neg_int q
end
noncomputable def scal:V->V->Bool
  |.non,.non=>true|.non,.int _=>true|.int _,.non=>true|.non,.bl _=>true|.bl _,.non=>true|.non,.str _=>true|.str _,.non=>true
  |.int _,.int _=>true|.bl _,.bl _=>true|.str _,.str _=>true|.byt _,.byt _=>true
  |.int _,.str _=>true|.str _,.int _=>true|.bl _,.str _=>true|.str _,.bl _=>true
  |_,_=>false
def rEq:R2:=λx y H Q=>scal x y=true/\Q (.bl (decide (x=y))) H
def rNe:R2:=λx y H Q=>scal x y=true/\Q (.bl (!decide (x=y))) H
theorem dec_int{i j:Int}:decide (V.int i=V.int j)=(i==j):=by
  rw[bK];simp
theorem dec_bl{i j:Bool}:decide (V.bl i=V.bl j)=(i==j):=by
  rw[bK];simp
theorem dec_str{i j:Str}:decide (V.str i=V.str j)=(i==j):=by
  rw[bK];simp
theorem dec_byt{i j:Array UInt8}:decide (V.byt i=V.byt j)=(i.toList==j.toList):=by
  rw[bK];cases i;cases j;simp
variable{op:CmpOp}
section
variable{a:Expr}
theorem fin_bl{O:St}{Q:VK}{k a:Bool}(I:Inv X pQ O H s)(q:Q (.bl k) H)(e:k=a):EP X pQ O Q (.bool a) s:=by
  subst e;exact⟨.bl k,H,I,rfl,q⟩
theorem op_eq:OpR X (compareOp .Eq) rEq:=by
  intro pQ s O H x y v u Q I c a h;obtain⟨b,q⟩:=h;cases x with
  |non=>
    cases c;cases y with
    |non=>cases a;exact PySem.EqNone.eq_none_none (fin_bl I q (by simp))
    |bl j=>cases a;exact PySem.EqNone.eq_none_bool (fin_bl I q (by simp))
    |int j=>obtain⟨t',rfl⟩:=a;exact PySem.EqNone.eq_none_int (fin_bl I q (by simp))
    |str j=>obtain⟨t',rfl⟩:=a;exact PySem.EqNone.eq_none_str (fin_bl I q (by simp))
    |_=>exact absurd (show false=true from b) bF7
  |bl i=>
    cases c;cases y with
    |non=>cases a;exact PySem.EqNone.eq_bool_none (fin_bl I q (by simp))
    |bl j=>cases a;exact eq_bool (fin_bl I q dec_bl)
    |str j=>obtain⟨t',rfl⟩:=a;exact PySem.EqMixed.eq_bool_str (fin_bl I q (by simp))
    |_=>exact absurd (show false=true from b) bF7
  |int i=>
    obtain⟨t,rfl⟩:=c;cases y with
    |non=>cases a;exact PySem.EqNone.eq_int_none (fin_bl I q (by simp))
    |int j=>obtain⟨t',rfl⟩:=a;exact eq_int (fin_bl I q dec_int)
    |str j=>obtain⟨t',rfl⟩:=a;exact PySem.EqMixed.eq_int_str (fin_bl I q (by simp))
    |_=>exact absurd (show false=true from b) bF7
  |str i=>
    obtain⟨t,rfl⟩:=c;cases y with
    |non=>cases a;exact PySem.EqNone.eq_str_none (fin_bl I q (by simp))
    |bl j=>cases a;exact PySem.EqMixed.eq_str_bool (fin_bl I q (by simp))
    |int j=>obtain⟨t',rfl⟩:=a;exact PySem.EqMixed.eq_str_int (fin_bl I q (by simp))
    |str j=>obtain⟨t',rfl⟩:=a;exact eq_str (fin_bl I q dec_str)
    |_=>exact absurd (show false=true from b) bF7
  |byt i=>
    obtain⟨t,rfl⟩:=c;cases y with
    |byt j=>obtain⟨t',rfl⟩:=a;exact W.eq_bytes (fin_bl I q dec_byt)
    |_=>exact absurd (show false=true from b) bF7
  |_=>cases y<;>exact absurd (show false=true from b) bF7
theorem op_ne:OpR X (compareOp .NotEq) rNe:=by
  intro pQ s O H x y v u Q I c a h;obtain⟨b,q⟩:=h;cases x with
  |non=>
    cases c;cases y with
    |non=>cases a;exact PySem.EqNone.ne_none_none (fin_bl I q (by simp))
    |bl j=>cases a;exact PySem.EqNone.ne_none_bool (fin_bl I q (by simp))
    |int j=>obtain⟨t',rfl⟩:=a;exact PySem.EqNone.ne_none_int (fin_bl I q (by simp))
    |str j=>obtain⟨t',rfl⟩:=a;exact PySem.EqNone.ne_none_str (fin_bl I q (by simp))
    |_=>exact absurd (show false=true from b) bF7
  |bl i=>
    cases c;cases y with
    |non=>cases a;exact PySem.EqNone.ne_bool_none (fin_bl I q (by simp))
    |bl j=>cases a;exact ne_bool (fin_bl I q (congrArg not dec_bl))
    |str j=>obtain⟨t',rfl⟩:=a;exact PySem.EqMixed.ne_bool_str (fin_bl I q (by simp))
    |_=>exact absurd (show false=true from b) bF7
  |int i=>
    obtain⟨t,rfl⟩:=c;cases y with
    |non=>cases a;exact PySem.EqNone.ne_int_none (fin_bl I q (by simp))
    |int j=>obtain⟨t',rfl⟩:=a;exact ne_int (fin_bl I q (congrArg not dec_int))
    |str j=>obtain⟨t',rfl⟩:=a;exact PySem.EqMixed.ne_int_str (fin_bl I q (by simp))
    |_=>exact absurd (show false=true from b) bF7
  |str i=>
    obtain⟨t,rfl⟩:=c;cases y with
    |non=>cases a;exact PySem.EqNone.ne_str_none (fin_bl I q (by simp))
    |bl j=>cases a;exact PySem.EqMixed.ne_str_bool (fin_bl I q (by simp))
    |int j=>obtain⟨t',rfl⟩:=a;exact PySem.EqMixed.ne_str_int (fin_bl I q (by simp))
    |str j=>obtain⟨t',rfl⟩:=a;exact ne_str (fin_bl I q (congrArg not dec_str))
    |_=>exact absurd (show false=true from b) bF7
  |byt i=>
    obtain⟨t,rfl⟩:=c;cases y with
    |byt j=>obtain⟨t',rfl⟩:=a;exact W.ne_bytes (fin_bl I q (congrArg not dec_byt))
    |_=>exact absurd (show false=true from b) bF7
  |_=>cases y<;>exact absurd (show false=true from b) bF7
theorem op_lt:OpR X (compareOp .Lt) (rI0 λi j=>.bl (decide (i < j))):=opB0 λ_ _ _ _ _ _ _ q=>lt_int q
theorem op_le:OpR X (compareOp .LtE) (rI0 λi j=>.bl (decide (i<=j))):=opB0 λ_ _ _ _ _ _ _ q=>le_int q
theorem op_gt:OpR X (compareOp .Gt) (rI0 λi j=>.bl (decide (j < i))):=opB0 λ_ _ _ _ _ _ _ q=>gt_int q
theorem op_ge:OpR X (compareOp .GtE) (rI0 λi j=>.bl (decide (j<=i))):=opB0 λ_ _ _ _ _ _ _ q=>ge_int q
theorem op_in_str:OpR X (compareOp .In) (λx y H Q=>∃ i j,x=.str i/\y=.str j/\Q (.bl (!(Builtin.Str.occurrences j i 0 j.length 1).isEmpty)) H):=by
  intro pQ s O H x y v u Q I b a h;obtain⟨i,j,rfl,rfl,q⟩:=h;obtain⟨t,rfl⟩:=b;obtain⟨t',rfl⟩:=a;exact in_str (fin_bl I q rfl)
theorem op_isN:OpR X (compareOp .Is) (λx y H Q=>y=.non/\Q (.bl (decide (x=.non))) H):=by
  intro pQ s O H x y v u Q I a b h;obtain⟨rfl,q⟩:=h;cases b;refine is_none_gen (fin_bl I q ?_);cases x<;>first
    | (cases a;rfl)
    | (obtain⟨t,rfl⟩:=a;rfl)
theorem op_notN:OpR X (compareOp .IsNot) (λx y H Q=>y=.non/\Q (.bl (!decide (x=.non))) H):=by
  intro pQ s O H x y v u Q I a b h;obtain⟨rfl,q⟩:=h;cases b;refine isnot_none_gen (fin_bl I q ?_);cases x<;>first
    | (cases a;rfl)
    | (obtain⟨t,rfl⟩:=a;rfl)
theorem pe_cmpR{r:R2}(f:OpR X (compareOp op) r)(j:PE X a ta)(i:PE X b tb)(g:behindInMarks op b=false):PE X (.Compare a [op] [b] pos) (tOp r ta tb):=by
  intro pQ s O H Q I h;exact wpAny_Compare1 (binT j i I h λv u c x y l k e d q=>f pQ c O l x y v u Q k e d q) g
def tTest(t:TE):TT:=λO H Q=>t O H λx a=>∃ k,x=.bl k/\Q k a
theorem pt_cmpR{r:R2}(o:OpR X (compareOp op) r)(t:PE X a ta)(q:PE X b tb)(p:behindInMarks op b=false):PT X (.Compare a [op] [b] pos) (tTest (tOp r ta tb)):=by
  intro pQ s O H Q I h;refine wpAny_isTrue_Compare1 (thn (t pQ s O H _ I h) λv f ⟨x,E,B,j,n⟩=>thn (q pQ f O E _ B n) λu d ⟨y,D,A,i,m⟩=>
    thn (o pQ d O D x y v u _ A j i m) λc F ⟨z,C,w,g,k,e,l⟩=>?_) p
  subst e;cases g;exact wpAny_truthy_bool ⟨C,w,l⟩
theorem line63:(sizeLine:Nat) < 2 ^ 63:=by rw[sizeLine_eq];decide
theorem op_add_str:OpR X (binaryOp .Add) (λx y H Q=>∃ i j,x=.str i/\y=.str j/\i.length+j.length<=sizeLine/\Q (.str (i++j)) H):=by
  intro pQ s O H x y v u Q I b a h;obtain⟨i,j,rfl,rfl,c,q⟩:=h;obtain⟨t,rfl⟩:=b;obtain⟨t',rfl⟩:=a;exact add_str (λt' d=>⟨.str (i++j),H,I.tok _,⟨_,rfl⟩,q⟩) c
theorem vals1{x:V}(r:Vals [x] us):∃ u,us=[u]/\RelV x u:=by
  cases r with
  |cons b a=>cases a;exact⟨_,rfl,b⟩
theorem vals2{x:V}(r:Vals [x,y] us):∃ u a,us=[u,a]/\RelV x u/\RelV y a:=by
  cases r with
  |cons e d=>
    cases d with
    |cons c b=>cases b;exact⟨_,_,rfl,e,c⟩
theorem call_max2(b:X.calm=true):CallR X (.builtin "max") (λxs H Q=>∃ i j,xs=[.int i,.int j]/\Q (.int (if j > i then j else i)) H):=by
  intro pQ s O H xs us Q I r h;obtain⟨i,j,rfl,q⟩:=h;obtain⟨u,c,rfl,⟨t,rfl⟩,⟨t',rfl⟩⟩:=vals2 r;refine max_two_ints (I.ok.hd b) λe d k=>⟨_,H,I.kept k,?_,q⟩
  by_cases a:j > i
  . rw[if_pos a,if_pos a];exact⟨_,rfl⟩
  . rw[if_neg a,if_neg a];exact⟨_,rfl⟩
theorem call_min2(b:X.calm=true):CallR X (.builtin "min") (λxs H Q=>∃ i j,xs=[.int i,.int j]/\Q (.int (if j < i then j else i)) H):=by
  intro pQ s O H xs us Q I r h;obtain⟨i,j,rfl,q⟩:=h;obtain⟨u,c,rfl,⟨t,rfl⟩,⟨t',rfl⟩⟩:=vals2 r;refine min_two_ints (I.ok.hd b) λe d k=>⟨_,H,I.kept k,?_,q⟩
  by_cases a:j < i
  . rw[if_pos a,if_pos a];exact⟨_,rfl⟩
  . rw[if_neg a,if_neg a];exact⟨_,rfl⟩
def LenV(K:fG7)(x:V)(H:Hp)(n:Nat):Prop:=
  match x with
  |.str y=>y.length<=sizeLine/\n=y.length
  |.byt y=>y.size<=sizeLine/\n=y.size
  |.ref p=>(∃ xs,SqL K H p xs/\n=xs.length)\/∃ xs,SqT K H p xs/\n=xs.length
  |_=>False
theorem call_len:CallR X (.builtin "len") (λxs H Q=>∃ x n,xs=[x]/\LenV X.K x H n/\Q (.int n) H):=by
  intro pQ s O H xs us Q I r h;obtain⟨x,n,rfl,e,q⟩:=h;obtain⟨u,rfl,c⟩:=vals1 r;have l:=line63;have k:sizeLine=16777216:=sizeLine_eq;cases x with
  |str y=>
    obtain⟨t,rfl⟩:=c;obtain⟨j,b⟩:y.length<=sizeLine/\n=y.length:=e;subst b;exact len_str (by omega) ⟨.int _,H,I.tok _,⟨_,rfl⟩,q⟩
  |byt y=>
    obtain⟨t,rfl⟩:=c;obtain⟨j,b⟩:y.size<=sizeLine/\n=y.size:=e;subst b;exact W.len_bytes (by omega) ⟨.int _,H,I.tok _,⟨_,rfl⟩,q⟩
  |ref p=>
    cases c;have b:(∃ xs,SqL X.K H p xs/\n=xs.length)\/∃ xs,SqT X.K H p xs/\n=xs.length:=e;rcases b with⟨xs,g,b⟩|⟨xs,g,b⟩
    . subst b
      obtain⟨its,d,f,i⟩:=I.list g;have a:=d.length;exact Calls.call_len_list f.isList (by simp only[aM];omega) ⟨.int xs.length,H,I.tok _,⟨_,by simp only[aM];rw[a]⟩,q⟩
    . subst b
      obtain⟨its,d,f,i⟩:=I.tuple g;have a:=d.length;exact len_tuple f (by simp only[aM];omega) ⟨.int xs.length,H,I.tok _,⟨_,by simp only[aM];rw[a]⟩,q⟩
  |_=>exact(show False from e).elim
end
structure ObjM(h:Heap)(x dx C:Addr)(mA:Str->Option Value):Prop where
  obj:h.get? x=some (W.instObj C dx)
  ns:h.Ns1 dx mA
  ne:dx≠x
variable{mA:Str->Ot vL}
theorem lookIn_ns{f:Ad}(n:h.Ns1 f mA):∃ d,h.get? f=some d/\∀ b,W.lookIn b d=some (mA b):=by
  obtain⟨o,es,p,i,l,k,_,j⟩:=n;refine⟨o,i,λb=>?_⟩
  have e:=j b;unfold nsFind findBy at e;rw[<-Array.find?_toList]at e;unfold W.lookIn;rw[l];dsimp only;split
  . rename_i y q
    rw[q]at e;exact congrArg some e
  . rename_i q
    rw[q]at e;have a:es.toList.any (·.refKey)=false:=by
      rw[List.any_eq_false];intro y g;obtain⟨z,t,c⟩:=k y (Array.mem_toList_iff.mp g);simp[DictEntry.refKey,c]
    have m:¬es.toList.any (·.refKey)=true:=by rw[a];exact bF7
    rw[if_neg m];exact congrArg some e
theorem ObjM.look{x c C:Ad}(I:ObjM h x c C mA):∃ b,W.InstAt h x (W.instObj C c) C (some b)/\∀ a,W.lookIn a b=some (mA a):=
  let ⟨b,ho,hl⟩:=lookIn_ns I.ns
  ⟨b,⟨I.obj,rfl,rfl,ho⟩,hl⟩
variable{pl:Sem Bool}{kw:Li (Str×vL)}
variable{A:Around}{K:fG7}{dx C f:Ad}{mA:Str->Ot vL}
section
variable{prog:Program}{name:Str}{v:vL}
theorem get_map{a:Bool}(X:K.In s.heap)(I:ObjM s.heap x dx C mA)(f:W.plainGet K C name=true)(e:W.hasDictIn K C=true)(g:W.findIn K (.ref C) name=some none)(c:mA name=some v)(b:W.handedIn v=true)(h:Q v { s with toks:=s.toks+1 }) :
    wpAny (model prog w) A (getAttr (.ref x) name a) Q E s:=by
  obtain⟨i,J,d⟩:=I.look;exact W.get_value X J (W.plainGet_of f).1 (W.findObj_own e g rfl (by rw[d,c])) b h
theorem get_meth{Q:vL×Li vL->sH7->Prop}(X:K.In s.heap)(I:ObjM s.heap x dx C mA)(a:W.plainGet K C name=true)(g:W.findIn K (.ref C) name=some (some (.ref f)))(d:W.isFn K (.ref f)=true)(c:mA name=none)(h:Q (.ref f,[.ref x]) s) :
    wpAny (model prog w) A (getMethod (.ref x) name pl) Q E s:=by
  obtain⟨b,J,e⟩:=I.look;exact W.method_fn X J (W.plainGet_of a).1 (W.plainGet_of a).2 g (beq_iff_eq.mp d) (by show(W.lookIn name b).map (·.isSome)=some false;rw[e,c];rfl) h
theorem set_map{j:Li Str}{Q:Unit->sH7->Prop}(X:K.In s.heap)(I:ObjM s.heap x dx C mA)(o:W.findIn K (.ref C) "__setattr__"=some (some (.builtin "object.__setattr__")))(p:W.plainOver K C=true)(m:W.takerIn K C name=some none)(q:W.hasDictIn K C=true)(l:PySem.Within mA j)(n:j.length<=sizeLine)(h:∀ e,ObjM e x dx C (λy=>if y=name then some v else mA y)->Heap.SameBut dx s.heap e->Q () { s with heap:=e,toks:=s.toks+2 }) :
    wpAny (model prog w) A (setAttr (.ref x) name v) Q E s:=by
  obtain⟨B,J,D⟩:=I.look;refine W.set_plain X J o (W.osa_open (s:={ s with toks:=s.toks+1 }) (r:=none) X J p m λb=>?_)
  obtain⟨F,t,g⟩:=W.any_some q;have k:s.heap.get? x=some ⟨.ref C,some dx,.plain,#[]⟩:=I.obj;refine aA (aB (aA (aA (wpAny_loadPart k (aA (W.Looks.here (s:={ s with toks:=s.toks+1 }) (W.looks_clsIn X t) ?_))))))
  rw[g];refine aB (a:=some dx) (aA (aB (aA ?_)));refine wpAny_nsSet1 (s:={ s with toks:=s.toks+1 }) I.ns λe d c=>?_
  obtain⟨oD,u,z,f,hdD,i⟩:=d.count (PySem.Within.cons name v l);refine aA (wpAny_lookBehind f (by rw[hdD];exact pastItsLine_dict (aK i (by rw[aP];omega))) ?_)
  exact aB (h _ ⟨(c.2 _ (Ne.symm I.ne)).trans I.obj,d,I.ne⟩ c)
theorem make_map{R:Result->sH7->Prop}{b:Li vL}(X:K.In s.heap)(c:W.makesIn K C=true)(e:W.findIn K (.ref C) "__init__"=some (some (.ref f)))(i:W.typeIn K (.ref f)=some (.type "function"))(h:codeAny (model prog w) (A.under (.builtin "type.__call__" ⟨.ref C :: b,kw⟩)) (.call (.ref f) ⟨.ref (s.heap.objs.size+1) :: b,kw⟩) (W.InitBack (s.heap.objs.size+1) R)
      { s with heap:=(s.heap.push W.emptyDict).push (W.instObj C s.heap.objs.size) }) :
    codeAny (model prog w) A (.call (.ref C) ⟨b,kw⟩) R s:=by
  obtain⟨k,g,d,t,j⟩:=s;exact W.make_core (W.makes_of X c) (W.looks_findIn X e) (λa=>W.bind_fn X a i) (.inl rfl) h
end
noncomputable def putF(f:Str)(v:V):Li (Str×V)->Li (Str×V)
  |[]=>[(f,v)]
  | (g,x) :: r=>if g=f then (g,v) :: r else (g,x) :: putF f v r
theorem lookup_putF(f g:Str)(v:V):∀ fs:Li (Str×V),(putF f v fs).lookup g=if g=f then some v else fs.lookup g
  |[]=>by
    show List.lookup g [(f,v)]=_;by_cases h:g=f
    . have a:(g==f)=true:=beq_iff_eq.mpr h
      simp only[List.lookup,a,if_pos h]
    . have a:(g==f)=false:=cD.mpr h
      simp only[List.lookup,a,if_neg h]
  | (k,x) :: r=>by
    have c:=lookup_putF f g v r;rw[show putF f v ((k,x) :: r)=(if k=f then (k,v) :: r else (k,x) :: putF f v r) from rfl]
    by_cases b:k=f
    . rw[if_pos b]
      by_cases h:g=k
      . have a:(g==k)=true:=beq_iff_eq.mpr h
        simp only[List.lookup,a,if_pos (h.trans b)]
      . have a:(g==k)=false:=cD.mpr h
        simp only[List.lookup,a,if_neg (λe:g=f=>h (e.trans b.symm))]
    . rw[if_neg b]
      by_cases h:g=k
      . have a:(g==k)=true:=beq_iff_eq.mpr h
        simp only[List.lookup,a,if_neg (λe:g=f=>b (h.symm.trans e))]
      . have a:(g==k)=false:=cD.mpr h
        simp only[List.lookup,a];exact c
theorem keys_putF(f:Str)(v:V):∀ fs:Li (Str×V),f∈(putF f v fs).map (·.1)/\∀ g,g∈fs.map (·.1)->g∈(putF f v fs).map (·.1)
  |[]=>⟨by simp[putF],λg h=>by simp at h⟩
  | (k,x) :: r=>by
    obtain⟨c,b⟩:=keys_putF f v r;rw[show putF f v ((k,x) :: r)=(if k=f then (k,v) :: r else (k,x) :: putF f v r) from rfl]
    by_cases a:k=f
    . rw[if_pos a]
      subst a;exact⟨by simp,λg h=>by simpa using h⟩
    . rw[if_neg a]
      refine⟨?_,λg h=>?_⟩
      . rw[aJ]
        exact lM7 _ c
      . rw[aJ]at h ⊢
        rcases aH.mp h with e|e
        . exact aH.mpr (.inl e)
        . exact lM7 _ (b g e)
theorem length_putF(f:Str)(v:V):∀ fs:Li (Str×V),(putF f v fs).length<=fs.length+1
  |[]=>by simp[putF]
  | (k,x) :: r=>by
    have b:=length_putF f v r;rw[show putF f v ((k,x) :: r)=(if k=f then (k,v) :: r else (k,x) :: putF f v r) from rfl]
    by_cases a:k=f
    . rw[if_pos a,aP,aP];omega
    . rw[if_neg a,aP,aP];omega
theorem RelO.some_of{v:V}{o:Ot vL}(r:RelO (some v) o):∃ u,o=some u/\RelV v u:=by
  cases o with
  |none=>exact(show False from r).elim
  |some u=>exact⟨u,rfl,r⟩
theorem RelO.none_of{o:Ot vL}(r:RelO none o):o=none:=by
  cases o with
  |none=>rfl
  |some u=>exact(show False from r).elim
theorem handed_of{v:V}{u:vL}(r:RelV v u):W.handedIn u=true:=by
  cases v with
  |non=>cases (show u=Value.none from r);rfl
  |bl b=>cases (show u=Value.bool b from r);rfl
  |int i=>obtain⟨t,e⟩:=(show ∃ t,u=Value.int i t from r);cases e;rfl
  |str x=>obtain⟨t,e⟩:=(show ∃ t,u=Value.str x t from r);cases e;rfl
  |byt b=>obtain⟨t,e⟩:=(show ∃ t,u=Value.bytes b t from r);cases e;rfl
  |flt b=>obtain⟨t,e⟩:=(show ∃ t,u=Value.float b t from r);cases e;rfl
  |ref a=>cases (show u=Value.ref a from r);rfl
  |ty n=>cases (show u=Value.type n from r);rfl
variable{fs:Li (Str×V)}
section
variable{fs':Li (Str×V)}
theorem ins_get(hok:HOk P w H h)(e:H a=some (.ins C dx fs)):∃ mA,ObjM h a dx C mA/\(∀ f,RelO (fs.lookup f) (mA f))/\PySem.Within mA (fs.map (·.1))/\fs.length<=1000/\H dx=some (.own a):=by
  obtain⟨d,z,c,b,mA,n,r,q⟩:=(show ObjOk P w H h a (.ins C dx fs) from hok a _ e);exact⟨mA,⟨b,n,c⟩,r,q,z,d⟩
end
structure Cls(K:fG7)(C:Addr):Prop where
  pg:W.plainGet K C Str.empty=true
  hd:W.hasDictIn K C=true
  po:W.plainOver K C=true
  sa:W.findIn K (.ref C) "__setattr__"=some (some (.builtin "object.__setattr__"))
theorem Cls.get{C:Ad}(c:Cls K C)(f:Str):W.plainGet K C f=true:=c.pg
def NoAttr(K:fG7)(C:Ad)(f:Str):Prop:=W.findIn K (.ref C) f=some none
theorem NoAttr.taker{C:Ad}{f:Str}(n:NoAttr K C f):W.takerIn K C f=some none:=by
  unfold W.takerIn;rw[show W.findIn K (.ref C) f=some none from n];rfl
structure Con(K:fG7)(C:Addr)(f:Str)(v:V)(u:Value):Prop where
  at_:W.findIn K (.ref C) f=some (some u)
  rel:RelV v u
  get:W.specialIn K u "__get__"=some none
  cp:W.copiedNames.contains f=false
structure Meth(K:fG7)(C:Addr)(m:Str)(f:Addr):Prop where
  at_:W.findIn K (.ref C) m=some (some (.ref f))
  fn:W.isFn K (.ref f)=true
  kp:W.keepIn K (.ref f)=true
section
variable{f:Str}{v:V}
theorem getattr_ok{b:Bool}(I:Inv X pQ O H s)(e:H a=some (.ins C dx fs))(c:Cls X.K C)(n:NoAttr X.K C f)(l:fs.lookup f=some v)(h:∀ u s',Inv X pQ O H s'->RelV v u->Q u s'):wpAny (model X.prog X.w) A (getAttr (.ref a) f b) Q E s:=by
  obtain⟨mA,i,r,_,_,_⟩:=ins_get I.hok e;obtain⟨u,g,d⟩:=RelO.some_of (v:=v) (o:=mA f) (by rw[<-l];exact r f)
  exact get_map I.kIn i (c.get f) c.hd n g (handed_of d) (h u _ (I.tok _) d)
theorem getmeth_ok{m:Str}{g:Ad}{Q:vL×Li vL->sH7->Prop}(I:Inv X pQ O H s)(e:H a=some (.ins C dx fs))(c:Cls X.K C)(k:Meth X.K C m g)(l:fs.lookup m=none)(h:Q (.ref g,[.ref a]) s):wpAny (model X.prog X.w) A (getMethod (.ref a) m pl) Q E s:=by
  obtain⟨mA,d,r,_,_,_⟩:=ins_get I.hok e;have b:mA m=none:=RelO.none_of (by rw[<-l];exact r m)
  exact get_meth I.kIn d (c.get m) k.at_ k.fn b h
theorem setattr_ok{u:vL}{Q:Unit->sH7->Prop}(I:Inv X pQ O H s)(e:H a=some (.ins C dx fs))(c:Cls X.K C)(n:NoAttr X.K C f)(hl:fs.length < 1000)(m:RelV y u)(h:∀ s',Inv X pQ O (upd H a (.ins C dx (putF f y fs))) s'->Q () s'):wpAny (model X.prog X.w) A (setAttr (.ref a) f u) Q E s:=by
  obtain⟨mA,i,r,j,_,k⟩:=ins_get I.hok e;have p:(fs.map (·.1)).length<=sizeLine:=by rw[aD,sizeLine_eq];omega
  refine set_map I.kIn i c.sa c.po n.taker c.hd j p λD d l=>h _ ?_
  have v:∃ o,D.get? dx=some o:=let ⟨o,_,_,e',_⟩:=d.ns;⟨o,e'⟩
  refine I.write (x:=a) (e:=dx) (by rw[e];exact True.intro) (.inr k) (λb q B z=>(l.2 b B).trans z) v ?_
  refine⟨by rw[upd_ne i.ne];exact k,?_,i.ne,d.obj,_,d.ns,λg=>?_,λg t=>?_⟩
  . have:=length_putF f y fs;omega
  . show RelO ((putF f y fs).lookup g) (if g=f then some u else mA g)
    rw[lookup_putF];by_cases q:g=f
    . rw[if_pos q,if_pos q];exact m
    . rw[if_neg q,if_neg q];exact r g
  . by_cases q:g=f
    . rw[q];exact(keys_putF f y fs).1
    . refine(keys_putF f y fs).2 g (j g λz=>t ?_)
      show(if g=f then some u else mA g)=none
      rw[if_neg q];exact z
theorem Inv.made(I:Inv X pQ O H s):Inv X pQ O (upd (upd H s.heap.objs.size (.own (s.heap.objs.size+1))) (s.heap.objs.size+1) (.ins C s.heap.objs.size []))
    { s with heap:=(s.heap.push W.emptyDict).push (W.instObj C s.heap.objs.size) }:=by
  have d:(s.heap.push W.emptyDict).get? s.heap.objs.size=some W.emptyDict:=aW s.heap rfl;have i:((s.heap.push W.emptyDict).push (W.instObj C s.heap.objs.size)).get? (s.heap.objs.size+1)=some (W.instObj C s.heap.objs.size):=by
    have:=aW (s.heap.push W.emptyDict) (o:=W.instObj C s.heap.objs.size) rfl
    rwa [Heap.size_push]at this
  have h:(s.heap.push W.emptyDict).Ns s.heap.objs.size (λ_=>none):=⟨W.emptyDict,#[],_,d,rfl,(λe g=>absurd g (by simp)),λ_=>rfl⟩
  have j:=I.laid (a:=s.heap.objs.size) (o:=.own (s.heap.objs.size+1)) (h':=s.heap.push W.emptyDict) (t':=s.toks) (λb u q=>aQ _ q) (aF _) ⟨_,d⟩
  refine j.laid (a:=s.heap.objs.size+1) (o:=.ins C s.heap.objs.size []) (t':=s.toks) (λb u q=>aQ _ q) (cT (Heap.size_push _ _)) ?_
  have c:s.heap.objs.size≠s.heap.objs.size+1:=bA (bN _);refine⟨by rw[upd_ne c,upd_same],aV _,c,i,λ_=>none,(Heap.Ns1.of_empty h).at λo q=>aQ _ q,λ_=>True.intro,λy f=>absurd rfl f⟩
theorem attr_of{prog:Program}{env:Env}{e:Expr}{b:Pos}(c:attributeBase e f env (eval e env)=eval e env)(h:wpAny (model prog w) A (eval e env) (λo a=>wpAny (model prog w) A (getAttr o f true) Q E a) E s):wpAny (model prog w) A (eval (.Attribute e f b) env) Q E s:=
  Attribute_any_ h (by rw[arm_eval_Attribute,c])
end
def tFld(K:fG7)(c:TE)(f:Str):TE:=λO H Q=>c O H λx b=>∃ a C d fs v,x=.ref a/\b a=some (.ins C d fs)/\Cls K C/\NoAttr K C f/\fs.lookup f=some v/\Q v b
def sFld(K:fG7)(e d:TE)(f:Str):TS:=λD O H=>d O H λy g=>e O g λx c=>∃ a C b fs,x=.ref a/\c a=some (.ins C b fs)/\Cls K C/\NoAttr K C f/\fs.length < 1000 /\
  D.nx O (upd c a (.ins C b (putF f y fs)))
variable{o:Expr}
section
variable{value:Expr}{f:Str}{pos' tpos:Pos}{tv:TE}
theorem pe_fld(g:PE X e ta)(i:attributeBase e f X.env (eval e X.env)=eval e X.env):PE X (.Attribute e f pos) (tFld X.K ta f):=by
  intro pQ s O H Q I h;refine attr_of i (thn (g pQ s O H _ I h) λu t ⟨x,o,m,b,a,C,w,fs,v,ex,j,c,n,l,q⟩=>?_)
  subst ex;obtain rfl:u=Value.ref a:=b;exact getattr_ok m j c n l λp r k d=>⟨v,o,k,d,q⟩
theorem ps_fld(m:PE X o ta)(j:PE X value tv)(k:swapsWith value (some (.Attribute o f pos')) pos.line X.env=pure false):PS X (.Assign [.Attribute o f pos'] value pos) (sFld X.K ta tv f):=by
  intro pQ s O H D I h;refine plainObj_wpAny_Assign_Attribute (thn (j pQ s O H _ I h) λu b ⟨y,w,v,d,q⟩=>thn (m pQ b O w _ v q) λi A ⟨x,E,t,e,a,C,B,fs,ex,p,c,n,l,g⟩=>?_) k
  subst ex;obtain rfl:i=Value.ref a:=e;exact setattr_ok t p c n l d λz r=>⟨O,_,r,g⟩
end
variable{Q:vL->sH7->Prop}
section
variable{c:vL}{b:Bool}
inductive TyOf(K:fG7)(H:Hp):V->Value->Prop where
  |non:TyOf K H .non (.type "NoneType")
  |bl (x:Bool):TyOf K H (.bl x) (.type "bool")
  |int (i:Int):TyOf K H (.int i) (.type "int")
  |str (x:Str):TyOf K H (.str x) (.type "str")
  |flt (x:UInt64):TyOf K H (.flt x) (.type "float")
  |lst {a:Addr}{xs:List V} (e:H a=some (.lst xs)):TyOf K H (.ref a) (.type "list")
  |frz {a:Addr}{o:Obj}{xs:List V} (e:H a=some (.frz o (.lst xs))):TyOf K H (.ref a) (.type "list")
  |tup {a:Addr}{xs:List V} (e:H a=some (.tup xs)):TyOf K H (.ref a) (.type "tuple")
  |dK {a:Addr}{kvs:List (Key×V)} (e:H a=some (.dK kvs)):TyOf K H (.ref a) (.type "dict")
  |dT {a:Addr}{kvs:List (List Key×V)} (e:H a=some (.dT kvs)):TyOf K H (.ref a) (.type "dict")
  |ins {a C dx:Addr}{fs:List (Str×V)} (e:H a=some (.ins C dx fs)) (cl:Cls K C) (ha:W.findIn K (.ref C) "__class__"=some (some (.builtin "object.__class__")))
      (hn:W.specialIn K (.builtin "object.__class__") "__get__"=some (some (.builtin "getset_descriptor.__get__"))) (htk:W.takesIn K (.builtin "object.__class__")=some true)
      (hm:W.mroIn K C (.type "object")=some true):TyOf K H (.ref a) (.ref C)
theorem isinst_ok{x:V}{u t:vL}(I:Inv X pQ O H s)(d:RelV x u)(ty:TyOf X.K H x t)(e:W.kitOne X.K t c=some b)(h:∀ r,Q (.bool b) { s with toks:=r }) :
    wpAny (model X.prog X.w) A (call (.builtin "isinstance") [u,c]) Q E s:=by
  cases ty with
  |non=>cases (show u=Value.none from d);exact W.kia_one W.kitx_none I.kIn True.intro e (λz=>nomatch z) h
  |bl y=>cases (show u=Value.bool y from d);exact W.kia_one W.kitx_bool I.kIn True.intro e (λz=>nomatch z) h
  |int i=>obtain⟨t,q⟩:=(show ∃ t,u=Value.int i t from d);cases q;exact W.kia_one W.kitx_int I.kIn True.intro e (λz=>nomatch z) h
  |str y=>obtain⟨t,q⟩:=(show ∃ t,u=Value.str y t from d);cases q;exact W.kia_one W.kitx_str I.kIn True.intro e (λz=>nomatch z) h
  |flt y=>obtain⟨t,q⟩:=(show ∃ t,u=Value.float y t from d);cases q;exact W.kia_one W.kitx_float I.kIn True.intro e (λz=>nomatch z) h
  |@lst a xs f=>
    cases (show u=Value.ref a from d)
    obtain⟨_,_,n,_,g⟩:=(show ObjOk X.prog X.w H s.heap a (.lst xs) from I.hok a _ f);exact W.kia_one W.kitx_list I.kIn ⟨_,g,rfl⟩ e (λz=>nomatch z) h
  |@frz a v xs f=>
    cases (show u=Value.ref a from d)
    obtain⟨_,_,_,n,_,g⟩:=(show ObjOk X.prog X.w H s.heap a (.frz v (.lst xs)) from I.hok a _ f);exact W.kia_one W.kitx_list I.kIn ⟨_,g,rfl⟩ e (λz=>nomatch z) h
  |@tup a xs f=>
    cases (show u=Value.ref a from d)
    obtain⟨_,_,_,p⟩:=(show ObjOk X.prog X.w H s.heap a (.tup xs) from I.hok a _ f);obtain⟨o,g,k,_⟩:=p;exact W.kia_one W.kitx_tuple I.kIn ⟨o,g,k⟩ e (λz=>nomatch z) h
  |@dK a j f=>
    cases (show u=Value.ref a from d)
    obtain⟨_,_,M,_,p⟩:=(show ObjOk X.prog X.w H s.heap a (.dK j) from I.hok a _ f);obtain⟨o,es,G,g,k,_⟩:=p;exact W.kia_one W.kitx_dict I.kIn ⟨o,g,k.1⟩ e (λz=>nomatch z) h
  |@dT a j f=>
    cases (show u=Value.ref a from d)
    obtain⟨_,_,xs,_,o,es,G,g,k,_⟩:=(show ObjOk X.prog X.w H s.heap a (.dT j) from I.hok a _ f);exact W.kia_one W.kitx_dict I.kIn ⟨o,g,k.1⟩ e (λz=>nomatch z) h
  |@ins a C P fs f m F B l D=>
    cases (show u=Value.ref a from d)
    obtain⟨mA,L,_⟩:=ins_get I.hok f;obtain⟨N,J,_⟩:=L.look;exact W.kia_one (W.kitx_own (m.get _) m.hd F B l D) I.kIn J e (λz=>nomatch z) h
end
structure Room(k:Nat)(A:Around):Prop where
  hd:A.handled=none
  dp:A.depth+3 * k+5 < recursionLimit
  un:A.units+16 * k+200 < cLine
variable{k:Nat}
theorem Room.mono{j:Nat}(r:Room k A)(h:j<=k):Room j A:=⟨r.hd,by have:=r.dp;omega,by have:=r.un;omega⟩
theorem Room.deeper(r:Room (k+1) A)(env:Env):Room k (A.deeper env):=
  ⟨r.hd,by have:=r.dp;show A.depth+1+3 * k+5 < _;omega,by have:=r.un;show A.units+3+16 * k+200 < _;omega⟩
theorem make_depth{C:Ad}:(A.under (.builtin "type.__call__" ⟨.ref C :: us,kw⟩)).depth=A.depth+1:=by
  first|rfl|simp[Around.under,Code.weight,Code.isCreation,Code.isGuard,Code.isCaller,Code.frames,Code.isFrame,guardIds]
theorem make_units{C:Ad}:(A.under (.builtin "type.__call__" ⟨.ref C :: us,kw⟩)).units=A.units+1:=by
  first|rfl|simp[Around.under,Code.cUnits,Code.frames,Code.isFrame]
theorem Room.make(r:Room (k+1) A)(C:Ad)(us:Li vL)(kw:Li (Str×vL)):Room k (A.under (.builtin "type.__call__" ⟨.ref C :: us,kw⟩)):=
  ⟨r.hd,by have:=r.dp;rw[make_depth];omega,by have:=r.un;rw[make_units];omega⟩
theorem Room.depth(r:Room k A):A.depth < recursionLimit:=by have:=r.dp;omega
theorem Room.units(r:Room k A):A.units+64 < cLine:=by have:=r.un;omega
def tNil:TA:=λ_ H Q=>Q [] H
def tCons(b:TE)(a:TA):TA:=λO H Q=>b O H λx d=>a O d λxs c=>Q (x :: xs) c
variable{es:Li Expr}{t:TA}
theorem pa_nil:PA X [] tNil:=λ_ _ _ _ H Q I h=>Calls.spliced_nil ⟨[],H,I,.nil,h⟩
theorem pa_cons(j:PE X e te)(i:PA X es t)(g:starEach (e :: es) X.env=(false,eval e X.env) :: starEach es X.env:=by rfl):PA X (e :: es) (tCons te t):=by
  intro pos pQ s O H Q I h;rw[g];show wpAny _ _ (spliced ((false,eval e X.env) :: backTo pos (starEach es X.env))) _ _ s;refine Calls.spliced_cons (thn (j pQ s O H _ I h) λu a ⟨x,n,l,c,f⟩=>?_)
  exact thn (i pos pQ a O n _ l f) λus o ⟨xs,m,k,b,d⟩=>⟨x :: xs,m,k,.cons c b,d⟩
def tTup(t:TA):TE:=λO H Q=>t O H λxs a=>xs.length<=sizeLine/\∀ p,a p=none->Q (.ref p) (upd a p (.tup xs))
def tLst(t:TA):TE:=λO H Q=>t O H λxs a=>xs.length<=sizeLine/\∀ p,a p=none->Q (.ref p) (upd a p (.lst xs))
theorem pe_tup{x1}(h:PA X es t):PE X (.Tuple es x1 pos) (tTup t):=by
  intro pQ s O H Q I f;refine wpAny_Tuple_spliced (thn (h pos pQ s O H _ I f) λus a ⟨xs,d,c,r,z,q⟩=>⟨by rw[<-r.length];exact z,?_⟩)
  have g:d a.heap.objs.size=none:=c.hok.fresh (aF _);refine⟨.ref a.heap.objs.size,upd d a.heap.objs.size (.tup xs),c.laid (t':=a.toks) (λb u e=>aQ _ e) (aF _) ?_,rfl,q _ g⟩
  exact⟨z,us,r,⟨_,aW _ rfl,rfl,_,rfl⟩⟩
theorem pe_lst(h:PA X es t):PE X (.List es pos) (tLst t):=by
  intro pQ s O H Q I f;refine wpAny_List_spliced (thn (h pos pQ s O H _ I f) λus a ⟨xs,d,c,r,z,q⟩=>⟨by rw[<-r.length];exact z,?_⟩)
  have g:d a.heap.objs.size=none:=c.hok.fresh (aF _);refine⟨.ref a.heap.objs.size,upd d a.heap.objs.size (.lst xs),c.laid (t':=a.toks) (λb u e=>aQ _ e) (aF _) ?_,rfl,q _ g⟩
  exact⟨z,us,0,r,aW _ rfl⟩
abbrev Sp:=Li V->Hp->VK->XK->Prop
abbrev CXT:=Li Env->Hp->sH7->XK->vL->sH7->Prop
structure Env0(P:Program)(w:World)(K:fG7)(mg:Str->Option Value)(base:Heap)(A:Around)(outer:List Env)(s:Shared)(H:Hp):Prop where
  frames:A.frames=some outer
  mod:Mod K mg base
  bs:∀ b o,base.get? b=some o->s.heap.get? b=some o/\H b=none
  bsz:base.objs.size<=s.heap.objs.size
  funs:s.heap.FunFrames base outer
  frf:∀ b∈frs outer,H b=none
  hok:HOk P w H s.heap
  bare:AllBare s.gens
def CE(outer:Li Env)(P:Program)(w:World)(H:Hp)(s:sH7)(Q:VK)(u:vL)(s':sH7):Prop:=
  ∃ v a,s'.os=s.os/\AllBare s'.gens/\Un (frs outer) [] H a s.heap s'.heap/\HOk P w a s'.heap/\RelV v u/\Q v a
def CR(a:CXT)(outer:Li Env)(P:Program)(w:World)(H:Hp)(s:sH7)(Q:VK)(E:XK)(r:Result)(s':sH7):Prop:=
  match r with
  |.ok (.ret u)=>CE outer P w H s Q u s'
  |.ok _=>False
  |.error e=>a outer H s E e s'
structure FnOk(P:Program)(w:World)(K:fG7)(mg:Str->Option Value)(base:Heap)(CX:CXT)(k:Nat)(f:Addr)(fd:FuncData)(ps:List Str)(sp:Sp):Prop where
  len:∀ vs H Q E,sp vs H Q E->vs.length=ps.length
  run:∀ (A:Around) (outer:List Env) (s:Shared) (H:Hp) (args:Args) (us:List Value) (vs:List V) (Q:VK) (E:XK),Room k A->Env0 P w K mg base A outer s H->BindsTo s fd args (ps.zip us)->Vals vs us->sp vs H Q E->
    codeAny (model P w) A (.call (.ref f) args) (CR CX outer P w H s Q E) s
variable{mg:Str->Ot vL}{base:Heap}{outer:Li Env}
theorem Env0.make{P:Program}(e:Env0 P w K mg base A outer s H)(C:Ad)(us:Li vL)(kw:Li (Str×vL)) :
    Env0 P w K mg base (A.under (.builtin "type.__call__" ⟨.ref C :: us,kw⟩)) outer s H:=⟨by first|exact e.frames | (simpa[Around.under,Code.envs,Code.isFrame,pushEnvs] using e.frames),e.mod,e.bs,e.bsz,e.funs,e.frf,e.hok,e.bare⟩
variable{s':sH7}
theorem Inv.env0(I:Inv X pQ O H s):Env0 X.prog X.w X.K X.mg X.base X.A X.stack s H:=
  ⟨I.ok.frames,I.ok.mod,I.bs,aK I.ok.bsz I.sz,I.stack,I.stkFree,I.hok,I.bare⟩
theorem Inv.after{Q:VK}{u:vL}(I:Inv X pQ O H s)(h:CE X.stack X.prog X.w H s Q u s'):EP X pQ O Q u s':=by
  obtain⟨v,j,f,a,un,e,r,q⟩:=h;obtain⟨i,g,d,t,c⟩:=s';obtain rfl:c=s.os:=f;exact⟨v,j,I.call (h':=i) (g':=g) (d':=d) (t':=t) (ch:=[]) un e a (λb z=>absurd z (by simp)),r,q⟩
def tCall(c:Sp)(a:Li V)(E:XK)(t:TA):TE:=λO H Q=>t O H λb d=>c (b++a) d Q E
def Binds(K:fG7)(fd:FuncData)(a:Li Str)(b:Li vL):Prop:=
  ∀ (s:sH7) (us:Li vL),K.In s.heap->(us++b).length=a.length->BindsTo s fd ⟨us,[]⟩ (a.zip (us++b))
variable{ps:Li Str}
theorem Binds.all{fd:FuncData}(h:∀ us:Li vL,us.length=ps.length->bindArgs fd ⟨us,[]⟩=pure (ps.zip us)):Binds K fd ps []:=λs us _ a=>by
  rw[bB]at a ⊢;exact .of_eq (h us a)
def Passes(a:CXT)(X:Cx)(E:XK):Prop:=∀ (pQ:Li (Ad×Obj)) (O:St) (H:Hp) (s:sH7) (e:vL) (s':sH7),Inv X pQ O H s->a X.stack H s E e s'->X.xe e s'
variable{vs:Li V}
variable{CX:CXT}{k:Nat}{fd:FuncData}{ps:Li Str}{sp:Sp}{m:Str}{p apos:Pos}
section
variable{dvs:Li V}{ds:Li vL}{E:XK}{x:Str}
theorem run_fn{O:St}{Q:VK}(F:FnOk X.prog X.w X.K X.mg X.base CX k f fd ps sp)(d:Room k X.A)(i:Binds X.K fd ps ds)(hd:Vals dvs ds)(c:Passes CX X E)(I:Inv X pQ O H s)(r:Vals vs us)(h:sp (vs++dvs) H Q E):wpAny (model X.prog X.w) X.A (call (.ref f) us) (EP X pQ O Q) X.xe s:=by
  have b:Vals (vs++dvs) (us++ds):=r.append hd;have g:(us++ds).length=ps.length:=by rw[<-b.length];exact F.len _ _ _ _ h
  refine wpAny_call (codeAny_mono (F.run X.A X.stack s H ⟨us,[]⟩ (us++ds) (vs++dvs) Q E d I.env0 (i s us I.kIn g) b h) λr s' a=>?_)
  cases r with
  |error e=>exact c pQ O H s e s' I a
  |ok fl=>
    cases fl with
    |ret u=>exact I.after a
    |next=>exact False.elim a
    |brk=>exact False.elim a
    |cont=>exact False.elim a
theorem pe_call(F:FnOk X.prog X.w X.K X.mg X.base CX k f fd ps sp)(g:Room k X.A)(j:Gl X x)(i:X.mg x=some (.ref f))(hk:W.keepIn X.K (.ref f)=true)(m:Binds X.K fd ps ds)(hd:Vals dvs ds)(d:Passes CX X E)(n:PA X (e :: es) t)(b:(x==("__debug__":Str))=false:=by decide)(l:starEach (e :: es) X.env=(false,eval e X.env) :: starEach es X.env:=by rfl)(a:(backTo pos (starEach es X.env)).any (·.1)=false:=by rfl) :
    PE X (.Call (.Name x p) (e :: es) [] pos) (tCall sp dvs E t):=by
  intro pQ s O H Q I h;refine wpAny_Call_Name_kw (ld_glob I j i ?_ b);refine W.callWith_K (h₀:=X.base) I.ok.mod.kin hk (thn (n pos pQ s O H _ I h) λus o ⟨vs,u,c,r,q⟩=>⟨c.kIn,?_⟩) l a
  exact run_fn F g m hd d c r q
theorem pe_call0(F:FnOk X.prog X.w X.K X.mg X.base CX k f fd ps sp)(c:Room k X.A)(e:Gl X x)(d:X.mg x=some (.ref f))(hk:W.keepIn X.K (.ref f)=true)(g:Binds X.K fd ps ds)(hd:Vals dvs ds)(b:Passes CX X E)(a:(x==("__debug__":Str))=false:=by decide):PE X (.Call (.Name x p) [] [] pos) (tCall sp dvs E tNil):=by
  intro pQ s O H Q I h;refine wpAny_Call_Name_kw (ld_glob I e d ?_ a);exact W.callWith_K0 I.kIn hk (run_fn (us:=[]) F c g hd b I .nil h)
structure Mk(K:fG7)(C f:Addr):Prop where
  makes:W.makesIn K C=true
  init:W.findIn K (.ref C) "__init__"=some (some (.ref f))
  fn:W.isFn K (.ref f)=true
  kp:W.keepIn K (.ref C)=true
theorem run_make{O:St}{Q:VK}(M:Mk X.K C f)(F:FnOk X.prog X.w X.K X.mg X.base CX k f fd ps sp)(m:Room (k+1) X.A)(p:Binds X.K fd ps ds)(hd:Vals dvs ds)(l:Passes CX X E)(I:Inv X pQ O H s)(r:Vals vs us)(h:∀ x b,H x=none->H b=none->b≠x->(∀ o,X.K.lookup x≠some o)->sp (.ref x :: (vs++dvs)) (upd (upd H b (.own x)) x (.ins C b [])) (λv t=>v=.non/\Q (.ref x) t) E) :
    wpAny (model X.prog X.w) X.A (call (.ref C) us) (EP X pQ O Q) X.xe s:=by
  have g:=h (s.heap.objs.size+1) s.heap.objs.size (I.hok.fresh (cH _)) (I.hok.fresh (aF _)) (bA (bN _)) (λo z=>absurd (aL (I.kIn _ o z)) (Nat.not_lt.mpr (cH _)))
  have c:=Inv.made (C:=C) I;have d:Vals (V.ref (s.heap.objs.size+1) :: (vs++dvs)) (Value.ref (s.heap.objs.size+1) :: (us++ds)):=.cons rfl (r.append hd);have n:(Value.ref (s.heap.objs.size+1) :: us++ds).length=ps.length:=by
    have e:=d.length;rw[F.len _ _ _ _ g]at e;exact e.symm
  refine wpAny_call (make_map (f:=f) I.kIn M.makes M.init (beq_iff_eq.mp M.fn) (codeAny_mono (F.run _ X.stack _ _ ⟨Value.ref (s.heap.objs.size+1) :: us,[]⟩ (Value.ref (s.heap.objs.size+1) :: (us++ds)) _ _ E (m.make C us [])
    (c.env0.make C us []) (p _ (Value.ref (s.heap.objs.size+1) :: us) c.kIn n) d g) λr s' a=>?_))
  cases r with
  |error e=>exact l pQ O _ _ e s' c a
  |ok fl=>
    cases fl with
    |ret u=>
      obtain⟨v,y,q,i,ev,j⟩:=c.after a;subst ev;exact⟨i,⟨V.ref (s.heap.objs.size+1),y,q,rfl,j⟩⟩
    |next=>exact False.elim a
    |brk=>exact False.elim a
    |cont=>exact False.elim a
end
section
variable{ks:Li Str}{E:XK}{x:Str}{kpos:Pos}{kws:Li Keyword}{tk:TA}{nm:Ot Str}
structure KBinds(K:fG7)(fd:FuncData)(ps ks:List Str)(g:List Value->List Value->List Value)(gV:List V->List V->List V):Prop where
  to:∀ (s:Shared) (us ws:List Value),K.In s.heap->(g us ws).length=ps.length->BindsTo s fd ⟨us,ks.zip ws⟩ (ps.zip (g us ws))
  rel:∀ {vs:List V}{us:List Value}{zs:List V}{ws:List Value},Vals vs us->Vals zs ws->Vals (gV vs zs) (g us ws)
variable{g:Li vL->Li vL->Li vL}{gV:Li V->Li V->Li V}
end
structure FnScope(N P:List Str)(sc:Scope):Prop where
  kind:sc.kind=.function
  co:sc.isCoroutine=false
  gen:sc.isGenerator=false
  nd:N.Nodup
  pre:N.take P.length=P
  par:∀ x∈P,sc.names.lookup x=some .local\/sc.names.lookup x=some .cell
  nofree:∀ y∈sc.names,y.2≠.free
theorem bindL_out{a:Str->Ot NameKind}{x:Str}:∀ {binds:Li (Str×vL)}{m:Str->Ot vL},(∀ v,(x,v)∉binds)->bindL a binds m x=m x
  |[],_,_=>rfl
  | (n,v) :: r,m,h=>by
    unfold bindL;rw[bindL_out λw b=>h w (lM7 _ b)]
    split
    . have:x≠n:=by rintro rfl;exact h v lQ7
      simp[this]
    . rfl
theorem bindC_out{a:Str->Ot NameKind}{x:Str}:∀ {binds:Li (Str×vL)}{m:Str->Ot vL},(∀ v,(x,v)∉binds)->bindC a binds m x=m x
  |[],_,_=>rfl
  | (n,v) :: r,m,h=>by
    unfold bindC;rw[bindC_out λw b=>h w (lM7 _ b)]
    split
    . rfl
    . have:x≠n:=by rintro rfl;exact h v lQ7
      simp[this]
theorem bindL_get{a:Str->Ot NameKind}{x:Str}{v:vL}:∀ {P:Li Str}{vs:Li vL}{i:Nat}{m:Str->Ot vL},P.Nodup->P[i]?=some x->vs[i]?=some v->a x=some .local->
    bindL a (P.zip vs) m x=some v
  |[],_,_,_,_,h,_,_=>by simp at h
  |_ :: _,[],_,_,_,_,h,_=>by simp at h
  |p :: P,w :: vs,0,m,d,c,b,e=>by
    simp at c b;subst c;subst b;show bindL a ((p,w) :: P.zip vs) m p=_;unfold bindL;rw[bindL_out λv f=>(bO.mp d).1 (List.of_mem_zip f).1,if_pos e]
    simp
  |p :: P,w :: vs,i+1,m,d,c,b,e=>by
    show bindL a ((p,w) :: P.zip vs) m x=_;unfold bindL;exact bindL_get (i:=i) (bO.mp d).2 (by simpa using c) (by simpa using b) e
theorem bindC_get{a:Str->Ot NameKind}{x:Str}{v:vL}:∀ {P:Li Str}{vs:Li vL}{i:Nat}{m:Str->Ot vL},P.Nodup->P[i]?=some x->vs[i]?=some v->a x≠some .local->
    bindC a (P.zip vs) m x=some v
  |[],_,_,_,_,h,_,_=>by simp at h
  |_ :: _,[],_,_,_,_,h,_=>by simp at h
  |p :: P,w :: vs,0,m,d,c,b,e=>by
    simp at c b;subst c;subst b;show bindC a ((p,w) :: P.zip vs) m p=_;unfold bindC;rw[bindC_out λv f=>(bO.mp d).1 (List.of_mem_zip f).1,if_neg e]
    simp
  |p :: P,w :: vs,i+1,m,d,c,b,e=>by
    show bindC a ((p,w) :: P.zip vs) m x=_;unfold bindC;exact bindC_get (i:=i) (bO.mp d).2 (by simpa using c) (by simpa using b) e
noncomputable def start(N:Li Str)(vs:Li V):St:=vs.map some++List.replicate (N.length - vs.length) none
noncomputable def cxOf(d:CXT)(P:Program)(w:World)(K:fG7)(mg:Str->Ot vL)(base:Heap)(N:Li Str)(a:Str)(scope:Scope)(f:Ad)(c:vL)(A:Around)(outer:Li Env)(s:sH7)(H:Hp)(E:XK):Cx where
  prog:=P
  w:=w
  K:=K
  mg:=mg
  base:=base
  A:=A.deeper (envOfC a scope s.heap.objs.size f c)
  N:=N
  s₀:=s
  H₀:=H
  env:=envOfC a scope s.heap.objs.size f c
  outer:=outer
  stack:=envOfC a scope s.heap.objs.size f c :: outer
  ex:=[]
  calm:=true
  fn:=λ_=>true
  pn:=[]
  xe:=λe s'=>wpAny (model P w) (A.deeper (envOfC a scope s.heap.objs.size f c)) (leaving (envOfC a scope s.heap.objs.size f c) e) (λ_ b=>d outer H s E e b) (λg b=>d outer H s E g b) s'
theorem cell_has{sc:Scope}{x:Str}(h:sc.names.lookup x=some .cell):∃ c,(cellsFrom n sc.names []).lookup x=some c:=by
  have q:=W.cellsFrom_some sc.names n [] (.inl h);exact Option.isSome_iff_exists.mp q
variable{CX:CXT}
theorem inv_start{P:Program}{d:Str}{scope:Scope}{f:Ad}{C:vL}{D:sH7}{E:XK}(S:FnScope N ps scope)(hd:A.handled=none)(j:Env0 P w K mg base A outer s H)(hl:vs.length=ps.length)(r:Vals vs us)(x:InCallC s s.heap.objs.size (bindL (envOfC d scope s.heap.objs.size f C).kindOf (ps.zip us) λ_=>none) (cellsFrom (s.heap.objs.size+1) scope.names []) (bindC (envOfC d scope s.heap.objs.size f C).kindOf (ps.zip us) λ_=>none) D) :
    Inv (cxOf CX P w K mg base N d scope f C A outer s H E) [] (start N vs) H D:=by
  have J:ps.length<=N.length:=by have:=congrArg List.length S.pre;rw[bS]at this;omega
  obtain⟨B,M,rfl,G⟩:=x.done;have l:∀ b:Ad,b∉(cxOf CX P w K mg base N d scope f C A outer s H E).ex:=λb z=>absurd (show b∈([]:Li Ad) from z) (by simp)
  refine⟨⟨j.mod,S.kind,rfl,rfl,aF _,λy z c B g=>?_,λy hy=>?_,λy c _ h=>?_,λ_=>hd,Around.frames_deeper j.frames,.inr ⟨rfl,rfl⟩,λb z=>absurd z (l b),j.bs,j.bsz,λb _ _=>l b,λb z=>absurd z (l b),j.funs,j.frf⟩,
    rfl,j.bare,Un.kept G,⟨_,x.toInCall.ns,λi y v B g O=>?_⟩,λy c h=>⟨_,x.cell y c h⟩,j.hok.fresh (aF _),λy c h=>?_,λp o=>absurd (show p∈([]:Li (Ad×Obj)) from o) (by simp),j.hok.kept G,?_⟩
  . exact name_of_addr x.apart (PySem.mem_of_lookup B) (PySem.mem_of_lookup g)
  . have hy:scope.names.lookup y=some .cell\/scope.names.lookup y=some .free:=hy
    rcases hy with hy|hy
    . exact cell_has hy
    . exact absurd rfl (S.nofree _ (PySem.mem_of_lookup hy))
  . exact Nat.le_of_lt (x.above y c (PySem.mem_of_lookup h))
  . have t:i < vs.length:=by
      unfold start at g;by_cases t:i < vs.length
      . exact t
      . rw[cI (by simpa using t)]at g
        rw[eC]at g;split at g<;>cases g
    have L:vs[i]?=some v:=by
      unfold start at g;rw[bT (by simpa using t),aS]at g
      cases e:vs[i]? with
      |none=>rw[e]at g;cases g
      |some a=>rw[e]at g;cases g;rfl
    obtain⟨u,F,I⟩:=r.get L;have o:ps[i]?=some y:=by
      rw[<-S.pre,List.getElem?_take_of_lt (by omega)];exact B
    have m:ps.Nodup:=by rw[<-S.pre];exact S.nd.sublist (List.take_sublist _ _)
    refine⟨u,I,?_⟩;rcases S.par y (aU o) with k|k
    . exact .inl ⟨k,bindL_get m o F k⟩
    . obtain⟨c,e⟩:=cell_has (n:=s.heap.objs.size+1) k
      refine .inr ⟨.inl k,c,e,?_⟩;have q:=x.cell y c e;rw[bindC_get m o F (by show scope.names.lookup y≠_;rw[k];decide)]at q
      exact q
  . exact j.hok.fresh (Nat.le_of_lt (x.above y c (PySem.mem_of_lookup h)))
  . unfold start
    show _=N.length;rw[aI,aD,cA];omega
theorem fn_of{P:Program}{f:Ad}{g a:Str}{d:Arguments}{body:Li Stmt}{scope:Scope}{U kV B T c ct oc:vL}{Y od:Ot Ad}{G:Array (Ot vL)}{D:Sp}(lk:K.lookup f=some ⟨oc,od,.func (W.fnOf g a d body scope U kV B T Y c ct),G⟩)(O:W.codeIn K c a=true)(S:FnScope N ps scope)(len:∀ vs H Q E,D vs H Q E->vs.length=ps.length)(j:∀ (A:Around) (outer:Li Env) (s:sH7) (H:Hp) (vs:Li V) (Q:VK) (E:XK),Room k (A.deeper (envOfC a scope s.heap.objs.size f c))->D vs H Q E->
      ∃ t,PSs (cxOf CX P w K mg base N a scope f c A outer s H E) body t/\t { nx:=λ_ h=>Q .non h,rt:=Q } (start N vs) H) :
    FnOk P w K mg base CX (k+1) f (W.fnOf g a d body scope U kV B T Y c ct) ps D:=by
  refine⟨len,λA outer s H X us vs Q E M z hb r m=>?_⟩
  have hl:=len _ _ _ _ m;have Z:K.In s.heap:=z.mod.kin.keeps λb o e=>(z.bs b o e).1
  have L:s.heap.NoLimit:=z.mod.nolimit.keeps λb o e=>(z.bs b o e).1
  have i:∀ y∈ps.zip us,scope.names.lookup y.1=some .local\/(scope.names.lookup y.1=some .cell/\((cellsFrom (s.heap.objs.size+1) scope.names []).lookup y.1).isSome=true):=λ⟨n,v⟩ hy=>by
    rcases S.par n (List.of_mem_zip hy).1 with q|q
    . exact .inl q
    . exact .inr ⟨q,W.cellsFrom_some _ _ _ (.inl q)⟩
  refine codeAny_call_function M.depth (Z _ _ lk) rfl S.co S.gen rfl (W.codeRec_of Z O) (hb _ _ _ _ ?_);refine wpAny_newFunctionEnv_cells S.kind i λenv he R x=>?_
  subst he;refine⟨L.keeps x.toInCall.keep,codeAny_func ?_⟩;obtain⟨t,ht,hq⟩:=j A outer s H vs Q E (M.deeper _) m;have I:Inv (cxOf CX P w K mg base N a scope f c A outer s H E) [] (start N vs) H R:=inv_start S M.hd z hl r x;refine bJ (ht [] R (start N vs) H _ I hq) (λfl s' l=>?_) λe s' l=>l
  have p:∀ {C:St}{h:Hp}{v:V}{u:vL},Inv (cxOf CX P w K mg base N a scope f c A outer s H E) [] C h s'->RelV v u->Q v h->CE outer P w H s Q u s':=
    λ{C h v u} J F q=>⟨v,h,J.os,J.bare,J.base,J.hok,F,q⟩
  cases fl with
  |ret u=>
    obtain⟨v,C,h,J,F,q⟩:=l;exact p J F q
  |next=>
    obtain⟨C,h,J,q⟩:=l;exact p (v:=V.non) (u:=Value.none) J rfl q
  |brk=>
    obtain⟨_,_,_,q⟩:=l;exact False.elim q
  |cont=>
    obtain⟨_,_,_,q⟩:=l;exact False.elim q
section
variable{x:Str}{id T:String}{r:Li V->Hp->VK->Prop}
def tCB(r:Li V->Hp->VK->Prop)(t:TA):TE:=λO H Q=>t O H λvs a=>r vs a Q
theorem pe_callB(m:CallR X (.builtin id) r)(k:Gl X x)(j:X.mg x=none)(g:bootBuiltins x=some (.builtin id))(n:PA X (e :: es) t)(i:x ≠ "__name__":=by decide)(b:(x==("__debug__":Str))=false:=by decide)(l:starEach (e :: es) X.env=(false,eval e X.env) :: starEach es X.env:=by rfl)(a:(backTo pos (starEach es X.env)).any (·.1)=false:=by rfl):PE X (.Call (.Name x p) (e :: es) [] pos) (tCB r t):=by
  intro pQ s O H Q I h;refine wpAny_Call_Name_kw (ld_blt I k j g ?_ i b);exact PyProof.Rows.callWith_builtin1 (thn (n pos pQ s O H _ I h) λus c ⟨vs,q,o,d,f⟩=>m pQ c O q vs us Q o d f) l a
theorem pe_callTy(m:CallR X (.type T) r)(k:Gl X x)(j:X.mg x=none)(g:bootBuiltins x=some (.type T))(n:PA X (e :: es) t)(i:x ≠ "__name__":=by decide)(b:(x==("__debug__":Str))=false:=by decide)(l:starEach (e :: es) X.env=(false,eval e X.env) :: starEach es X.env:=by rfl)(a:(backTo pos (starEach es X.env)).any (·.1)=false:=by rfl):PE X (.Call (.Name x p) (e :: es) [] pos) (tCB r t):=by
  intro pQ s O H Q I h;refine wpAny_Call_Name_kw (ld_blt I k j g ?_ i b);exact PyProof.Rows.callWith_type1 (thn (n pos pQ s O H _ I h) λus c ⟨vs,q,o,d,f⟩=>m pQ c O q vs us Q o d f) l a
end
end L2
namespace HT
open PySem PyProof.Rows
section
open PySem.SeqAt
open PySem.AutoSeq1 (wpAny_loadPart')
open PySem.MeetsSeq PySem.MeetsSeq2 PySem.MeetsSeq3
end
variable{Q:vL->sH7->Prop}{lo hi:Ot Int}
section
variable{prog:Program}{w:World}{A:Around}{E:vL->sH7->Prop}{s:sH7}
theorem cat_tup{t b:Ad}{d a:Li vL}(x:IsTup s.heap t d.toArray)(y:IsTup s.heap b a.toArray)(p:d≠[])(B:a=[]->Q (.ref t) s)(z:a≠[]->Q (.ref s.heap.objs.size) { s with heap:=s.heap.push { cls:=.type "tuple",data:=.seq (d++a).toArray } })(l:d.length+a.length<=sizeLine):wpAny (model prog w) A (binaryOp .Add (.ref t) (.ref b)) Q E s:=by
  obtain⟨⟨cls,u,data,sl⟩,k,r,n,q⟩:=id x;obtain⟨⟨v,i,m,f⟩,c,h,o,g⟩:=id y;simp only at r q h g;subst r q h g;have e:d.toArray++a.toArray=(d++a).toArray:=by simp
  by_cases j:a=[]
  . exact concat_meets ⟨_,k,rfl⟩ ⟨_,c,rfl⟩ noFill_tuple_add seq_tuple_add PySem.F.slot_tuple_add PySem.F.entry_tuple_add (PySem.F.args_tuple_add_2 _ _)
      (tuple_addW1 t b d.toArray a.toArray n o u i sl f (by simpa using p) (by simp[j])) ⟨k,c,B j⟩
  . refine concat_meets ⟨_,k,rfl⟩ ⟨_,c,rfl⟩ noFill_tuple_add seq_tuple_add PySem.F.slot_tuple_add PySem.F.entry_tuple_add (PySem.F.args_tuple_add_2 _ _)
      (tuple_addW2 t b d.toArray a.toArray n o u i sl f (by simpa using p) (by simpa using j) (by rw[aM,aM];exact l)) ⟨k,c,?_⟩
    rw[e];exact z j
noncomputable def sIx(n d:Nat):Ot Int->Nat
  |none=>d
  |some v=>if v < 0 then (v+(n:Int)).toNat else min v.toNat n
theorem sIx_le(n d:Nat)(hd:d<=n)(o:Ot Int):sIx n d o<=n:=by
  cases o with
  |none=>exact hd
  |some v=>
    show(if v < 0 then (v+(n:Int)).toNat else min v.toNat n)<=n
    by_cases a:v < 0
    . rw[if_pos a];omega
    . rw[if_neg a];exact Nat.min_le_right _ _
theorem clip_eq(v:Int)(n d:Nat):(if v < 0 then max (v+(n:Int)) 0 else min v (n:Int))=((sIx n d (some v):Nat):Int):=by
  show(if v < 0 then max (v+(n:Int)) 0 else min v (n:Int))=(((if v < 0 then (v+(n:Int)).toNat else min v.toNat n):Nat):Int)
  by_cases a:v < 0
  . simp only[if_pos a];omega
  . simp only[if_neg a];omega
theorem adjust_gen(lo hi:Ot Int)(n:Nat):Builtin.Slice.sliceAdjust lo hi 1 (n:Int)=(((sIx n 0 lo:Nat):Int),((sIx n n hi:Nat):Int)):=by
  have a:¬((1:Int) < 0):=by omega
  unfold Builtin.Slice.sliceAdjust;simp only[a,if_false];refine Prod.ext ?_ ?_
  . cases lo with
    |none=>rfl
    |some v=>exact clip_eq v n 0
  . cases hi with
    |none=>rfl
    |some v=>exact clip_eq v n n
theorem places_gen(i j:Nat):Builtin.Slice.slicePlaces (i:Int) (j:Int) 1=j - i:=by
  unfold Builtin.Slice.slicePlaces;have a:(1:Int) > 0:=by omega
  simp only[a,if_true,Int.ediv_one];split<;>omega
theorem slicePart_{v:vL}{o:Ot Int}{Q:Ot Int->sH7->Prop}(p:IsPart v o)(h:Q o s):wpAny (model prog w) A (Builtin.Slice.slicePartIndex v) Q E s:=by
  cases p with
  |none=>exact slicePart_none h
  |int i t=>exact slicePart_int h
theorem sliceApplied_gen{sl:Ad}{d c:vL}{n:Nat}{Q:Int×Int×Nat->sH7->Prop}(g:s.heap.IsSliceOf sl d c .none)(f:IsPart d lo)(e:IsPart c hi)(h:Q (((sIx n 0 lo:Nat):Int),1,sIx n n hi - sIx n 0 lo) s):wpAny (model prog w) A (Builtin.Slice.sliceApplied (.ref sl) (pure (n:Int))) Q E s:=by
  obtain⟨j,a,i,b⟩:=id g;unfold Builtin.Slice.sliceApplied Builtin.Slice.sliceFields;refine aA (aA (wpAny_field a b (x:=d) rfl (aA (wpAny_field a b (x:=c) rfl (aA (wpAny_field a b (x:=.none) rfl (aB ?_)))))));refine aA (slicePart_none ?_);show wpAny _ _ (if ((1:Int)==0)=true then _ else _) _ _ s
  rw[if_neg (by decide)]
  refine aA (slicePart_ f (aA (slicePart_ e (aA (aB ?_)))));show wpAny _ _ (match Builtin.Slice.sliceAdjust lo hi 1 (n:Int) with | (lo,hi)=>pure (lo,(1:Int),Builtin.Slice.slicePlaces lo hi 1)) _ _ s
  rw[adjust_gen lo hi n];show wpAny _ _ (pure (((sIx n 0 lo:Nat):Int),(1:Int),Builtin.Slice.slicePlaces ((sIx n 0 lo:Nat):Int) ((sIx n n hi:Nat):Int) 1)) _ _ s;rw[places_gen];exact aB h
theorem pick_gen(a:Array vL)(i k:Nat):((List.range k).filterMap λ(m:Nat)=>a[((i:Int)+(m:Int) * 1).toNat]?).toArray=((a.toList.drop i).take k).toArray:=by
  have e:(λ(m:Nat)=>a[((i:Int)+(m:Int) * 1).toNat]?)=λm=>a[i+m]?:=by
    funext m
    have:((i:Int)+(m:Int) * 1).toNat=i+m:=by omega
    rw[this]
  rw[e];have:=pick_run a i k;rw[List.filterMap_map]at this;have b:((λx=>a[x]?) ∘ λx=>i+x)=λm=>a[i+m]?:=rfl
  rw[b]at this;rw[this]
theorem getItem_tuple_cut{t sl:Ad}{a:Array vL}{j i:vL}(c:IsTup s.heap t a)(k:s.heap.IsSliceOf sl j i .none)(n:IsPart j lo)(l:IsPart i hi)(p:¬(sIx a.size 0 lo=0/\sIx a.size a.size hi=a.size))(h:Q (.ref s.heap.objs.size) { s with heap:=s.heap.push { cls:=.type "tuple",data:=.seq ((a.toList.drop (sIx a.size 0 lo)).take (sIx a.size a.size hi - sIx a.size 0 lo)).toArray } })(r:a.size<=sizeLine):wpAny (model prog w) A (getItem (.ref t) (.ref sl)) Q E s:=by
  have b:sizeOk (.seq ((a.toList.drop (sIx a.size 0 lo)).take (sIx a.size a.size hi - sIx a.size 0 lo)).toArray):=by
    show((a.toList.drop (sIx a.size 0 lo)).take (sIx a.size a.size hi - sIx a.size 0 lo)).toArray.size<=sizeLine;rw[aM,bS,dF,cF];omega
  have y:sIx a.size a.size hi<=a.size:=sIx_le _ _ (aF _) hi;obtain⟨o,d,f,u⟩:=id k;have g:s.TypeIs (.ref sl) "slice":=⟨o,d,f⟩;unfold getItem
  try with_reducible refine wpAny_holding ?_
  first|refine aA (aB ?_)|skip
  refine aA (wpAny_sequenceKey c.typeIs (by decide) ?_)
  refine aA (wpAny_callSpecial?_slot (name:=Str.ofString "__getitem__") c.typeIs PyProof.Rows.slot_tuple_getitem
    (wpAny_call_entry PyProof.Rows.slot_tuple_getitem c.typeIs entry_tuple_getitem ?_ (args_tuple_getitem _ _)))
  show wpAny _ _ (Builtin.Tuple.tupleItemsOf (.ref t) >>= _) _ _ s;refine aA (tupleItemsOf_ c ?_);refine aA (wpAny_typeOf g ?_);rw[if_pos (by decide)]
  refine aA (sliceApplied_gen k n l ?_);have e:¬((((sIx a.size 0 lo:Nat):Int)==0&&(1:Int)==1&&(sIx a.size a.size hi - sIx a.size 0 lo)==a.size)=true):=by
    intro q;rw[bA7,bA7]at q;have x:((sIx a.size 0 lo:Nat):Int)=0:=eq_of_beq q.1.1;have v:sIx a.size a.size hi - sIx a.size 0 lo=a.size:=eq_of_beq q.2;exact p ⟨by omega,by omega⟩
  show wpAny _ _ (if (((sIx a.size 0 lo:Nat):Int)==0&&(1:Int)==1&&(sIx a.size a.size hi - sIx a.size 0 lo)==a.size)=true then _ else _) _ _ s
  rw[if_neg e,pick_gen]
  first
    |exact aA (m:=Builtin.Tuple.tupleExact _) (wpAny_newObj_type (aB ⟨_,rfl,aB h⟩) b)
    |exact aA (m:=Builtin.Tuple.tupleExact _) (wpAny_newObj_type (aA (aB (aB ⟨_,rfl,aB h⟩))) b)
    |exact aA (aA (m:=Builtin.Tuple.tupleExact _) (wpAny_newObj_type (aB (aB ⟨_,rfl,aB h⟩)) b))
    |exact aA (aA (m:=Builtin.Tuple.tupleExact _) (wpAny_newObj_type (aB ⟨_,rfl,aB h⟩) b))
end
end HT
namespace L2
open PySem PySem.Spec PyProof.Rows
abbrev TO:=St->Hp->(Ot Int->Hp->Prop)->Prop
def PO(X:Cx)(e:Ot Expr)(t:TO):Prop:=
  ∀ (pQ:Li (Ad×Obj)) (s:sH7) (O:St) (H:Hp) (Q:Ot Int->Hp->Prop),Inv X pQ O H s->t O H Q->
    wpAny (model X.prog X.w) X.A (evalPart e X.env) (λu b=>∃ o a,Inv X pQ O a b/\IsPart u o/\Q o a) X.xe s
def tNoPart:TO:=λ_ H Q=>Q none H
def tPart(t:TE):TO:=λO H Q=>t O H λx a=>∃ i,x=.int i/\Q (some i) a
variable{xs:Li V}{us:Li vL}
variable{X:Cx}{e:Expr}{pos:Pos}
section
variable{te:TE}{lo hi:Ot Expr}{tl th:TO}{p2:Pos}
theorem po_none:PO X none tNoPart:=by
  intro a s O H Q I h;rw[evalPart_none];exact aB ⟨none,H,I,.none,h⟩
theorem po_some(h:PE X e te):PO X (some e) (tPart te):=by
  intro c s O H Q I d;rw[evalPart_some];refine thn (h c s O H _ I d) λu j ⟨x,g,f,a,b⟩=>?_
  obtain⟨i,rfl,q⟩:=b;obtain⟨t,rfl⟩:=a;exact⟨some i,g,f,.int i t,q⟩
def SlR(X:Cx)(r:V->Ot Int->Ot Int->Hp->VK->Prop):Prop:=
  ∀ (pQ:Li (Ad×Obj)) (s:sH7) (O:St) (H:Hp) (x:V) (v vl vu:vL) (lo hi:Ot Int) (sl:Ad) (Q:VK),Inv X pQ O H s->RelV x v->s.heap.IsSliceOf sl vl vu .none->IsPart vl lo->IsPart vu hi->r x lo hi H Q->
    ∃ T id,typeLookup (.type T) "__getitem__"=pure (some (.builtin id))/\s.TypeIs v T/\wpAny (model X.prog X.w) X.A (getItem v (.ref sl)) (EP X pQ O Q) X.xe s
def tSl(r:V->Ot Int->Ot Int->Hp->VK->Prop)(te:TE)(tl th:TO):TE:=λO H Q=>te O H λx c=>tl O c λl b=>th O b λu a=>r x l u a Q
theorem pe_slice{r:V->Ot Int->Ot Int->Hp->VK->Prop}(z:SlR X r)(C:PE X e te)(hl:PO X lo tl)(hu:PO X hi th):PE X (.Subscript e (.Slice lo hi none p2) pos) (tSl r te tl th):=by
  intro c s O H Q I h;refine Subscript_ (thn (C c s O H _ I h) λv j ⟨x,L,J,k,o⟩=>?_)
  refine wpAny_Slice (thn (hl c j O L _ J o) λf i ⟨l,K,G,t,n⟩=>thn (hu c i O K _ G n) λd a ⟨u,g,F,p,m⟩=>?_)
  rw[evalPart_none];refine aB ?_;have E:Inv X c O g { a with heap:=a.heap.push { cls:=.type "slice",data:=.fields #[f,d,.none] } }:=F.kept (t':=a.toks) λb M q=>aQ _ q
  obtain⟨T,id,D,y,B⟩:=z c { a with heap:=a.heap.push { cls:=.type "slice",data:=.fields #[f,d,.none] } } O g x v f d l u a.heap.objs.size Q E k (Heap.IsSliceOf.new ..) t p m
  show wpAny (model X.prog X.w) X.A (subscriptTail e (.Slice lo hi none p2) v (.ref a.heap.objs.size)) (EP X c O Q) X.xe { a with heap:=a.heap.push { cls:=.type "slice",data:=.fields #[f,d,.none] } }
  exact tail_any (ops:=[.ref a.heap.objs.size,v]) y D B (by with_unfolding_all rfl)
noncomputable def cutV(xs:Li V)(lo hi:Ot Int):Li V:=(xs.drop (HT.sIx xs.length 0 lo)).take (HT.sIx xs.length xs.length hi - HT.sIx xs.length 0 lo)
theorem cutV_length(xs:Li V)(lo hi:Ot Int):(cutV xs lo hi).length<=xs.length:=by
  unfold cutV;rw[bS,dF];omega
def rSlT(K:fG7):V->Ot Int->Ot Int->Hp->VK->Prop:=λx lo hi H Q=>∃ a xs,x=.ref a/\SqT K H a xs /\
  ¬(HT.sIx xs.length 0 lo=0/\HT.sIx xs.length xs.length hi=xs.length)/\∀ p,H p=none->Q (.ref p) (upd H p (.tup (cutV xs lo hi)))
theorem sl_tup:SlR X (rSlT X.K):=by
  intro p s O H x v n m lo hi sl Q I f l i g h;obtain⟨a,xs,rfl,j,k,q⟩:=h;cases f;obtain⟨its,r,e,d⟩:=I.tuple j;have c:its.toArray.size=xs.length:=by rw[aM];exact r.length.symm
  refine⟨"tuple",_,PyProof.Rows.slot_tuple_getitem.lookup,e.typeIs,?_⟩;refine HT.getItem_tuple_cut e l i g (by rw[c];exact k) ?_ (by rw[c];exact d)
  rw[c];refine⟨.ref s.heap.objs.size,_,I.laid (t':=s.toks) (o:=.tup (cutV xs lo hi)) (λb t q=>aQ _ q) (aF _) ?_,rfl,q _ (I.hok.fresh (aF _))⟩
  exact⟨aK (cutV_length xs lo hi) d,_,(r.drop (HT.sIx xs.length 0 lo)).take (HT.sIx xs.length xs.length hi - HT.sIx xs.length 0 lo),IsTup.new _ _⟩
def rCatT(K:fG7):R2:=λx y H Q=>∃ a b xs c,x=.ref a/\y=.ref b/\SqT K H a xs/\SqT K H b c/\xs≠[]/\xs.length+c.length<=sizeLine /\
  (c=[]->Q (.ref a) H)/\(c≠[]->∀ p,H p=none->Q (.ref p) (upd H p (.tup (xs++c))))
theorem Vals.nil_iff(r:Vals xs us):us=[]↔xs=[]:=by
  cases r with
  |nil=>simp
  |cons _ _=>simp
theorem op_catT:OpR X (binaryOp .Add) (rCatT X.K):=by
  intro t s O H x y v u Q I j i h;obtain⟨a,b,xs,g,rfl,rfl,r,p,n,f,l,k⟩:=h;cases j;cases i;obtain⟨its,d,m,_⟩:=I.tuple r;obtain⟨e,c,p2,_⟩:=I.tuple p;refine HT.cat_tup m p2 (λz=>n (d.nil_iff.mp z)) (λz=>⟨.ref a,H,I,rfl,l (c.nil_iff.mp z)⟩) (λz=>?_) (by rw[<-d.length,<-c.length];exact f)
  refine⟨.ref s.heap.objs.size,_,I.laid (t':=s.toks) (o:=.tup (xs++g)) (λb A q=>aQ _ q) (aF _) ?_,rfl,k (λw=>z (c.nil_iff.mpr w)) _ (I.hok.fresh (aF _))⟩
  exact⟨by rw[aI];exact f,_,d.append c,IsTup.new _ _⟩
end
noncomputable def ixN(n:Nat)(i:Int):Ot Nat:=if 0<=i then (if i < n then some i.toNat else none) else if -(n:Int)<=i then some (i+n).toNat else none
noncomputable def atI{a:Type}(xs:Li a)(i:Int):Ot a:=(ixN xs.length i).bind λj=>xs[j]?
variable{n:Nat}
theorem ixN_seq{i:Int}{j:Nat}(h:ixN n i=some j):seqIndex? i n=some j/\j < n/\-(n:Int)<=i/\i < n:=by
  unfold ixN at h;by_cases b:0<=i
  . rw[if_pos b]at h
    by_cases a:i < n
    . rw[if_pos a]at h
      have e:i.toNat=j:=Option.some.inj h;exact⟨by rw[seqIndex_of b a,e],by omega,by omega,a⟩
    . rw[if_neg a]at h;cases h
  . rw[if_neg b]at h
    by_cases a:-(n:Int)<=i
    . rw[if_pos a]at h
      have e:(i+n).toNat=j:=Option.some.inj h;exact⟨by rw[seqIndex_neg (by omega) a,e],by omega,a,by omega⟩
    . rw[if_neg a]at h;cases h
variable{α:Type}
theorem atI_get{xs:Li α}{i:Int}{v:α}(h:atI xs i=some v):∃ j,seqIndex? i xs.length=some j/\xs[j]?=some v/\j < xs.length/\-(xs.length:Int)<=i/\i < xs.length:=by
  unfold atI at h;cases e:ixN xs.length i with
  |none=>rw[e]at h;cases h
  |some j=>
    rw[e]at h;obtain⟨d,c,b,a⟩:=ixN_seq e;exact⟨j,d,h,c,b,a⟩
def PlainIx(b:Expr):Prop:=∀ o i,subscripted b false o i=operate [o,i] (getItem o i)
def IxR(X:Cx)(r:R2):Prop:=
  ∀ (value slice:Expr) (pQ:Li (Ad×Obj)) (s:sH7) (O:St) (H:Hp) (x y:V) (v u:vL) (Q:VK),Inv X pQ O H s->RelV x v->RelV y u->r x y H Q->
    subscripted slice false v u=operate [v,u] (getItem v u)->wpAny (model X.prog X.w) X.A (subscriptTail value slice v u) (EP X pQ O Q) X.xe s
def MtR(X:Cx)(id:String)(r:V->Li V->Hp->VK->Prop):Prop:=
  ∀ (pQ:Li (Ad×Obj)) (s:sH7) (O:St) (H:Hp) (x:V) (xs:Li V) (v:vL) (us:Li vL) (Q:VK),Inv X pQ O H s->RelV x v->Vals xs us->r x xs H Q->
    wpAny (model X.prog X.w) X.A (call (.builtin id) (v :: us)) (EP X pQ O Q) X.xe s
variable{pQ:Li (Ad×Obj)}{s:sH7}{its':Li vL}{y x:V}
section
variable{a b:Expr}{ta tb:TE}
theorem pe_ix{r:R2}(g:IxR X r)(j:PE X a ta)(i:PE X b tb)(f:PlainIx b):PE X (.Subscript a b pos) (tOp r ta tb):=by
  intro pQ s O H Q I h;exact Subscript_ (binT j i I h λv u c x y l k e d q=>g a b pQ c O l x y v u Q k e d q (f _ _))
def rIxL(K:fG7):R2:=λx y H Q=>∃ p xs i v,x=.ref p/\y=.int i/\SqL K H p xs/\atI xs i=some v/\Q v H
def rIxT(K:fG7):R2:=λx y H Q=>∃ p xs i v,x=.ref p/\y=.int i/\SqT K H p xs/\atI xs i=some v/\Q v H
def rIxS:R2:=λx y H Q=>∃ z i c,x=.str z/\y=.int i/\z.length<=sizeLine/\atI z.cps.toList i=some c/\Q (.str ⟨#[c]⟩) H
theorem ix_list:IxR X (rIxL X.K):=by
  intro c slice pQ s O H x y v u Q I o n h g;obtain⟨p,xs,i,z,rfl,rfl,A,C,q⟩:=h;cases o;obtain⟨t,rfl⟩:=n;obtain⟨its,r,e,G⟩:=I.list A;obtain⟨j,b,F,L,E,D⟩:=atI_get C;obtain⟨w,l,d⟩:=r.get F;have B:=r.length;have J:=line63;have a:EP X pQ O Q w s:=⟨z,H,I,d,q⟩;by_cases k:0<=i
  . have f:i.toNat=j:=by
      rw[seqIndex_of k D]at b;exact Option.some.inj b
    exact item_listR e.isList k (by omega) (by rw[f];simpa using l) a g
  . have f:(i+(its.toArray.size:Int)).toNat=j:=by
      rw[seqIndex_neg (by omega) E]at b
      rw[aM,<-B];exact Option.some.inj b
    exact subscriptTail_builtinR (x:=w) e.isList.typeIs slot_list_getitem.lookup
      (wpAny_getItem_list_neg (Q:=λr m=>r=w/\EP X pQ O Q r m) e.isList (by omega) (by rw[aM]<;>omega) (by omega) (by rw[f];simpa using l) ⟨rfl,a⟩) g
theorem ix_tup:IxR X (rIxT X.K):=by
  intro a slice pQ s O H x y v u Q I g f h k;obtain⟨p,xs,i,z,rfl,rfl,l,n,q⟩:=h;cases g;obtain⟨t,rfl⟩:=f;obtain⟨its,r,d,C⟩:=I.tuple l;obtain⟨j,A,o,G,F,E⟩:=atI_get n;obtain⟨w,B,b⟩:=r.get o;have m:=r.length;have D:=line63;have c:EP X pQ O Q w s:=⟨z,H,I,b,q⟩;exact subscriptTail_builtinR (x:=w) d.typeIs slot_tuple_getitem.lookup
    (getItem_tuple (j:=j) (Q:=λr e=>r=w/\EP X pQ O Q r e) d (by omega) (by omega) (by rw[aM,<-m];exact A) (by simpa using B) ⟨rfl,c⟩) k
theorem ix_str:IxR X rIxS:=by
  intro a slice pQ s O H x y v u Q I e d h f;obtain⟨z,i,c,rfl,rfl,w,k,q⟩:=h;obtain⟨t,rfl⟩:=e;obtain⟨r,rfl⟩:=d;obtain⟨j,b,n,B,m,l⟩:=atI_get k;have g:z.cps.toList.length=z.length:=by simp[Str.length]
  rw[g]at b m l;have A:=line63;exact tail_any (typeIs_str s z t) slot_str_getitem.lookup (getItem_str (c:=c) (by
    have p:decide (i < -(2 ^ 63:Int))=false:=aE (by omega)
    have o:decide (i>=2 ^ 63)=false:=aE (by omega)
    rw[p,o,dG]) (by rw[b];simpa using n) ⟨.str ⟨#[c]⟩,H,I.tok _,⟨_,rfl⟩,q⟩) f
theorem mapSeq_set(its:Li vL)(n j:Nat)(u:vL):Obj.mapSeq (·.setIfInBounds j u) { cls:=.type "list",data:=.seq its.toArray n }={ cls:=.type "list",data:=.seq (its.set j u).toArray n }:=by
  simp[Obj.mapSeq]
theorem Inv.lst{pQ:Li (Ad×Obj)}{O:St}{H:Hp}{s:sH7}{p:Ad}{xs:Li V}(I:Inv X pQ O H s)(h:H p=some (.lst xs)) :
    ∃ (its:Li vL) (n:Nat),Vals xs its/\s.heap.get? p=some { cls:=.type "list",data:=.seq its.toArray n }/\xs.length<=sizeLine:=by
  obtain⟨z,its,n,r,e⟩:=I.hok p _ h;exact⟨its,n,r,e,z⟩
theorem Inv.lstUpd{O:St}{H:Hp}{p:Ad}{a:Li V}{its:Li vL}{c:Nat}{f:Obj->Obj}(I:Inv X pQ O H s)(h:H p=some (.lst xs))(i:s.heap.get? p=some { cls:=.type "list",data:=.seq its.toArray n })(d:f { cls:=.type "list",data:=.seq its.toArray n }={ cls:=.type "list",data:=.seq its'.toArray c })(r:Vals a its')(g:a.length<=sizeLine)(t:Nat) :
    Inv X pQ O (upd H p (.lst a)) { s with heap:=s.heap.update p f,toks:=t }:=by
  have e:(s.heap.update p f).get? p=some { cls:=.type "list",data:=.seq its'.toArray c }:=by
    rw[Heap.get?_update_self f i (by rw[d]<;>rfl),d]
  refine I.write (x:=p) (e:=p) (by rw[h];trivial) (.inl rfl) (λb u j q=>(Heap.get?_update_other _ _ (Ne.symm j)).trans q) ⟨_,e⟩ ?_
  exact⟨g,its',c,r,e⟩
def rSetL:V->V->V->Hp->(Hp->Prop)->Prop:=λo i v H Q=>∃ p xs k j,o=.ref p/\i=.int k/\H p=some (.lst xs)/\ixN xs.length k=some j/\Q (upd H p (.lst (xs.set j v)))
theorem set_list:PSet X rSetL:=by
  intro pQ s O H o i v B C u Q I x y w h;obtain⟨p,xs,k,j,rfl,rfl,e,A,q⟩:=h;cases x;obtain⟨t,rfl⟩:=y;obtain⟨its,n,r,b,z⟩:=I.lst e;obtain⟨a,E,g,f⟩:=ixN_seq A;have c:=r.length;have D:=line63;have m:Inv X pQ O (upd H p (.lst (xs.set j v))) { s with heap:=s.heap.update p (Obj.mapSeq (·.setIfInBounds j u)) }:=
    I.lstUpd e b (mapSeq_set its n j u) (r.set w j) (by rw[bC];exact z) s.toks
  by_cases l:0<=k
  . have d:k.toNat=j:=by
      rw[seqIndex_of l f]at a;exact Option.some.inj a
    exact W.ki_setAt b l (by omega) (by rw[aM,<-c];exact f) (by rw[d];exact⟨_,m,q⟩)
  . have d:(k+(its.toArray.size:Int)).toNat=j:=by
      rw[seqIndex_neg (by omega) g]at a
      rw[aM,<-c];exact Option.some.inj a
    exact W.ki_setBack b (by omega) (by rw[aM,<-c];exact g) (by omega) (by rw[d];exact⟨_,m,q⟩)
theorem slice_bounds(a b:Ot Int)(n:Nat):(sliceBounds a b none n).1=((HT.sIx n 0 a:Nat):Int)/\(sliceBounds a b none n).2.1=((HT.sIx n n b:Nat):Int)/\(sliceBounds a b none n).2.2=1:=by
  refine⟨?_,?_,rfl⟩
  . cases a with
    |none=>simp[sliceBounds,HT.sIx]
    |some i=>
      simp only[sliceBounds,HT.sIx,Option.getD_none,show(1:Int) > 0 by decide,if_true]
      by_cases h:i < 0
      . simp only[h,if_true]<;>omega
      . simp only[h,if_false]<;>omega
  . cases b with
    |none=>simp[sliceBounds,HT.sIx]
    |some i=>
      simp only[sliceBounds,HT.sIx,Option.getD_none,show(1:Int) > 0 by decide,if_true]
      by_cases h:i < 0
      . simp only[h,if_true]<;>omega
      . simp only[h,if_false]<;>omega
theorem slicePick_cut(its:Li vL)(a b:Ot Int):slicePick its.toArray a b none=((its.drop (HT.sIx its.length 0 a)).take (HT.sIx its.length its.length b - HT.sIx its.length 0 a)).toArray:=by
  obtain⟨e,d,c⟩:=slice_bounds a b its.toArray.size;unfold slicePick;rw[e,d,c];simp only[sliceRange_one,pick_run,aM]<;>rfl
def rSlL(K:fG7):V->Ot Int->Ot Int->Hp->VK->Prop:=λx b c H Q=>∃ a xs,x=.ref a/\SqL K H a xs/\∀ p,H p=none->Q (.ref p) (upd H p (.lst (cutV xs b c)))
theorem sl_list:SlR X (rSlL X.K):=by
  intro pQ s O H x v p n d e sl Q I g m j i h;obtain⟨a,xs,rfl,l,q⟩:=h;cases g;obtain⟨its,r,f,k⟩:=I.list l;have c:=r.length;refine⟨"list",_,slot_list_getitem.lookup,f.isList.typeIs,?_⟩;refine wpAny_getItem_list_slice f.isList m j i .none (by simp) ?_ (by rw[aM]<;>omega)
  rw[slicePick_cut,<-c];refine⟨.ref s.heap.objs.size,_,I.laid (t':=s.toks) (o:=.lst (cutV xs d e)) (λb t q=>aQ _ q) (aF _) ?_,rfl,q _ (I.hok.fresh (aF _))⟩
  exact⟨aK (cutV_length xs d e) k,_,0,(r.drop (HT.sIx xs.length 0 d)).take (HT.sIx xs.length xs.length e - HT.sIx xs.length 0 d),aW _ rfl⟩
noncomputable def flatV:V->Bool
  |.non=>true
  |.bl _=>true
  |.int _=>true
  |.str _=>true
  |_=>false
noncomputable def eqV:V->V->Bool
  |.non,.non=>true
  |.bl a,.bl b=>a==b
  |.bl a,.int b=>(if a then 1 else 0)==b
  |.int a,.bl b=>a==(if b then 1 else 0)
  |.int a,.int b=>a==b
  |.str a,.str b=>a==b
  |_,_=>false
theorem eqAt_V{A:Around}{u v:vL}(e:RelV y u)(c:RelV x v)(g:flatV y=true)(f:flatV x=true):SeqAt.EqAt A s u v (eqV y x):=by
  cases y with
  |non=>
    cases e;cases x with
    |non=>cases c;exact SeqAt.EqAt.same _
    |bl b=>cases c;exact SeqAt.EqAt.none_bool b
    |int b=>obtain⟨t,rfl⟩:=c;exact SeqAt.EqAt.none_int b t
    |str b=>obtain⟨t,rfl⟩:=c;exact SeqAt.EqAt.none_str b t
    |_=>exact absurd (show false=true from f) bF7
  |bl a=>
    cases e;cases x with
    |non=>cases c;exact SeqAt.EqAt.bool_none a
    |bl b=>cases c;exact SeqAt.EqAt.bool_bool a b
    |int b=>obtain⟨t,rfl⟩:=c;exact SeqAt.EqAt.bool_int a b t
    |str b=>obtain⟨t,rfl⟩:=c;exact SeqAt.EqAt.bool_str a b t
    |_=>exact absurd (show false=true from f) bF7
  |int a=>
    obtain⟨d,rfl⟩:=e;cases x with
    |non=>cases c;exact SeqAt.EqAt.int_none a d
    |bl b=>cases c;exact SeqAt.EqAt.int_bool a d b
    |int b=>obtain⟨t,rfl⟩:=c;exact SeqAt.EqAt.int_int a d b t
    |str b=>obtain⟨t,rfl⟩:=c;exact SeqAt.EqAt.int_str a d b t
    |_=>exact absurd (show false=true from f) bF7
  |str a=>
    obtain⟨d,rfl⟩:=e;cases x with
    |non=>cases c;exact SeqAt.EqAt.str_none a d
    |bl b=>cases c;exact SeqAt.EqAt.str_bool a d b
    |int b=>obtain⟨t,rfl⟩:=c;exact SeqAt.EqAt.str_int a d b t
    |str b=>obtain⟨t,rfl⟩:=c;exact SeqAt.EqAt.str_str a d b t
    |_=>exact absurd (show false=true from f) bF7
  |_=>exact absurd (show false=true from g) bF7
noncomputable def eqU(x:V)(u:vL):Bool:=match u with
  |.none=>eqV .non x
  |.bool b=>eqV (.bl b) x
  |.int i _=>eqV (.int i) x
  |.str z _=>eqV (.str z) x
  |_=>false
theorem eqU_of{u:vL}(r:RelV y u)(f:flatV y=true):eqU x u=eqV y x:=by
  cases y with
  |non=>cases r;rfl
  |bl b=>cases r;rfl
  |int i=>obtain⟨t,rfl⟩:=r;rfl
  |str z=>obtain⟨t,rfl⟩:=r;rfl
  |_=>exact absurd (show false=true from f) bF7
theorem any_eqU{x:V}:∀ {xs:Li V}{us:Li vL},Vals xs us->xs.all flatV=true->us.any (eqU x)=xs.any λy=>eqV y x
  |_,_,.nil,_=>rfl
  |y :: xs,u :: us,.cons r t,f=>by
    rw[aY,bA7]at f;rw[cJ,cJ,eqU_of r f.1,any_eqU t f.2]
theorem mem_eqAt{A:Around}{s:sH7}{x:V}{v:vL}(a:RelV x v)(b:flatV x=true):∀ {xs:Li V}{us:Li vL},Vals xs us->xs.all flatV=true->∀ u∈us,SeqAt.EqAt A s u v (eqU x u)
  |_,_,.nil,_=>λu hu=>by cases hu
  |y :: xs,u :: us,.cons r t,f=>λc hu=>by
    rw[aY,bA7]at f;rcases aH.mp hu with rfl|hu
    . rw[eqU_of r f.1];exact eqAt_V r a f.1 b
    . exact mem_eqAt a b t f.2 c hu
noncomputable def inV(x:V)(xs:Li V):Bool:=xs.any λy=>eqV y x
def rIn(K:fG7)(neg:Bool):R2:=λx y H Q=>∃ p xs,y=.ref p/\(SqL K H p xs\/SqT K H p xs)/\flatV x=true/\xs.all flatV=true/\Q (.bl (if neg then !inV x xs else inV x xs)) H
theorem op_in_seq:OpR X (compareOp .In) (rIn X.K false):=by
  intro pQ s O H x y v u Q I c e h;obtain⟨p,xs,rfl,hq,d,fs,q⟩:=h;cases e;rcases hq with hq|hq
  . obtain⟨its,r,a,f⟩:=I.list hq
    refine SeqAt.in_listAt (eqU x) a.isList (λw b=>mem_eqAt c d r fs w (by simpa using b)) ⟨.bl _,H,I,rfl,?_⟩
    rw[show its.toArray.any (eqU x)=its.any (eqU x) by simp,any_eqU r fs]
    exact q
  . obtain⟨its,r,a,f⟩:=I.tuple hq
    refine SeqAt.in_tupleAt (eqU x) a (λw b=>mem_eqAt c d r fs w (by simpa using b)) ⟨.bl _,H,I,rfl,?_⟩
    rw[show its.toArray.any (eqU x)=its.any (eqU x) by simp,any_eqU r fs]
    exact q
theorem op_notIn_seq:OpR X (compareOp .NotIn) (rIn X.K true):=by
  intro pQ s O H x y v u Q I c e h;obtain⟨p,xs,rfl,hq,d,fs,q⟩:=h;cases e;rcases hq with hq|hq
  . obtain⟨its,r,a,f⟩:=I.list hq
    refine SeqAt.notIn_listAt (eqU x) a.isList (λw b=>mem_eqAt c d r fs w (by simpa using b)) ⟨.bl _,H,I,rfl,?_⟩
    rw[show its.toArray.any (eqU x)=its.any (eqU x) by simp,any_eqU r fs]
    exact q
  . obtain⟨its,r,a,f⟩:=I.tuple hq
    refine SeqAt.notIn_tupleAt (eqU x) a (λw b=>mem_eqAt c d r fs w (by simpa using b)) ⟨.bl _,H,I,rfl,?_⟩
    rw[show its.toArray.any (eqU x)=its.any (eqU x) by simp,any_eqU r fs]
    exact q
theorem op_notIn_str:OpR X (compareOp .NotIn) (λx y H Q=>∃ i j,x=.str i/\y=.str j/\Q (.bl (!(!(Builtin.Str.occurrences j i 0 j.length 1).isEmpty))) H):=by
  intro pQ s O H x y v u Q I b a h;obtain⟨i,j,rfl,rfl,q⟩:=h;obtain⟨t,rfl⟩:=b;obtain⟨c,rfl⟩:=a;exact notIn_str ⟨.bl _,H,I,rfl,q⟩
theorem call_len_seq:CallR X (.builtin "len") (λxs H Q=>∃ p b,xs=[.ref p]/\(SqL X.K H p b\/SqT X.K H p b)/\Q (.int b.length) H):=by
  intro pQ s O H xs us Q I r h;obtain⟨p,b,rfl,hq,q⟩:=h;obtain⟨u,rfl,e⟩:=vals1 r;cases e;have g:=line63;rcases hq with hq|hq
  . obtain⟨its,c,d,f⟩:=I.list hq
    have a:=c.length;exact Calls.call_len_list d.isList (by simp only[aM]<;>omega) ⟨.int b.length,H,I.tok _,⟨s.toks+1,by rw[aM,a]⟩,q⟩
  . obtain⟨its,c,d,f⟩:=I.tuple hq
    have a:=c.length;exact len_tuple d (by simp only[aM]<;>omega) ⟨.int b.length,H,I.tok _,⟨s.toks+1,by rw[aM,a]⟩,q⟩
theorem call_list_of:CallR X (.type "list") (λxs H Q=>∃ p c,xs=[.ref p]/\(SqL X.K H p c\/SqT X.K H p c)/\∀ l,H l=none->Q (.ref l) (upd H l (.lst c))):=by
  intro pQ s O H xs us Q I r h;obtain⟨p,c,rfl,hq,q⟩:=h;obtain⟨u,rfl,z⟩:=vals1 r;cases z;have k:∀ (its:Li vL),Vals c its->c.length<=sizeLine->∀ (a:Heap) (f:Nat),(∀ b y,s.heap.get? b=some y->a.get? b=some y)->
      a.get? s.heap.objs.size=some { cls:=.type "list",dict:=none,data:=.seq its.toArray f,slots:=#[] }->EP X pQ O Q (.ref s.heap.objs.size) { s with heap:=a }:=λits d i a f g e=>
    ⟨.ref s.heap.objs.size,_,I.laid (t':=s.toks) g (aF _) (show ObjOk X.prog X.w _ a _ (.lst c) from⟨i,its,f,d,e⟩),rfl,q _ (I.hok.fresh (aF _))⟩
  rcases hq with hq|hq
  . obtain⟨its,d,m,i⟩:=I.list hq
    have j:=d.length;obtain⟨o,t,x,n,v⟩:=m.isList;exact call_list_seq p (.inl rfl) t x v (λa f g e=>k its d i a f g e) (by simp only[aM]<;>omega)
  . obtain⟨its,d,m,i⟩:=I.tuple hq
    have j:=d.length;obtain⟨o,t,x,n,v⟩:=m;exact call_list_seq p (.inr rfl) t x v (λa f g e=>k its d i a f g e) (by simp only[aM]<;>omega)
theorem call_tuple_of:CallR X (.type "tuple") (λxs H Q=>∃ p a,xs=[.ref p]/\((SqL X.K H p a/\∀ l,H l=none->Q (.ref l) (upd H l (.tup a)))\/(SqT X.K H p a/\Q (.ref p) H))):=by
  intro pQ s O H xs us Q I r h;obtain⟨p,a,rfl,h⟩:=h;obtain⟨u,rfl,m⟩:=vals1 r;cases m;rcases h with⟨g,q⟩|⟨g,q⟩
  . obtain⟨its,d,f,i⟩:=I.list g
    have j:=d.length;refine call_tuple_list f.isList (λc n=>?_) (by simp only[aM]<;>omega)
    have k:Inv X pQ O H { s with heap:=c }:=I.kept (t':=s.toks) n
    have t:Inv X pQ O (upd H c.objs.size (.tup a)) { s with heap:=c.push { cls:=.type "tuple",data:=.seq its.toArray } }:=
      k.laid (t':=s.toks) (λb o e=>aQ _ e) (aF _) (show ObjOk X.prog X.w _ _ _ (.tup a) from⟨i,its,d,IsTup.new _ _⟩)
    exact⟨.ref c.objs.size,_,t,rfl,q _ (k.hok.fresh (aF _))⟩
  . obtain⟨its,d,f,i⟩:=I.tuple g
    exact call_tuple_same f ⟨.ref p,H,I,rfl,q⟩
def tyV(K:fG7)(T:String)(x:V)(H:Hp):Prop:=match x with
  |.str _=>T = "str"
  |.int _=>T = "int"
  |.ref p=>(T = "list"/\∃ xs,SqL K H p xs)\/(T = "tuple"/\∃ o,K.lookup p=some o/\o.cls=.type "tuple"/\o.dict=none) \/
      (T = "dict"/\((∃ a,H p=some (.dK a))\/∃ a,H p=some (.dN a)))\/(T = "set"/\∃ S n,H p=some (.set S n))
  |_=>False
theorem tyV_is{O:St}{H:Hp}{T:String}{v:vL}(I:Inv X pQ O H s)(r:RelV x v)(ty:tyV X.K T x H) :
    s.TypeIs v T/\∀ a,v=.ref a->∃ j,s.heap.get? a=some j/\j.dict=none:=by
  cases x with
  |str z=>
    obtain⟨t,rfl⟩:=r;cases (show T = "str" from ty)
    exact⟨typeIs_str s z t,λ_ e=>nomatch e⟩
  |int i=>
    obtain⟨t,rfl⟩:=r;cases (show T = "int" from ty)
    exact⟨typeIs_int s i t,λ_ e=>nomatch e⟩
  |ref p=>
    cases r;rcases ty with⟨rfl,xs,k⟩|⟨rfl,o,b,l,f⟩|⟨rfl,b⟩|⟨rfl,S,n,b⟩
    . obtain⟨its,_,h,_⟩:=I.list k
      refine⟨h.isList.typeIs,λa e=>?_⟩
      cases e;obtain⟨o,n,e,c,f,_⟩:=h;exact⟨o,e,f⟩
    . refine⟨⟨o,I.kIn p o b,l⟩,λa e=>?_⟩
      cases e;exact⟨o,I.kIn _ o b,f⟩
    . have z:∃ o,s.heap.get? p=some o/\o.ExactDict:=by
        rcases b with⟨d,b⟩|⟨d,b⟩
        . obtain⟨_,_,_,_,o,_,_,e,ex,_⟩:=I.hok p _ b
          exact⟨o,e,ex⟩
        . obtain⟨_,o,_,e,ex,_⟩:=I.hok p _ b
          exact⟨o,e,ex⟩
      obtain⟨o,e,ex⟩:=z;refine⟨⟨o,e,ex.1⟩,λa g=>?_⟩
      cases g;exact⟨o,e,ex.2.1⟩
    . obtain⟨o,_,_,_,e,ex,_⟩:=I.hok p _ b
      refine⟨⟨o,e,ex.1⟩,λa g=>?_⟩
      cases g;exact⟨o,e,ex.2.1⟩
  |_=>exact False.elim ty
def tBM(K:fG7)(T:String)(r:V->Li V->Hp->VK->Prop)(b:TE)(t:TA):TE:=λO H Q=>b O H λx a=>tyV K T x a/\t O a λxs c=>r x xs c Q
variable{o:Expr}{es:Li Expr}{to:TE}{t:TA}{name:Str}{apos cpos:Pos}{T id:String}{r:V->Li V->Hp->VK->Prop}
theorem pe_bm(u:PlainAttrs T)(slot:Slot T name id)(f:typeOf (.builtin id)=pure (.type "method_descriptor"))(z:MtR X id r)(y:PE X o to)(A:PA X (e :: es) t)(c:attributeBase o name X.env (eval o X.env)=eval o X.env:=by rfl)(d:((backTo cpos (starEach (e :: es) X.env)).all (λx=>!x.1)&&(backToKw cpos (keywordEach [] X.env)).all (λx=>x.1.isSome)
     &&decide ((e :: es).length+([]:Li Keyword).length+(if ([]:Li Keyword).isEmpty then 0 else 1) < 30))=true:=by rfl)(b:(apos.endLine==cpos.line)=true:=by rfl)(w:starEach (e :: es) X.env=(false,eval e X.env) :: starEach es X.env:=by rfl)(a:(backTo cpos (starEach es X.env)).any (·.1)=false:=by rfl) :
    PE X (.Call (.Attribute o name apos) (e :: es) [] cpos) (tBM X.K T r to t):=by
  intro pQ s O H Q I h;refine wpAny_Call_method_late c d b rfl (thn (y pQ s O H _ I h) λv m ⟨x,F,j,g,ty,q⟩=>?_)
  obtain⟨C,B⟩:=tyV_is j g ty;refine⟨T,id,u,slot,f,C,B,?_⟩;have i:=A cpos pQ m O F _ j q;rw[w]at i ⊢;refine Calls.callWith_builtin (by show(false||(backTo cpos (starEach es X.env)).any (·.1))=false;rw[a]<;>rfl) (Calls.evalArgs_plain ?_)
  exact thn i λus l ⟨k,E,D,n,p⟩=>z pQ l O E x k v us Q D g n p
end
def MtM(X:Cx)(id:String)(r:V->Li V->Hp->VK->Prop):Prop:=
  ∀ (pQ:Li (Ad×Obj)) (s:sH7) (O:St) (H:Hp) (x:V) (xs:Li V) (v:vL) (us:Li vL) (Q:VK),Inv X pQ O H s->RelV x v->Vals xs us->r x xs H Q->
    wpAny (model X.prog X.w) X.A (call (.builtin id) (v :: us)) (EP X pQ O Q) X.xe s
theorem Vals.one(h:Vals [x] us):∃ u,us=[u]/\RelV x u:=by
  cases h with
  |cons r h=>cases h;exact⟨_,rfl,r⟩
theorem Vals.two(h:Vals [x,y] us):∃ u v,us=[u,v]/\RelV x u/\RelV y v:=by
  cases h with
  |cons r h=>cases h with
    |cons q h=>cases h;exact⟨_,_,rfl,r,q⟩
theorem Vals.rep(h:Vals xs us):∀ k:Nat,Vals (List.replicate k xs).flatten (List.replicate k us).flatten
  |0=>.nil
  |k+1=>by
    rw[cB,cB,cU,cU];exact Vals.append h (Vals.rep h k)
theorem foldl_rep(its:Li vL):∀ (k:Nat) (a:Li vL),
    List.foldl (λc b=>c++b) a.toArray (List.replicate k its.toArray)=(a++(List.replicate k its).flatten).toArray
  |0,a=>by simp
  |k+1,a=>by
    have e:a.toArray++its.toArray=(a++its).toArray:=by simp
    have d:(a++its)++(List.replicate k its).flatten=a++(List.replicate (k+1) its).flatten:=by
      rw[cB,cU,bG]
    rw[<-d,<-foldl_rep its k (a++its),<-e,cB,List.foldl_cons]
variable{pQ:Li (Ad×Obj)}{s:sH7}{xs:Li V}
section
variable{O:St}{H:Hp}{l b:Ad}{ys zs:Li V}
theorem Inv.lset{its:Li vL}{f:Array vL->Array vL}{a:Nat}(I:Inv X pQ O H s)(i:H l=some (.lst xs))(e:s.heap.get? l=some { cls:=.type "list",data:=.seq its.toArray n })(g:f its.toArray=its'.toArray)(c:Vals ys its')(b:ys.length<=sizeLine) :
    Inv X pQ O (upd H l (.lst ys)) { s with heap:=s.heap.update l (Obj.mapSeq f),toks:=a }:=by
  have q:=PySem.IsL.update e f;rw[g]at q;refine I.write (x:=l) (e:=l) (by rw[i];exact trivial) (.inl rfl) (λj u h d=>(Heap.get?_update_other s.heap (Obj.mapSeq f) (Ne.symm h)).trans d) ⟨_,q⟩ ?_
  exact⟨b,its',_,c,q⟩
theorem Inv.lnew{its:Li vL}{t':Nat}(I:Inv X pQ O H s)(b:Vals ys its)(a:ys.length<=sizeLine) :
    Inv X pQ O (upd H s.heap.objs.size (.lst ys)) { s with heap:=s.heap.push { cls:=.type "list",data:=.seq its.toArray },toks:=t' }:=
  I.laid (λ_ _ q=>aQ _ q) (aF _) ⟨a,its,0,b,aW _ rfl⟩
theorem Inv.fresh(I:Inv X pQ O H s):H s.heap.objs.size=none:=I.hok.fresh (aF _)
theorem Inv.lstM(I:Inv X pQ O H s)(a:H l=some (.lst xs)):xs.length<=sizeLine/\∃ (its:Li vL) (n:Nat),Vals xs its/\xs.length=its.length/\s.heap.get? l=some { cls:=.type "list",data:=.seq its.toArray n }:=by
  obtain⟨z,its,n,r,e⟩:=I.hok l _ a;exact⟨z,its,n,r,r.length,e⟩
theorem notLongL(h:n<=sizeLine):Builtin.List.listTooLong n=false:=by
  unfold Builtin.List.listTooLong;exact aE (by omega)
end
def rAppend:V->Li V->Hp->VK->Prop:=λx a H Q=>∃ l xs y,x=.ref l/\a=[y]/\H l=some (.lst xs)/\xs.length < sizeLine/\Q .non (upd H l (.lst (xs++[y])))
theorem mt_append:MtM X "list.append" rAppend:=by
  intro pQ s O H x f v us Q I b c h;obtain⟨l,xs,y,rfl,rfl,a,g,q⟩:=h;cases b;obtain⟨u,rfl,d⟩:=c.one;obtain⟨z,its,n,r,i,e⟩:=I.lstM a;refine call_meets F.slot_list_append ⟨_,e,rfl⟩ F.entry_list_append (F.args_list_append_2 _ _) (PySem.list_append l its.toArray n u (by rw[aM];omega)) ⟨e,?_⟩
  refine⟨.non,_,I.lset (its':=its++[u]) a e (by simp) (r.append (.cons d .nil)) ?_,rfl,q⟩
  rw[aI,eD];omega
def rExtend:V->Li V->Hp->VK->Prop:=λx c H Q=>∃ l b xs a,x=.ref l/\c=[.ref b]/\H l=some (.lst xs)/\H b=some (.lst a)/\xs.length+a.length<=sizeLine/\Q .non (upd H l (.lst (xs++a)))
theorem mt_extend:MtM X "list.extend" rExtend:=by
  intro pQ s O H x A v us Q I g i h;obtain⟨l,b,xs,w,rfl,rfl,f,p,B,q⟩:=h;cases g;obtain⟨u,rfl,j⟩:=i.one;cases j;obtain⟨z,its,n,r,C,e⟩:=I.lstM f;obtain⟨y,a,m,k,o,t⟩:=I.lstM p;have d:its.toArray.size+a.toArray.size<=sizeLine:=by rw[aM,aM];omega
  have c:¬(!its.toArray.isEmpty&&Builtin.List.listTooLong (its.toArray.size+a.toArray.size))=true:=by
    rw[notLongL d,cK];exact bF7
  refine call_meets F.slot_list_extend ⟨_,e,rfl⟩ F.entry_list_extend (F.args_list_extend_2 _ _)
    (AutoSeq1.list_extend_list_list_0 l its.toArray n b a.toArray m c (by rw[aM];omega) (by omega)) ⟨e,t,?_⟩
  refine⟨.non,_,I.lset (its':=its++a) f e (by simp) (r.append k) ?_,rfl,q⟩
  rw[aI];omega
def rRep:R2:=λx y H Q=>∃ l k xs,x=.ref l/\y=.int k/\H l=some (.lst xs)/\-(2 ^ 63)<=k/\k < 2 ^ 63/\xs.length * k.toNat<=sizeLine /\
  ∀ p,H p=none->Q (.ref p) (upd H p (.lst (List.replicate k.toNat xs).flatten))
theorem len_rep(xs:Li α)(k:Nat):(List.replicate k xs).flatten.length=k * xs.length:=by
  induction k with
  |zero=>simp
  |succ k a=>rw[cB,cU,aI,a,Nat.succ_mul,Nat.add_comm]
theorem op_rep:OpR X (binaryOp .Mult) rRep:=by
  intro pQ s O H x y v u Q I A w h;obtain⟨l,k,xs,rfl,rfl,C,E,D,o,q⟩:=h;cases A;obtain⟨t,rfl⟩:=w;obtain⟨z,its,n,r,B,e⟩:=I.lstM C;have d:its.toArray.size * k.toNat<=sizeLine:=by rw[aM,<-B];exact o
  have g:¬its.toArray.size * k.toNat > (2 ^ 63 - 1) / 8:=by
    have:(sizeLine:Nat)<=(2 ^ 63 - 1) / 8:=by decide
    omega
  have f:¬(!Builtin.List.listFitsIndex k)=true:=by
    rw[fitsIndex_both E D];exact bF7
  have b:¬Builtin.List.listTooLong (its.toArray.size * k.toNat)=true:=by
    rw[notLongL d];exact bF7
  have c:List.foldl (λj i=>j++i) #[] (List.replicate (if its.toArray.isEmpty=true then 0 else k.toNat) its.toArray)=(List.replicate k.toNat its).flatten.toArray:=by
    have G:∀ m:Nat,List.foldl (λj i=>j++i) #[] (List.replicate m its.toArray)=(List.replicate m its).flatten.toArray:=λm=>by
      have:=foldl_rep its m [];rw[dR]at this;exact this
    rw[G];cases its with
    |nil=>simp
    |cons a J=>rw[if_neg (by simp)]
  refine wpAny_binaryOp_repeat_ref (T := "list") (U := "int") (by decide) ⟨_,e,rfl⟩ (λp=>typeIs_int p k t) noFill_list_mul F.fills_int_mul F.slot_int_rmul repeat_list F.slot_int_index.lookup
    (call_meets F.slot_int_rmul (typeIs_int s k t) F.entry_int_rmul (F.args_int_rmul_2 _ _) (int___rmul___int_list k t l its.toArray n)
      ⟨e,rfl,⟨_,e,rfl⟩,call_meets F.slot_list_mul ⟨_,e,rfl⟩ F.entry_list_mul (F.args_list_mul_2 _ _) (AutoListH.list___mul___list_int_3 l its.toArray n k t f g b) ⟨e,?_⟩⟩)
  rw[c];exact⟨.ref _,_,I.lnew (t':=s.toks) (r.rep k.toNat) (by rw[len_rep,Nat.mul_comm];exact o),rfl,q _ I.fresh⟩
section
variable{prog:Program}{w:World}{A:Around}{E:vL->sH7->Prop}
end
end L2
namespace Att
open PySem PySem.W PySem.Calls PyProof.Rows
variable{h:Heap}
theorem ints_of_wellAll{P:Params}:∀ (c:Li Int) (d:Li vL),WellAll P h d (c.map WData.int)->IntsAre d c:=by
  intro c
  induction c with
  |nil=>
    intro d w;rw[dH]at w;cases w;exact .nil
  |cons n c e=>
    intro d w;rw[aJ]at w;cases w with
    |cons a b=>
      cases a;exact .cons _ _ (e _ b)
variable{l:OpenLaw}
theorem script_of{n:Nat}(w:l.most=some n){P:Params}{args:Li WData}{c:Li vL}(e:l.row.toRowW.claim.pre args=true)(k:WellAll P h c args) :
    ∃ a o b,c=[Value.ref a]/\args=[WData.list (b.map WData.int)]/\h.get? a=some { cls:=.type "list",data:=.seq o.toArray }/\IntsAre o b/\b.length<=n:=by
  have m:WShape.hasAll [] args [.list .int]=true:=(pre_splitW e).1;have p:l.pre.holds [] { args:=args }=true:=(pre_splitW e).2;obtain⟨d,r,rfl,z,y⟩:=hasAllW_cons m;obtain rfl:=hasAllW_nil y;obtain⟨A,rfl,x⟩:=hasW_list z;obtain⟨b,rfl⟩:=items_int x;have f:b.length<=n:=by
    unfold OpenLaw.pre at p;have j:(WTm.not (.lt (.lit (.int (n:Int))) (.len (.arg 0)))).holds [] { args:=[.list (b.map .int)] }=true:=by
      have j:=(holds_andW p).1;rw[w]at j;exact j
    have i:=condW_of j (w_not (w_lt w_lit (w_len_list (w_arg rfl))));rw[aD]at i;refine dS λq=>?_
    have u:(n:Int) < ((b.length:Nat):Int):=by omega
    first
      | (rw[aG u]at i;exact absurd i (by decide))
      | (simp at i;omega)
  cases k with
  |cons t s=>
    cases s;cases t with
    |list v g=>exact⟨_,_,b,rfl,rfl,v,ints_of_wellAll b _ g,f⟩
theorem post_true(l:OpenLaw)(args:Li WData):l.row.toRowW.claim.post args (.bool true) args=true:=
  postW_of (r:=l.row.toRowW) (X:=(true==true))
    (show WShape.has [] (.bool true) .bool=true by first|rfl|decide|simp[WShape.has,WShape.arms,WShape.armsAll])
    (show(WTm.eq .res (.lit (.bool true))).value [] { args:=args,res:=some (.bool true),after:=args }=some (.bool (true==true)) from w_eq_bool (w_res rfl) w_lit) rfl
theorem attach_call{n:Nat}{q:Program}{c:Li Str}{H:(Str->Ot vL)->Heap->Prop}{F:World->Heap->Prop}{d:DefRec}(L:l.most=some n)(z:d.params.defaults=[])(call:∀ (w:World) (s₀ b:sH7) (mg v:Str->Ot vL) (m:Ad) (o:Obj) (u t g:vL) (a:Ad) (h:Li vL) (s:Li Int),
      Ground q c [] H w s₀ mg v b.heap->F w b.heap->
      b.heap.get? m=some o->o.data=.func (docDef d.name d.params d.body d.scope u t g)->b.heap.CodeRec t d.name->mg d.name=some (.ref m)->
      b.heap.get? a=some { cls:=.type "list",data:=.seq h.toArray }->IntsAre h s->s.length<=n->b.gens=#[]->
      codeAny (model l.prog w) callerA (.call (.ref m) ⟨[.ref a],[]⟩) (λr p=>r=.ok (.ret (.bool true))/\OldK b.heap p.heap/\p.os=b.os/\AllBare p.gens) b) :
    WalkO q c H F l.row.toRowW d [] (λf h=>PySem.call f h):=by
  intro w s₀ b mg v G Y m o u t g T kV K P A D y O E B U i C I x N;obtain rfl:T=.none:=Dflts.none D z;obtain rfl:kV=.none:=Dflts.noKw D;obtain⟨a,h,s,rfl,rfl,j,e,k⟩:=script_of L i x;refine enter_call (codeAny_mono (call w s₀ b mg v m o u t g a h s G Y K (fd_plain P) A y j e k O) λr p J=>?_)
  obtain⟨rfl,S,R,Q⟩:=J;exact⟨.inl ⟨.bool true,.bool true,[],rfl,λ_=>rfl,.bool true,post_true l _,λ_=>⟨List.Pairwise.nil,λ_ M=>(nomatch M)⟩⟩,S,R,Q⟩
section
variable{prog:Program}{w:World}{A:Around}{E:vL->sH7->Prop}{s:sH7}{K:Frag}
end
end Att
namespace L2
open PySem PySem.Spec PyProof.Rows
theorem vals_ints:∀ {vs:Li vL}{ns:Li Int},IntsAre vs ns->Vals (ns.map V.int) vs
  |_,_,.nil=>.nil
  |_,_,.cons n t h=>.cons ⟨t,rfl⟩ (vals_ints h)
def Only(H:Hp):Prop:=∀ b,H b=none\/∃ o a,H b=some (.frz o (.lst a))
variable{w:World}
theorem law_call{P:Program}{K:fG7}{mg Q:Str->Ot vL}{CX:CXT}{k:Nat}{W a:Ad}{fd:FuncData}{x:Str}{Y:Sp}{c:sH7}{p:Li vL}{A:Li Int}(KX:K.In c.heap)(E:c.heap.Ns mainGlobals mg)(g:c.heap.Ns builtinsNs Q)(T:∀ x:Str,x ≠ "__name__"->Q x=bootBuiltins x)(G:c.heap.NoLimit)(hg:c.gens=#[])(N:c.heap.get? a=some { cls:=.type "list",data:=.seq p.toArray })(hi:IntsAre p A)(hl:A.length<=sizeLine)(hr:Room k callerA)(F:∀ base:Heap,K.In base->base.Ns mainGlobals mg->FnOk P w K mg base CX k W fd [x] Y)(t:∀ (s:sH7) (u:vL),BindsTo s fd ⟨[u],[]⟩ [(x,u)])(R:∀ H:Hp,Only H->SqL K H a (A.map V.int)->Y [.ref a] H (λv _=>v=.bl true) λ_ _ _=>False)(U:∀ H e i,CX [] H c (λ_ _ _=>False) e i->False) :
    codeAny (model P w) callerA (.call (.ref W) ⟨[.ref a],[]⟩) (λr i=>r=.ok (.ret (.bool true))/\OldK c.heap i.heap/\i.os=c.os/\AllBare i.gens) c:=by
  have Z:=vals_ints hi;have B:=hi.length
  -- from an abstract heap in which nothing but the script may be tracked
  have l:∀ H:Hp,Only H->SqL K H a (A.map V.int)->HOk P w H c.heap->(∀ b,H b≠none->b=a)->(H a≠none->K.lookup a=none)->
      codeAny (model P w) callerA (.call (.ref W) ⟨[.ref a],[]⟩) (λr i=>r=.ok (.ret (.bool true))/\OldK c.heap i.heap/\i.os=c.os/\AllBare i.gens) c:=by
    intro H hO hS D hA hK;have f:∀ {b:Ad}{o:Obj},c.heap.get? b=some o->H b=none->(hidT c.heap H).get? b=some o:=λe n=>hidT_get e n
    have O:∀ {b:Ad}{o:Obj}{J:Array DictEntry}{L:Nat},c.heap.get? b=some o->o.data=.dict J L->H b=none:=λ{b o J L} e d=>by
      cases q:H b with
      |none=>rfl
      |some u=>
        have X:b=a:=hA b (by rw[q];simp)
        subst X;rw[N]at e;cases e
        have d':Data.seq p.toArray _=Data.dict J L:=d;cases d'
    have j:∀ {b:Ad}{m:Str->Ot vL},c.heap.Ns b m->(hidT c.heap H).Ns b m:=λ{b m} ⟨o,J,L,e,d,r⟩=>⟨o,J,L,f e (O e d),d,r⟩
    have I:K.In (hidT c.heap H):=λb o e=>f (KX b o e) (by
      cases q:H b with
      |none=>rfl
      |some u=>
        have X:b=a:=hA b (by rw[q];simp)
        subst X;rw[hK (by rw[q];simp)]at e;cases e)
    have hM:Mod K mg (hidT c.heap H):=⟨I,j E,⟨Q,j g,T⟩,let ⟨mc,h1,h2⟩:=G;⟨mc,j h1,h2⟩⟩
    have e0:Env0 P w K mg (hidT c.heap H) callerA [] c H:=⟨rfl,hM,λb o e=>of_hidT e,cT (hidT_size _ _),trivial,λb g=>absurd (show b∈([]:Li Ad) from g) (by simp),D,.of_eq hg⟩
    refine codeAny_mono ((F _ I (j E)).run callerA [] c H ⟨[.ref a],[]⟩ [.ref a] [.ref a] _ _ hr e0 (t c (.ref a)) (.cons rfl .nil) (R H hO hS)) λr i h=>?_
    cases r with
    |error e=>exact(U H e i h).elim
    |ok fl=>
      cases fl with
      |next=>exact False.elim h
      |brk=>exact False.elim h
      |cont=>exact False.elim h
      |ret u=>
        obtain⟨v,H',os,M,un,C,r',q⟩:=h;have q':v=.bl true:=q;subst q';obtain rfl:u=Value.bool true:=r';refine⟨rfl,OldK.of_keep λb o e=>?_,os,M⟩
        cases q:H b with
        |none=>exact un.keep b o e q (by intro z;exact absurd (show b∈([]:Li Ad) from z) (by simp)) (by simp)
        |some u=>
          rcases hO b with z|⟨ob,xs,z⟩
          . rw[q]at z;cases z
          . have z2:=un.frzs b ob _ z
            obtain⟨e1,_⟩:=D b _ z;obtain⟨e2,_⟩:=C b _ z2;rw[e]at e1;cases e1
            exact e2
  cases S:K.lookup a with
  |some o=>
    -- the script is one of the module's own objects
    have e:=KX a o S;rw[N]at e;cases e;refine l (λ_=>none) (λ_=>.inl rfl) (.inr ⟨_,p.toArray,_,S,rfl,rfl,rfl,by rw[aM,B];exact hl,by simpa using Z⟩) (λb u z=>by have y:(none:Ot HO)=some u:=z;cases y) (λb z=>absurd rfl z) λz=>absurd rfl z
  |none=>
    refine l (λb=>if b=a then some (.frz { cls:=.type "list",data:=.seq p.toArray } (.lst (A.map V.int))) else none) (λb=>?_) (.inl (.inr ⟨{ cls:=.type "list",data:=.seq p.toArray },if_pos rfl⟩)) (λb u z=>?_) (λb z=>?_) λ_=>S
    . by_cases g:b=a
      . exact .inr ⟨_,_,if_pos g⟩
      . exact .inl (if_neg g)
    . by_cases g:b=a
      . have y:=(if_pos g).symm.trans z
        cases y;subst g;exact⟨N,by rw[aD];exact hl,p,_,Z,N⟩
      . have y:=(if_neg g).symm.trans z
        cases y
    . by_cases g:b=a
      . exact g
      . exact absurd (if_neg g) z
theorem walk_of{l:W.OpenLaw}{n k:Nat}{q:Program}{i:Li Str}{XP:(Str->Ot vL)->Heap->Prop}{J:World->Heap->Prop}{d:DefRec}{K:Params->fG7}{CX:World->CXT}{sp:World->Sp}{x:Str}(N:l.most=some n)(A:n<=sizeLine)(C:d.params.defaults=[])(M:Room k callerA)(R:∀ (w:World) (h:Heap),J w h->(K w.params).In h)(F:∀ (w:World) (mg:Str->Ot vL) (t:Ad) (h:Heap),(K w.params).In h->h.Ns mainGlobals mg->mg d.name=some (.ref t)->
      ∃ fd:FuncData,(∀ (s:sH7) (u:vL),BindsTo s fd ⟨[u],[]⟩ [(x,u)]) /\
        ∀ base:Heap,(K w.params).In base->base.Ns mainGlobals mg->FnOk l.prog w (K w.params) mg base (CX w) k t fd [x] (sp w))(z:∀ (w:World) (H:Hp) (a:Ad) (r:Li Int),r.length<=n->Only H->SqL (K w.params) H a (r.map V.int)->sp w [.ref a] H (λv _=>v=.bl true) λ_ _ _=>False)(D:∀ (w:World) (H:Hp) (s:sH7) (e:vL) (y:sH7),CX w [] H s (λ_ _ _=>False) e y->False) :
    W.WalkO q i XP J l.row.toRowW d [] (λf E=>PySem.call f E):=by
  refine Att.attach_call N C λw I m mg mb t o pm cd Z a E r G Y ho hd P B p j c O=>?_
  have L:=R w _ Y;obtain⟨fd,Q,X⟩:=F w mg t _ L G.T.g B;exact law_call L G.T.g G.T.b G.T.builtins G.T.nolimit O p j (aK c A) M X Q (λH U S=>z w H a r c U S) λH e y=>D w H m e y
noncomputable def defArgs(s:Stmt):Arguments:=match s with
  |.FunctionDef _ a _ _ _ _ _ _ _ _=>a
  |_=>{ posonlyargs:=[],args:=[],vararg:=none,kwonlyargs:=[],kw_defaults:=[],kwarg:=none,defaults:=[] }
noncomputable def defBody(s:Stmt):Li Stmt:=match s with
  |.FunctionDef _ _ b _ _ _ _ _ _ _=>b
  |_=>[]
noncomputable def defScope(s:Stmt):Scope:=match s with
  |.FunctionDef _ _ _ _ _ _ sc _ _ _=>sc
  |_=>{ kind:=.function,names:=[],isGenerator:=false,isCoroutine:=false }
noncomputable abbrev CX0:CXT:=λ_ _ _ _ _ _=>False
abbrev E0:XK:=λ_ _ _=>False
theorem pass0{X:Cx}:Passes CX0 X E0:=λ_ _ _ _ _ _ _ h=>h.elim
structure Fun(K:fG7)(x qual:Str)(st:Stmt)(f:Addr)(fd:FuncData):Prop where
  ex:∃ (oc:Value) (od:Option Addr) (kV doc pm:Value) (an:Option Addr) (cdv ct:Value) (osl:Array (Option Value)),
    fd=W.fnOf x qual (defArgs st) (defBody st) (defScope st) .none kV doc pm an cdv ct/\K.lookup f=some ⟨oc,od,.func fd,osl⟩/\W.codeIn K cdv qual=true
  kp:W.keepIn K (.ref f)=true
variable{P:Program}{w:World}
section
variable{K:fG7}{mg:Str->Ot vL}{base:Heap}
end
variable{X:Cx}
section
variable {κ:Type} [DecidableEq κ]
noncomputable def valV(a:Li (κ×V))(k:κ):Ot V:=(a.find? λkv=>decide (kv.1=k)).map (·.2)
noncomputable def putK(a:Li (κ×V))(k:κ)(v:V):Li (κ×V):=
 if (a.any λkv=>decide (kv.1=k))=true then a.map (λkv=>if kv.1=k then (kv.1,v) else kv) else a++[(k,v)]
theorem valV_pos{p:κ×V}{r:Li (κ×V)}{k:κ}(e:p.1=k):valV (p :: r) k=some p.2:=by simp[valV,cL,e]
theorem valV_neg{p:κ×V}{r:Li (κ×V)}{k:κ}(e:¬p.1=k):valV (p :: r) k=valV r k:=by simp[valV,cL,e]
theorem RelO.isSome_eq{o:Ot V}{u:Ot vL}(r:RelO o u):o.isSome=u.isSome:=by
 cases o with
 |none=>cases u with
  |none=>rfl
  |some _=>exact(show False from r).elim
 |some _=>cases u with
  |none=>exact(show False from r).elim
  |some _=>rfl
theorem KV.val{a:Li (κ×V)}{f:Li (κ×vL)}(r:KV a f)(k:κ):RelO (valV a k) (valueAt f k):=by
 unfold KV at r
 induction r with
 |nil=>exact True.intro
 |@cons p q l c h t i=>
  obtain⟨g,j⟩:=h;by_cases e:p.1=k
  .have d:q.1=k:=g.symm.trans e
   have b:valueAt (q :: c) k=some q.2:=by simp[valueAt,cL,d]
   rw[valV_pos e,b];exact j
  .have d:¬q.1=k:=λz=>e (g.trans z)
   have b:valueAt (q :: c) k=valueAt c k:=by simp[valueAt,cL,d]
   rw[valV_neg e,b];exact i
end
theorem kV_is{P:Program}{k:Key}{u:vL}(r:RelV (kV k) u):(mixKind P w).is k u=true:=by
 cases k with
 |inl i=>obtain⟨t,e⟩:=(show ∃ t,u=Value.int i t from r);subst e;exact mixKind_int P w i t
 |inr x=>obtain⟨t,e⟩:=(show ∃ t,u=Value.str x t from r);subst e;exact mixKind_str P w x t
variable{kvs:Li (Key×V)}
variable{H:Hp}{h:Heap}{a:Ad}
theorem rd_of{u:HO}(ok:HOk P w H h)(e:Rd H a u):ObjOk P w H h a u:=e.ok ok
theorem dk_rd(ok:HOk P w H h)(e:Rd H a (.dK kvs)):kvs.length<=sizeLine/\(a==sysModules)=false/\∃ b,KV kvs b/\h.DictOf (mixKind P w) a b:=
 show ObjOk P w H h a (.dK kvs) from rd_of ok e
theorem dk_of(ok:HOk P w H h)(e:H a=some (.dK kvs)):kvs.length<=sizeLine/\(a==sysModules)=false/\∃ b,KV kvs b/\h.DictOf (mixKind P w) a b:=dk_rd ok (.inl e)
section
variable{pQ:Li (Ad×Obj)}{O:St}{s:sH7}{y v:V}{u r:vL}{o:Ot V}{A:Around}{E:vL->sH7->Prop}
theorem Inv.big(I:Inv X pQ O H s):sysModules < s.heap.objs.size:=by
 have h:mainGlobals < s.heap.objs.size:=(I.mod.glob.keeps I.bk).lt;exact Nat.lt_trans (by decide) h
theorem d_write{c:Heap}{f:Nat}{d:HO}(I:Inv X pQ O H s)(mu:Mut (H a))(g:Heap.SameBut a s.heap c)(h:∃ q,c.get? a=some q)(new:ObjOk X.prog X.w (upd H a d) c a d) :
  Inv X pQ O (upd H a d) { s with heap:=c,toks:=f }:=
 I.write (x:=a) (e:=a) mu (.inl rfl) (λb q i z=>(g.2 b i).trans z) h new
end
def rIxD:R2:=λx y H Q=>∃ p kvs k v,x=.ref p/\y=kV k/\H p=some (.dK kvs)/\valV kvs k=some v/\Q v H
theorem ix_dct:IxR X rIxD:=by
 intro a slice t s O H x y v u Q I g f h j;obtain⟨p,kvs,k,z,rfl,rfl,l,m,q⟩:=h;cases g;obtain⟨n,w,e,c,d⟩:=dk_of I.hok l;obtain⟨r,i,b⟩:=RelO.some_of (v:=z) (o:=valueAt e k) (by rw[<-m];exact c.val k)
 exact tail_any d.typeIs PySem.F.slot_dict_getitem.lookup (wpAny_getItem_of (kV_is f) d.mapOf i ⟨z,H,I.tok _,b,q⟩) j
def rInD:R2:=λx y H Q=>∃ p kvs k,y=.ref p/\x=kV k/\H p=some (.dK kvs)/\Q (.bl (valV kvs k).isSome) H
theorem op_in_dct:OpR X (compareOp .In) rInD:=by
 intro j s O H x y v u Q I c b h;obtain⟨p,kvs,k,rfl,rfl,d,q⟩:=h;cases b;obtain⟨g,e,i,a,f⟩:=dk_of I.hok d;refine wpAny_in_of (kV_is c) e f.mapOf ?_;rw[<-(a.val k).isSome_eq];exact⟨.bl (valV kvs k).isSome,H,I.tok _,rfl,q⟩
section
variable {κ:Type} [DecidableEq κ]
end
abbrev KTp(H:Hp):Li (Li Key×V)->Li (Li Key×Ad×vL)->Prop:=Paired λp q=>p.1=q.1/\H q.2.1=some (.tup (p.1.map kV))/\RelV p.2 q.2.2
end L2
namespace Dp
open PySem
variable{α:Type}
theorem Zc{x:α}{C:Prop}(h:(none:Ot α)=some x):C:=nomatch h
noncomputable abbrev S(x:String):Str:=Str.ofString x
inductive D where
 |non|bl (b:Bool)|int (i:Int)|str (x:Str)|tup (xs:List D)|lst (id:Nat)|dct (ks:List Str) (vs:List D)|obj (i:Nat)|kt (ks:List Str)|dic (id:Nat)
abbrev Env:=Li (Ot D)
abbrev ZI:=Bool×Li D
abbrev Za:=Li ZI
abbrev Res:=Ot (D×Za)
abbrev Fn:=Li D->Za->Res
noncomputable def o2{α b a:Type}(f:α->b->a):Ot α->Ot b->Ot a
 |some x,some y=>some (f x y)
 |_,_=>none
noncomputable def og{α:Type}(p:Prop)[Decidable p](o:Ot α):Ot α:=if p then o else none
mutual
noncomputable def Zr:D->D->Bool
 |.non,.non=>true
 |.bl a,.bl b=>a==b
 |.int a,.int b=>decide (a=b)
 |.str a,.str b=>decide (a=b)
 |.tup a,.tup b=>Zy a b
 |_,_=>false
noncomputable def Zy:Li D->Li D->Bool
 |[],[]=>true
 |x :: b,y :: a=>Zr x y&&Zy b a
 |_,_=>false
end
mutual
noncomputable def okD:Nat->D->Bool
 |_,.non=>true
 |_,.int _=>true
 |_,.str _=>true
 |n+1,.tup a=>ZZ n a
 |_,_=>false
noncomputable def ZZ:Nat->Li D->Bool
 |_,[]=>true
 |n,x :: a=>okD n x&&ZZ n a
end
inductive Sc where
 |non|bl (b:Bool)|int (i:Int)|str (x:Str)
noncomputable def scD:D->Ot Sc
 |.non=>some .non
 |.bl b=>some (.bl b)
 |.int i=>some (.int i)
 |.str x=>some (.str x)
 |_=>none
noncomputable def Zgn:Sc->Sc->Ot Bool
 |.non,.non=>some true
 |.non,.bl _=>some false
 |.non,.int _=>some false
 |.non,.str _=>some false
 |.bl _,.non=>some false
 |.bl a,.bl b=>some (a==b)
 |.bl _,.int _=>none
 |.bl _,.str _=>some false
 |.int _,.non=>some false
 |.int _,.bl _=>none
 |.int a,.int b=>some (decide (a=b))
 |.int _,.str _=>some false
 |.str _,.non=>some false
 |.str _,.bl _=>some false
 |.str _,.int _=>some false
 |.str a,.str b=>some (decide (a=b))
noncomputable def eqT(b:Li D):D->Ot Bool
 |.tup a=>if okD 8 (.tup b)&&okD 8 (.tup a) then some (Zy b a) else none
 |_=>none
noncomputable def eqD(x y:D):Ot Bool:=match x with
 |.tup a=>eqT a y
 |x=>(o2 Zgn (scD x) (scD y)).join
inductive Ty where
 |int|bool|str|tuple
 deriving DecidableEq
set_option genInjectivity false in
inductive CE where
 |v (i:Nat)|c (d:D)
 |bin (op:Operator) (a b:CE)|neg (a:CE)
 |cmp (op:CmpOp) (a b:CE)
 |not (a:CE)|and (a b:CE)|or (a b:CE)|ife (c a b:CE)
 |tupE (a:CE)|lstE (a:CE)|aN|aC (a r:CE)
 |ix (a b:CE)|slice (a lo hi:CE)|nop|part (a:CE)
 |call (f:Nat) (args:CE) (ds:List D)
 |len (a:CE)|tOf (a:CE)|listOf (a:CE)|intOf (a:CE)|min (a b:CE)|max (a b:CE)|isi (T:Ty) (a:CE)
 |comp (rng:Bool) (fr:List Nat) (it elt YB:CE)|comp2 (fr:List Nat) (it elt YB:CE)|compT (fr:List Nat) (it elt YB:CE)|lstR (a b:CE)|new (i:Nat)|meth (tab:List (Nat×Nat)) (o a:CE)|isc (l:List Nat) (a:CE)|tix (o a:CE)
 |rs (k:Bool) (a:CE)
 |inv (a:CE)|tupR (a:CE)|look (ks:List Str) (ds:List D) (a:CE)|dget (a k d:CE)|all (a:CE)|any (a:CE)|inR (ng:Bool) (a b:CE)
 |dict (ks:List Str) (a:CE)|dnew|strOf (a:CE)|joinE (a b:CE)|starts (a b:CE)|rng2 (a b:CE)|srt (a:CE)
 |comp3 (fr:List Nat) (it elt YB:CE)|mk (i j:Nat) (args:CE) (ds:List D)|fld (f:Str) (a:CE)
set_option genInjectivity false in
inductive CS where
 |skip|seq (a b:CS)|ret (e:CE)|set (i:Nat) (e:CE)|app (i:Nat) (e:CE)|ext (i:Nat) (e:CE)|put (i:Nat) (k e:CE)
 |ite (c:CE) (a b:CS)|for1 (i:Nat) (rng:Bool) (it:CE) (b:CS)|for3 (i:Nat) (it:CE) (b:CS)|forP (i j:Nat) (it:CE) (b:CS)|forE (i j:Nat) (it:CE) (b:CS)|set2 (i j:Nat) (e:CE)|for4 (i j l:Nat) (it:CE) (b:CS)|for2 (i j:Nat) (it:CE) (b:CS)|whl (c:CE) (b:CS)|brk|cont|stop|set3 (i j l:Nat) (e:CE)|act (e:CE)|dput (i:Nat) (a b e:CE)|app2 (o e:CE)|fset (i:Nat) (f:Str) (e:CE)|forI (i j:Nat) (o:CE) (b:CS)
noncomputable def Yi(i:Int):Bool:=decide (-(2 ^ 64) < i)&&decide (i < 2 ^ 64)
noncomputable def Zn:Nat:=1000000
noncomputable def ZbX(a:Operator)(i j:Int):Ot Int:=
 match a with
 |.Add=>some (i+j)
 |.Sub=>some (i - j)
 |.Mult=>if Yi i||Yi j then some (i * j) else none
 |.FloorDiv=>if 0 < j/\j < 1073741824 then some (i / j) else if j < 0/\-1073741824 < j then some (i.fdiv j) else none
 |.Mod=>if 0 < j then some (i % j) else if j < 0 then some (i.fmod j) else none
 |.LShift=>if 0<=j/\j<=1000/\Yi i=true then some (i * 2 ^ j.toNat) else none
 |.BitAnd=>if 0<=i/\0<=j then some ((i.toNat &&& j.toNat:Nat):Int) else if 0<=i/\j < 0 then some (i - ((i.toNat &&& (-j - 1).toNat:Nat):Int)) else none
 |.BitOr=>if 0<=i/\0<=j then some ((i.toNat ||| j.toNat:Nat):Int) else none
 |_=>none
noncomputable def V3:Operator->Bool
 |.Add=>true
 |_=>false
noncomputable def ZaM:Operator->Bool
 |.Mult=>true
 |_=>false
noncomputable def Q5(a b:Nat)(c:Za):Res:=match c[a]?,c[b]? with
 |some (_,e),some (_,d)=>if e.length+d.length<=Zn then some (.lst c.length,c++[(true,e++d)]) else none
 |_,_=>none
noncomputable def ZcV(a:Nat)(j:Int)(b:Za):Res:=match b[a]? with
 |some (true,[x])=>if j<=1000/\-1000<=j then some (.lst b.length,b++[(true,List.replicate j.toNat x)]) else none
 |_=>none
noncomputable def Zh7(a:Li D)(j:Int)(b:Za):Res:=match a with
 |[x]=>if j<=1000/\-1000<=j then some (.tup (List.replicate j.toNat x),b) else none
 |_=>none
noncomputable def VA(d:Operator)(x y:D)(c:Za):Res:=
 match x,y with
 |.int i,.int j=>match ZbX d i j with
  |some k=>some (.int k,c)
  |none=>none
 |.tup e,.tup f=>if V3 d=true/\e.length+f.length<=Zn then some (.tup (e++f),c) else none
 |.tup e,.int j=>if ZaM d=true then Zh7 e j c else none
 |.lst a,.lst b=>if V3 d=true then Q5 a b c else none
 |.lst a,.int j=>if ZaM d=true then ZcV a j c else none
 |.str x,.str y=>if V3 d=true/\x.length+y.length<=Zn then some (.str (x++y),c) else none
 |_,_=>none
noncomputable def Zho(x k:Str):Bool:=!(PySem.Builtin.Str.occurrences x k 0 x.length 1).isEmpty
noncomputable def chS(x:Str):Li Str:=x.cps.toList.map λc=>⟨#[c]⟩
noncomputable def QN(_:Za)(_ _:Li D):Ot Bool:=none
noncomputable def WH(a ys:Li D):Ot Bool:=if (a.isEmpty||ys.isEmpty)=true then some (a.isEmpty&&ys.isEmpty) else if ZZ 7 a&&ZZ 7 ys then some (Zy a ys) else none
noncomputable def Zgo(c:Za)(b:Li D):D->Ot Bool
 |.tup a=>(match eqT b (.tup a) with
  |some k=>some k
  |none=>QN c b a)
 |_=>none
noncomputable def ZeB(e:Za)(a:Nat):D->Ot Bool
 |.lst b=>(o2 (λ(c d:ZI)=>WH c.2 d.2) e[a]? e[b]?).join
 |_=>none
noncomputable def eqS(b:Za)(x y:D):Ot Bool:=match x with
 |.lst a=>ZeB b a y
 |.tup c=>Zgo b c y
 |x=>eqD x y
noncomputable def Ys:Int->Li D->Ot Bool
 |_,[]=>some false
 |k,.int i :: r=>(Ys k r).map λb=>decide (i=k)||b
 |_,_=>none
noncomputable def YC:Str->Li D->Ot Bool
 |_,[]=>some false
 |k,.str i :: r=>(YC k r).map λb=>decide (i=k)||b
 |_,_=>none
noncomputable def Zgx:D->Ot Int
 |.int i=>some i
 |_=>none
noncomputable def isK(k:Str):D->Bool
 |.tup [.str x,_]=>decide (x=k)
 |_=>false
noncomputable def ZgY:D->Ot D
 |.tup [_,v]=>some v
 |_=>none
noncomputable def YK(a:Li D)(k:Str):Ot D:=(a.find? (isK k)).bind ZgY
noncomputable def Yb(k:Str)(v:D):Li D->Li D
 |[]=>[.tup [.str k,v]]
 |e :: r=>if isK k e=true then .tup [.str k,v] :: r else e :: Yb k v r
noncomputable def Yh:Li D->Bool
 |.int _ :: _=>true
 |_=>false
noncomputable def Xp:D->Bool
 |.tup _=>true
 |.lst _=>true
 |_=>false
noncomputable def okN:Nat->D->Bool
 |_,.non=>true
 |_,.int _=>true
 |_,.str _=>true
 |n+1,.tup a=>a.all (okN n)
 |_,_=>false
noncomputable def XO(k:D):D->Bool
 |.tup [x,_]=>Zr x k
 |_=>false
noncomputable def ZR(a:Li D)(k:D):Ot D:=(a.find? (XO k)).bind ZgY
noncomputable def dAt(ks:Li D)(a:Nat)(c:Za):Ot (Ot D):=match c[a]? with
 |some (_,b)=>if Yh b=false/\okN 8 (.tup ks)=true then some (ZR b (.tup ks)) else none
 |none=>none
noncomputable def Yj:Li Str->Li D->Str->Ot D
 |k :: ks,v :: a,x=>if k=x then some v else Yj ks a x
 |_,_,_=>none
noncomputable def Jt(f:Int->Int->Bool):D->D->Ot Bool
 |.int i,.int j=>some (f i j)
 |_,_=>none
noncomputable def ltD(x y:D):Ot Bool:=Jt (λi j=>decide (i < j)) x y
noncomputable def ltS(_:Za)(x y:D):Ot Bool:=ltD x y
noncomputable def inS(c:Za)(x y:D):Ot Bool:=match x,y with
 |.int k,.lst a=>match c[a]? with
  |some (_,b)=>Ys k b
  |none=>none
 |.str k,.lst a=>match c[a]? with
  |some (_,b)=>YC k b
  |none=>none
 |.tup ks,.lst a=>match c[a]? with
  |some (_,b)=>if okD 8 (.tup ks)&&ZZ 8 b then some (b.any λd=>Zr d (.tup ks)) else none
  |none=>none
 |.int k,.tup b=>Ys k b
 |.str k,.tup b=>YC k b
 |.str k,.dct ks e=>some (Yj ks e k).isSome
 |.tup ks,.dic a=>(dAt ks a c).map Option.isSome
 |.str k,.str x=>some (Zho x k)
 |_,_=>none
noncomputable def niS(a:Za)(x y:D):Ot Bool:=match y with
 |.dct _ _=>none
 |y=>(inS a x y).map not
noncomputable def isN:D->Ot Bool
 |.non=>some true
 |.int _=>some false
 |.str _=>some false
 |.bl _=>some false
 |.tup _=>some false
 |.lst _=>some false
 |.dct _ _=>none
 |.obj _=>none
 |.kt _=>none
 |.dic _=>none
noncomputable def isB(b:Bool):D->Ot Bool
 |.bl a=>some (a==b)
 |_=>none
noncomputable def isD(x:D):D->Ot Bool
 |.non=>isN x
 |.bl b=>isB b x
 |_=>none
noncomputable def Xf(b:CmpOp)(x y:D)(a:Za):Ot Bool:=
 match b with
 |.Lt=>ltS a x y
 |.LtE=>Jt (λi j=>decide (i<=j)) x y
 |.Gt=>Jt (λi j=>decide (j < i)) x y
 |.GtE=>Jt (λi j=>decide (j<=i)) x y
 |.Eq=>eqS a x y
 |.NotEq=>(eqS a x y).map not
 |.In=>inS a x y
 |.NotIn=>niS a x y
 |.Is=>isD x y
 |.IsNot=>(isD x y).map not
noncomputable def ixN(n:Nat)(i:Int):Ot Nat:=if 0<=i then (if i < n then some i.toNat else none) else if -(n:Int)<=i then some (i+n).toNat else none
noncomputable def atD(a:Li D)(i:Int):Ot D:=(ixN a.length i).bind λj=>a[j]?
noncomputable def ixD(x y:D)(c:Za):Ot D:=
 match x,y with
 |.tup b,.int i=>atD b i
 |.lst a,.int i=>match c[a]? with
  |some (_,b)=>atD b i
  |none=>none
 |.dct ks d,.str k=>Yj ks d k
 |.kt ks,.int i=>atD (ks.map .str) i
 |.dic a,.tup ks=>(dAt ks a c).join
 |.str x,.int i=>if x.length<=Zn then atD ((chS x).map .str) i else none
 |_,_=>none
noncomputable def sIx(n d:Nat):Ot Int->Nat
 |none=>d
 |some i=>if i < 0 then (i+n).toNat else Nat.min i.toNat n
noncomputable def Xw(a:Li D)(b c:Ot Int):Li D:=(a.drop (sIx a.length 0 b)).take (sIx a.length a.length c - sIx a.length 0 b)
noncomputable def Yf(x:D)(d e:Ot Int)(c:Za):Res:=
 match x with
 |.tup b=>if sIx b.length 0 d=0/\sIx b.length b.length e=b.length then some (.tup b,c) else some (.tup (Xw b d e),c)
 |.lst a=>match c[a]? with
  |some (_,b)=>some (.lst c.length,c++[(true,Xw b d e)])
  |none=>none
 |_=>none
noncomputable def ZcC(x:D)(c:Za):Ot Int:=
 match x with
 |.tup b=>some b.length
 |.lst a=>match c[a]? with
  |some (_,b)=>some b.length
  |none=>none
 |.kt ks=>some ks.length
 |.str x=>if x.length<=Zn then some x.length else none
 |.dic a=>match c[a]? with
  |some (_,b)=>if Yh b=false/\b.length<=Zn then some b.length else none
  |none=>none
 |_=>none
noncomputable def ZeQ(T:Ty):D->Ot Bool
 |.int _=>some (decide (T=.int))
 |.bl _=>some (decide (T=.int)||decide (T=.bool))
 |.str _=>some (decide (T=.str))
 |.tup _=>some (decide (T=.tuple))
 |.non=>some false
 |_=>none
noncomputable def Wu(rng:Bool)(x:D):Ot (Li D):=
 match rng,x with
 |true,.int n=>if n < 2 ^ 62/\-(2 ^ 62)<=n then some ((List.range n.toNat).map λ(k:Nat)=>D.int (k:Int)) else none
 |false,.tup a=>some a
 |_,_=>none
noncomputable def Z2(a b c:Int):Nat:=if 0 < c then (if a < b then ((b - a - 1) / c+1).toNat else 0) else (if b < a then ((a - b - 1) / (-c)+1).toNat else 0)
noncomputable def Yg(a b c:Int):Bool:=decide ((-(2 ^ 30) < a/\a < 2 ^ 30)/\(-(2 ^ 30) < b/\b < 2 ^ 30)/\(c=1\/c=-1\/c=2\/c=3\/c=4))
noncomputable def Ym(a b c:Int):Li Int:=(List.range (Z2 a b c)).map λ(k:Nat)=>a+k * c
noncomputable def ZaJ:Li D->Ot (Li Int)
 |[]=>some []
 |x :: r=>o2 List.cons (Zgx x) (ZaJ r)
noncomputable def ZfA:Li Int->Ot (Li Int)
 |[a,b]=>og (Yg a b 1=true) (some (Ym a b 1))
 |[a,b,c]=>og (Yg a b c=true) (some (Ym a b c))
 |_=>none
noncomputable def Vb:D->Ot (Li Int)
 |.tup a=>(ZaJ a).bind ZfA
 |_=>none
noncomputable def ZF(ok:Za->Prop)(f:D->Za->Res)(c:D->Za->Res):Li D->Za->Ot (Li D×Za)
 |[],b=>open Classical in if ok b then some ([],b) else none
 |x :: g,b=>open Classical in if ok b then (match c x b with
  |some (.bl true,a)=>match f x a with
   |some (y,e)=>match ZF ok f c g e with
    |some (h,d)=>some (y :: h,d)
    |none=>none
   |none=>none
  |some (.bl false,a)=>ZF ok f c g a
  |_=>none) else none
noncomputable def Yv(rng:Bool)(x:D)(e:Za):Ot (Li D×(Za->Prop)):=match Wu rng x with
 |some d=>some (d,λ_=>True)
 |none=>match rng,x with
  |false,.lst a=>match e[a]? with
   |some c=>some (c.2,λs=>s[a]?=some c)
   |none=>none
  |false,.dct [] [.int a,.int b]=>some ((Ym a b 1).map .int,λ_=>True)
  |_,_=>none
noncomputable def Jo:D->Bool
 |.tup [_,_]=>true
 |_=>false
noncomputable def X0(x:D)(d:Za):Ot (Li D×(Za->Prop)):=match x with
 |.tup b=>if b.all Jo=true then some (b,λ_=>True) else none
 |.lst a=>match d[a]? with
  |some c=>if c.2.all Jo=true then some (c.2,λs=>s[a]?=some c) else none
  |none=>none
 |_=>none
abbrev Ev:=Env->Za->Res
noncomputable def Zq(c:Ev)(g:D->Za->Res):Ev:=λU b=>match c U b with
 |some (x,a)=>g x a
 |none=>none
noncomputable def Zw(e d:Ev)(g:D->D->Za->Res):Ev:=λU c=>match e U c with
 |some (x,b)=>match d U b with
  |some (y,a)=>g x y a
  |none=>none
 |none=>none
noncomputable def WD(h f e:Ev)(g:D->D->D->Za->Res):Ev:=λU d=>match h U d with
 |some (x,c)=>match f U c with
  |some (y,b)=>match e U b with
   |some (z,a)=>g x y z a
   |none=>none
  |none=>none
 |none=>none
noncomputable def YB(e c d:Ev):Ev:=λU b=>match e U b with
 |some (.bl true,a)=>c U a
 |some (.bl false,a)=>d U a
 |_=>none
noncomputable def YZ(i:Nat):Ev:=λU a=>match U[i]? with
 |some (some d)=>some (d,a)
 |_=>none
noncomputable def evC(d:D):Ev:=λ_ a=>some (d,a)
noncomputable def Ze1:D->Za->Res
 |.int i,a=>some (.int (-i),a)
 |_,_=>none
noncomputable def Za7:D->Za->Res
 |.bl k,a=>some (.bl (!k),a)
 |_,_=>none
noncomputable def Z3(b:CmpOp)(x y:D)(a:Za):Res:=match Xf b x y a with
 |some k=>some (.bl k,a)
 |none=>none
noncomputable def ZeS:D->Ot D
 |.tup [k,_]=>some k
 |_=>none
noncomputable def Zbz:D->Za->Res
 |.dic a,c=>(match c[a]? with
  |some (_,b)=>if Yh b=false/\b.length<=Zn then some (.lst c.length,c++[(true,b.filterMap ZeS)]) else none
  |none=>none)
 |_,_=>none
noncomputable def Za1:D->Za->Res
 |.tup b,a=>some (.lst a.length,a++[(true,b)])
 |_,_=>none
noncomputable def Xg:D->D->Za->Res
 |x,.tup a,b=>if a.length < 1000 then some (.tup (x :: a),b) else none
 |_,_,_=>none
noncomputable def ixR(x y:D)(a:Za):Res:=match ixD x y a with
 |some d=>some (d,a)
 |none=>none
noncomputable def YS:D->D->D->Za->Res
 |x,.non,.non,a=>Yf x none none a
 |x,.int i,.non,a=>Yf x (some i) none a
 |x,.non,.int j,a=>Yf x none (some j) a
 |x,.int i,.int j,a=>Yf x (some i) (some j) a
 |_,_,_,_=>none
noncomputable def Uj:D->Za->Res
 |.int i,a=>some (.int i,a)
 |_,_=>none
noncomputable def Wi(g:Fn)(c:Li D):D->Za->Res
 |.tup a,b=>g (a++c) b
 |_,_=>none
noncomputable def Zev(b:Za):D->Ot Nat
 |.obj i=>some i
 |.dic a=>(match b[a]? with
  |some (_,.int c :: _)=>some c.toNat
  |_=>none)
 |_=>none
noncomputable def Wy(F:Nat->Fn)(tab:Li (Nat×Nat))(f g:Ev):Ev:=λU e=>match f U e with
 |some (o,a)=>(match (Zev a o).bind λc=>tab.lookup c with
  |some j=>(match g U a with
   |some (.tup d,b)=>F j (o :: d) b
   |_=>none)
  |none=>none)
 |none=>none
noncomputable def mkR(F:Nat->Fn)(i j:Nat)(d:Li D):D->Za->Res
 |.tup c,b=>(match F j (.dic b.length :: (c++d)) (b++[(true,[.int i])]) with
  |some (.non,a)=>some (.dic b.length,a)
  |_=>none)
 |_,_=>none
noncomputable def ZeI(f:Str)(d:D)(b:Za):Res:=match d with
 |.dic a=>(match b[a]? with
  |some (_,.int _ :: c)=>(match YK c f with
   |some v=>some (v,b)
   |none=>none)
  |_=>none)
 |_=>none
noncomputable def Zal(k:Str):Li Str->Ot Nat
 |[]=>none
 |a :: r=>if a=k then some 0 else (Zal k r).map (·+1)
noncomputable def ZfW:D->D->Za->Res
 |.kt ks,.tup [.str k],a=>match Zal k ks with
  |some i=>some (.int (i:Int),a)
  |none=>none
 |_,_,_=>none
noncomputable def V6(x:D)(a:Za):Res:=match ZcC x a with
 |some n=>some (.int n,a)
 |none=>none
noncomputable def Vx:D->Za->Res
 |.tup b,a=>some (.tup b,a)
 |.lst l,a=>match a[l]? with
  |some (_,b)=>some (.tup b,a)
  |none=>none
 |_,_=>none
noncomputable def QF:D->Za->Res
 |.tup b,a=>some (.lst a.length,a++[(true,b)])
 |.lst l,a=>match a[l]? with
  |some (_,b)=>some (.lst a.length,a++[(true,b)])
  |none=>none
 |_,_=>none
noncomputable def ZeZ:D->D->Za->Res
 |.int i,.int j,a=>some (.int (if j < i then j else i),a)
 |_,_,_=>none
noncomputable def ZeY:D->D->Za->Res
 |.int i,.int j,a=>some (.int (if j > i then j else i),a)
 |_,_,_=>none
noncomputable def ZaP(T:Ty)(x:D)(a:Za):Res:=match ZeQ T x with
 |some k=>some (.bl k,a)
 |none=>none
noncomputable def ZaZ(ks:Li Str)(b:Li D):D->Za->Res
 |.str k,a=>match Yj ks b k with
  |some d=>some (d,a)
  |none=>none
 |_,_=>none
noncomputable def dput(a:Nat)(k d:D)(c:Za):Ot Za:=match c[a]? with
 |some (true,b)=>if ((Yh b=false/\okN 8 k=true)/\Xp d=true)/\b.length < Zn/\b.any (XO k)=false then some (c.set a (true,b++[.tup [k,d]])) else none
 |_=>none
noncomputable def sdD(a:Nat)(ks:Li D)(d:D)(c:Za):Res:=match dAt ks a c with
 |some (some v)=>if Xp d=true then some (v,c) else none
 |some none=>(match dput a (.tup ks) d c with
  |some b=>some (d,b)
  |none=>none)
 |none=>none
noncomputable def sdV(h fk fd:Ev):Ev:=λU g=>match h U g with
 |some (.dic a,b)=>(match b[a]? with
  |some (_,f)=>if Yh f=false then (match fk U b with
   |some (.tup ks,e)=>(match fd U e with
    |some (d,c)=>sdD a ks d c
    |none=>none)
   |_=>none) else none
  |none=>none)
 |_=>none
noncomputable def Zhh(b:Bool):D->D->Za->Res
 |.int x,.int n,a=>if -(2 ^ 62)<=n/\n < 2 ^ 62 then some (.bl (b != decide (0<=x/\x < n)),a) else none
 |_,_,_=>none
noncomputable def Zgl(ks:Li Str):D->Za->Res
 |.tup a,b=>if ks.length=a.length/\(ks.Nodup/\ks≠[])/\ks.length<=15 then some (.dct ks a,b) else none
 |_,_=>none
noncomputable def one(d:D):Li (Ot D):=[some d]
noncomputable def two:D->Li (Ot D)
 |.tup [a,b]=>[some a,some b]
 |_=>[]
noncomputable def Ut:D->Li (Ot D)
 |.tup [a,b,c]=>[some a,some b,some c]
 |_=>[]
noncomputable def ZaN:D->Bool
 |.tup [_,_,_]=>true
 |_=>false
noncomputable def Uv(x:D)(_:Za):Ot (Li D×(Za->Prop)):=match x with
 |.tup a=>if a.all ZaN=true then some (a,λ_=>True) else none
 |_=>none
noncomputable def ZJ(b:D->Li (Ot D))(U:Env)(a:Li Nat)(d:D):Env:=b d++a.map λi=>(U[i]?).join
noncomputable def ZT(b:D->Li (Ot D))(w:D->Za->Ot (Li D×(Za->Prop)))(f:Li Nat)(i j k:Ev):Ev:=λU h=>match i U h with
 |some (x,c)=>match w x c with
  |some (e,ok)=>if e.length<=1000 then
    match ZF ok (λd s=>j (ZJ b U f d) s) (λd s=>k (ZJ b U f d) s) e c with
    |some (g,a)=>some (.lst a.length,a++[(true,g)])
    |none=>none
   else none
  |none=>none
 |none=>none
noncomputable def ZdD:Ev:=λ_ a=>some (.dic a.length,a++[(true,[])])
noncomputable def ev(F:Nat->Fn):CE->Ev
 |.v i=>YZ i
 |.c d=>evC d
 |.bin n a b=>Zw (ev F a) (ev F b) (VA n)
 |.neg a=>Zq (ev F a) Ze1
 |.cmp n a b=>Zw (ev F a) (ev F b) (Z3 n)
 |.not a=>Zq (ev F a) Za7
 |.and a b=>YB (ev F a) (ev F b) (evC (.bl false))
 |.or a b=>YB (ev F a) (evC (.bl true)) (ev F b)
 |.ife c a b=>YB (ev F c) (ev F a) (ev F b)
 |.tupE a=>ev F a
 |.lstE a=>Zq (ev F a) Za1
 |.aN=>evC (.tup [])
 |.aC a r=>Zw (ev F a) (ev F r) Xg
 |.ix a b=>Zw (ev F a) (ev F b) ixR
 |.slice a q s=>WD (ev F a) (ev F q) (ev F s) YS
 |.nop=>evC .non
 |.part a=>Zq (ev F a) Uj
 |.call f a m=>Zq (ev F a) (Wi (F f) m)
 |.len a=>Zq (ev F a) V6
 |.tOf a=>Zq (ev F a) Vx
 |.listOf a=>Zq (ev F a) QF
 |.intOf _=>λ_ _=>none
 |.min a b=>Zw (ev F a) (ev F b) ZeZ
 |.max a b=>Zw (ev F a) (ev F b) ZeY
 |.isi T a=>Zq (ev F a) (ZaP T)
 |.rs _ _=>λ_ _=>none
 |.inv _=>λ_ _=>none
 |.tupR _=>λ_ _=>none
 |.look ks m a=>Zq (ev F a) (ZaZ ks m)
 |.dget a k d=>sdV (ev F a) (ev F k) (ev F d)
 |.inR p a b=>Zw (ev F a) (ev F b) (Zhh p)
 |.all _=>λ_ _=>none
 |.any _=>λ_ _=>none
 |.comp rng l h e g=>ZT one (Yv rng) l (ev F h) (ev F e) (ev F g)
 |.comp2 _ _ _ _=>λ_ _=>none
 |.compT l h e g=>ZT two X0 l (ev F h) (ev F e) (ev F g)
 |.lstR _ _=>λ_ _=>none
 |.new i=>evC (.obj i)
 |.meth tab o a=>Wy F tab (ev F o) (ev F a)
 |.isc _ _=>λ_ _=>none
 |.tix o a=>Zw (ev F o) (ev F a) ZfW
 |.dict ks a=>Zq (ev F a) (Zgl ks)
 |.dnew=>ZdD
 |.strOf _=>λ_ _=>none
 |.joinE _ _=>λ_ _=>none
 |.starts _ _=>λ_ _=>none
 |.rng2 _ _=>λ_ _=>none
 |.srt a=>Zq (ev F a) Zbz
 |.comp3 l h e g=>ZT Ut Uv l (ev F h) (ev F e) (ev F g)
 |.mk i j a m=>Zq (ev F a) (mkR F i j m)
 |.fld f a=>Zq (ev F a) (ZeI f)
inductive Fl where
 |nx (U:Env)|rt (d:D)|bk (U:Env)|ct (U:Env)
noncomputable def Zh(U:Env)(i:Nat)(d:D):Env:=U.set i (some d)
noncomputable def Zp(b:D->Env->Za->Ot (Fl×Za)):Li D->Env->Za->Ot (Fl×Za)
 |[],U,c=>some (.nx U,c)
 |d :: e,U,c=>match b d U c with
  |some (.nx U',a)=>Zp b e U' a
  |some (.ct U',a)=>Zp b e U' a
  |some (.bk U',a)=>some (.nx U',a)
  |some (.rt v,a)=>some (.rt v,a)
  |none=>none
noncomputable def ZB(c:D->Env->Za->Ot (Fl×Za))(a:Nat):Nat->Nat->Env->Za->Ot (Fl×Za)
 |0,i,U,e=>match e[a]? with
  |some (_,f)=>if f.length<=i then some (.nx U,e) else none
  |none=>none
 |n+1,i,U,e=>match e[a]? with
  |some (_,f)=>match f[i]? with
   |none=>some (.nx U,e)
   |some d=>match c d U e with
    |some (.nx U',b)=>ZB c a n (i+1) U' b
    |some (.ct U',b)=>ZB c a n (i+1) U' b
    |some (.bk U',b)=>some (.nx U',b)
    |some (.rt v,b)=>some (.rt v,b)
    |none=>none
  |none=>none
abbrev Ex:=Env->Za->Ot (Fl×Za)
noncomputable def YG(f g:Ex):Ex:=λU b=>match f U b with
 |some (.nx U',a)=>g U' a
 |r=>r
noncomputable def U3(f:Ev):Ex:=λU b=>match f U b with
 |some (d,a)=>some (.rt d,a)
 |none=>none
noncomputable def Vp(i:Nat)(f:Ev):Ex:=λU b=>match f U b with
 |some (d,a)=>some (.nx (Zh U i d),a)
 |none=>none
noncomputable def Zbt(i j:Nat)(f:Ev):Ex:=λU b=>match f U b with
 |some (.tup [x,y],a)=>some (.nx (Zh (Zh U i x) j y),a)
 |_=>none
noncomputable def Zbu(i j l:Nat)(f:Ev):Ex:=λU b=>match f U b with
 |some (.tup [x,y,z],a)=>some (.nx (Zh (Zh (Zh U i x) j y) l z),a)
 |_=>none
noncomputable def JM(f:Ev):Ex:=λU b=>match f U b with
 |some (_,a)=>some (.nx U,a)
 |none=>none
noncomputable def QY(a:Nat)(d:D)(c:Za):Ot Za:=match c[a]? with
 |some (true,b)=>if b.length < Zn then some (c.set a (true,b++[d])) else none
 |_=>none
noncomputable def Wc(a:Nat)(j:Int)(d:D)(c:Za):Ot Za:=match c[a]? with
 |some (true,b)=>match ixN b.length j with
  |some p=>some (c.set a (true,b.set p d))
  |none=>none
 |_=>none
noncomputable def UE(i:Nat)(f:Ev):Ex:=λU e=>match U[i]? with
 |some (some (.lst a))=>match f U e with
  |some (d,c)=>match QY a d c with
   |some b=>some (.nx U,b)
   |none=>none
  |none=>none
 |_=>none
noncomputable def JQ(o f:Ev):Ex:=λU g=>match o U g with
 |some (.lst a,e)=>match f U e with
  |some (d,c)=>match QY a d c with
   |some b=>some (.nx U,b)
   |none=>none
  |none=>none
 |_=>none
noncomputable def ZeE(a b:Nat)(c:Za):Ot Za:=match c[a]?,c[b]? with
 |some (true,e),some (true,d)=>if e.length+d.length<=Zn then some (c.set a (true,e++d)) else none
 |_,_=>none
noncomputable def Zaf(i:Nat)(f:Ev):Ex:=λU e=>match U[i]? with
 |some (some (.lst a))=>match f U e with
  |some (.lst b,d)=>match ZeE a b d with
   |some c=>some (.nx U,c)
   |none=>none
  |_=>none
 |_=>none
noncomputable def U0(i:Nat)(k f:Ev):Ex:=λU g=>match f U g with
 |some (d,e)=>match U[i]? with
  |some (some (.lst a))=>match k U e with
   |some (.int j,c)=>match Wc a j d c with
    |some b=>some (.nx U,b)
    |none=>none
   |_=>none
  |some (some (.dic a))=>match k U e with
   |some (.tup ks,c)=>match dput a (.tup ks) d c with
    |some b=>some (.nx U,b)
    |none=>none
   |_=>none
  |_=>none
 |none=>none
noncomputable def Wm(o k f:Ev):Ex:=λU h=>match f U h with
 |some (d,g)=>(match o U g with
  |some (.dic a,e)=>(match k U e with
   |some (.tup ks,c)=>(match dput a (.tup ks) d c with
    |some b=>some (.nx U,b)
    |none=>none)
   |_=>none)
  |_=>none)
 |none=>none
noncomputable def VS(i:Nat)(x:Str)(f:Ev):Ex:=λU g=>match f U g with
 |some (d,b)=>(match U[i]? with
  |some (some (.dic a))=>(match b[a]? with
   |some (true,.int c :: e)=>if e.length < 900 then some (.nx U,b.set a (true,.int c :: Yb x d e)) else none
   |_=>none)
  |_=>none)
 |none=>none
noncomputable def Yp(c:Ev)(f g:Ex):Ex:=λU b=>match c U b with
 |some (.bl true,a)=>f U a
 |some (.bl false,a)=>g U a
 |_=>none
noncomputable def Wo(i:Nat)(rng:Bool)(g:Ev)(b:Ex):Ex:=λU f=>match g U f with
 |some (x,c)=>match Wu rng x with
  |some e=>Zp (λd U s=>b (Zh U i d) s) e U c
  |none=>match rng,x with
   |false,.lst a=>match c[a]? with
    |some (_,e)=>ZB (λd U s=>b (Zh U i d) s) a e.length 0 U c
    |none=>none
   |_,_=>none
 |none=>none
noncomputable def VQ(i:Nat)(f:Ev)(b:Ex):Ex:=λU e=>match f U e with
 |some (x,a)=>match Vb x with
  |some c=>Zp (λd U s=>b (Zh U i d) s) (c.map .int) U a
  |none=>none
 |none=>none
noncomputable def ZM(ok:Za->Prop)(b:D->D->Env->Za->Ot (Fl×Za)):Li (D×D)->Env->Za->Ot (Fl×Za)
 |[],U,c=>open Classical in if ok c then some (.nx U,c) else none
 |p :: d,U,c=>open Classical in if ok c then (match b p.1 p.2 U c with
  |some (.nx U',a)=>ZM ok b d U' a
  |some (.ct U',a)=>ZM ok b d U' a
  |some (.bk U',a)=>some (.nx U',a)
  |some (.rt v,a)=>some (.rt v,a)
  |none=>none) else none
noncomputable def Zah(i j:Nat)(g:Ev)(b:Ex):Ex:=λU f=>match g U f with
 |some (.tup [.lst la,.lst c],a)=>match a[la]?,a[c]? with
  |some e,some d=>ZM (λs=>s[la]?=some e/\s[c]?=some d) (λx y U s=>b (Zh (Zh U i x) j y) s) (e.2.zip d.2) U a
  |_,_=>none
 |_=>none
noncomputable def Wn:Nat->Li D->Li (D×D)
 |_,[]=>[]
 |k,x :: a=>(.int (k:Int),x) :: Wn (k+1) a
noncomputable def ZgZ(x:D)(d:Za):Ot (Li D×(Za->Prop)):=match x with
 |.tup b=>some (b,λ_=>True)
 |.lst a=>match d[a]? with
  |some c=>some (c.2,λs=>s[a]?=some c)
  |none=>none
 |_=>none
noncomputable def Zag(i j:Nat)(e:Ev)(b:Ex):Ex:=λU d=>match e U d with
 |some (x,a)=>match ZgZ x a with
  |some (c,ok)=>ZM ok (λx y U s=>b (Zh (Zh U i x) j y) s) (Wn 0 c) U a
  |none=>none
 |none=>none
noncomputable def itQ:D->Ot (D×D)
 |.tup [k,v]=>some (k,v)
 |_=>none
noncomputable def VR(i j:Nat)(o:Ev)(b:Ex):Ex:=λU e=>match o U e with
 |some (.dic a,d)=>(match d[a]? with
  |some c=>if Yh c.2=false then ZM (λs=>s[a]?=some c) (λx y U s=>b (Zh (Zh U i x) j y) s) (c.2.filterMap itQ) U d else none
  |none=>none)
 |_=>none
noncomputable def Ui(i j:Nat)(b:Ex)(d:D)(U:Env)(s:Za):Ot (Fl×Za):=match d with
 |.tup [x,y]=>b (Zh (Zh U i x) j y) s
 |_=>none
noncomputable def VP(i j:Nat)(f:Ev)(b:Ex):Ex:=λU e=>match f U e with
 |some (.lst a,c)=>match c[a]? with
  |some (_,d)=>ZB (Ui i j b) a d.length 0 U c
  |none=>none
 |some (.tup d,c)=>Zp (Ui i j b) d U c
 |_=>none
noncomputable def YA(f g:Ex):Ex:=λU b=>match f U b with
 |some (.nx U',a)=>g U' a
 |some (.ct U',a)=>g U' a
 |some (.bk U',a)=>some (.nx U',a)
 |some (.rt v,a)=>some (.rt v,a)
 |none=>none
noncomputable def ZW(c:Ev)(b:Ex):Nat->Ex
 |0=>λ_ _=>none
 |n+1=>Yp c (YA b (ZW c b n)) λU a=>some (.nx U,a)
noncomputable def ex(F:Nat->Fn):CS->Ex
 |.skip=>λU g=>some (.nx U,g)
 |.seq a b=>YG (ex F a) (ex F b)
 |.ret e=>U3 (ev F e)
 |.set i e=>Vp i (ev F e)
 |.app i e=>UE i (ev F e)
 |.ext i e=>Zaf i (ev F e)
 |.put i k e=>U0 i (ev F k) (ev F e)
 |.ite c a b=>Yp (ev F c) (ex F a) (ex F b)
 |.for1 i rng d b=>Wo i rng (ev F d) (ex F b)
 |.forP i j d b=>Zah i j (ev F d) (ex F b)
 |.forE i j d b=>Zag i j (ev F d) (ex F b)
 |.for3 i d b=>VQ i (ev F d) (ex F b)
 |.set2 i j e=>Zbt i j (ev F e)
 |.for4 _ _ _ _ _=>λ_ _=>none
 |.for2 i j d b=>VP i j (ev F d) (ex F b)
 |.whl c b=>ZW (ev F c) (ex F b) 1000
 |.brk=>λU g=>some (.bk U,g)
 |.cont=>λU g=>some (.ct U,g)
 |.stop=>λ_ _=>none
 |.set3 i j l e=>Zbu i j l (ev F e)
 |.act e=>JM (ev F e)
 |.dput _ a b e=>Wm (ev F a) (ev F b) (ev F e)
 |.fset i f e=>VS i f (ev F e)
 |.forI i j o b=>VR i j (ev F o) (ex F b)
 |.app2 o e=>JQ (ev F o) (ev F e)
structure FD where
 ps:Nat
 ns:Nat
 body:CS
noncomputable def fnD(F:Nat->Fn)(f:FD):Fn:=λb c=>
 if b.length=f.ps then
  match ex F f.body (b.map some++List.replicate (f.ns - b.length) none) c with
  |some (.rt d,a)=>some (d,a)
  |some (.nx _,a)=>some (.non,a)
  |_=>none
 else none
noncomputable def run(T:Nat->Ot FD):Nat->Nat->Fn
 |0,_=>λ_ _=>none
 |n+1,i=>match T i with
  |some f=>fnD (run T n) f
  |none=>λ_ _=>none
inductive GV where
 |fn (i:Nat) (ps:Nat) (ds:List D)|c (d:D)|blt|dct (ks:List Str) (ds:List D)|cls (i:Nat) (ms:List (Str×Nat×Nat)) (subs:List Nat) (ds:List D)
abbrev Gs:=Li (Str×GV)
noncomputable def CE.ofConst:Const->Ot CE
 |.none=>some (.c .non)
 |.bool b=>some (.c (.bl b))
 |.int i=>some (.c (.int i))
 |.str x=>some (.c (.str x))
 |_=>none
noncomputable def Y2(sc:Scope)(x:Str):Bool:=!(x==("__debug__":Str))&&!(x==("__classdict__":Str))&&match sc.names.lookup x with
 |some .local=>true
 |some .cell=>true
 |some .free=>true
 |_=>false
noncomputable def ZA(sc:Scope)(x:Str):Bool:=!(x==("__debug__":Str))&&match sc.names.lookup x with
 |some .globalImplicit=>true
 |_=>false
noncomputable def ZgW(x:Str):Ot Ty:=
 if x = "int" then some .int else if x = "bool" then some .bool else if x = "str" then some .str else if x = "tuple" then some .tuple else none
noncomputable def ZP(sc:Scope):Li Str:=(sc.names.filter λp=>decide (p.2=.free)).map (·.1)
noncomputable def Zel(f:Str)(x:CE):Ot CE:=
 if f = "len" then some (.len x) else if f = "tuple" then some (.tOf x) else if f = "list" then some (.listOf x) else none
noncomputable def Zem(f:Str)(x y:CE):Ot CE:=if f = "min" then some (.min x y) else if f = "max" then some (.max x y) else none
noncomputable def QE(G:Gs)(x:Str):Bool:=match G.lookup x with
 |some .blt=>true
 |_=>false
noncomputable def ZfX(G:Gs)(sc:Scope)(t:Str):Ot Ty:=if ZA sc t&&QE G t then ZgW t else none
noncomputable def QU(G:Gs)(sc:Scope):Expr->Ot Ty
 |.Name t _=>ZfX G sc t
 |_=>none
noncomputable def UK(_:Gs)(_:Scope)(_:Expr):Ot (Li Nat):=none
noncomputable def ZdL(m:Str)(k:Nat)(G:Gs)(x:Str):Ot (Nat×Nat):=match G.lookup x with
 |some (.cls i b _ _)=>(match b.lookup m with
  |some (j,a)=>if a=k+1 then some (i,j) else none
  |none=>none)
 |_=>none
noncomputable def Yw(m:Str)(k:Nat)(G:Gs):Li (Nat×Nat):=(G.map Prod.fst).filterMap (ZdL m k G)
noncomputable def ZdA:Expr->Ot (Str×Li Expr)
 |.Call (.Name f _) a [] _=>some (f,a)
 |_=>none
noncomputable def fnA(G:Gs)(sc:Scope)(nm:Str)(e:Expr):Ot (Li Expr):=(ZdA e).bind λp=>og (p.1=nm/\ZA sc p.1=true/\QE G p.1=true) (some p.2)
noncomputable def Ze5:Li Expr->Ot Expr
 |[a]=>some a
 |_=>none
noncomputable def ZU(G:Gs)(sc:Scope)(e:Expr):Ot Expr:=(fnA G sc "range" e).bind Ze5
noncomputable def Qa(_:Gs)(_:Scope)(_:Str)(_:Expr):Ot Expr:=none
noncomputable def UT(_:Gs)(_:Scope)(_:Str)(_:Expr):Ot (Expr×Expr):=none
noncomputable def o3{g e d a:Type}(f:g->e->d->a):Ot g->Ot e->Ot d->Ot a
 |some x,b,c=>o2 (f x) b c
 |none,_,_=>none
variable{γ:Type}
theorem X4{P:γ->Prop}{f:α->γ}{a:Ot α}{c:γ}(h:a.map f=some c)(k:∀ x,a=some x->P (f x)):P c:=by
 cases a with
 |none=>exact Zc h
 |some x=>cases h;exact k x rfl
variable{β:Type}
theorem ZY{P:γ->Prop}{f:α->β->γ}{a:Ot α}{b:Ot β}{c:γ}(h:o2 f a b=some c)(k:∀ x y,a=some x->b=some y->P (f x y)):P c:=by
 cases a with
 |none=>exact Zc h
 |some x=>cases b with
  |none=>exact Zc h
  |some y=>cases h;exact k x y rfl rfl
theorem Xr{g:Type}{P:g->Prop}{f:α->β->γ->g}{a:Ot α}{b:Ot β}{d:Ot γ}{c:g}(h:o3 f a b d=some c)(k:∀ x y z,a=some x->b=some y->d=some z->P (f x y z)):P c:=by
 cases a with
 |none=>exact Zc h
 |some x=>exact ZY (P:=P) h λy z e i=>k x y z rfl e i
theorem Yq{P:Prop}{p:Prop}[Decidable p]{o:Ot α}{c:α}(h:og p o=some c)(k:p->o=some c->P):P:=by
 unfold og at h;by_cases a:p
 .rw[if_pos a]at h;exact k a h
 .rw[if_neg a]at h;cases h
theorem j_e{P:Prop}{o:Ot (Ot α)}{c:α}(h:o.join=some c)(k:o=some (some c)->P):P:=by
 cases o with
 |none=>exact Zc h
 |some x=>cases h;exact k rfl
noncomputable def ZdK:Expr->Ot Expr
 |.Call (.Attribute (.Name x p) m b) [] [] a=>og (m = "keys"/\(b.endLine==a.line)=true) (some (.Name x p))
 |_=>none
noncomputable def X8(f:Str)(e:Expr):Ot Expr:=if f = "list" then ZdK e else none
noncomputable def JV(G:Gs)(sc:Scope)(f:Str)(a:Expr)(r:Expr->Ot CE):Ot CE:=match X8 f a with
 |some q=>(r q).map .srt
 |none=>match Qa G sc f a with
 |some e=>(r e).map .tupR
 |none=>match UT G sc f a with
  |some (u,v)=>o2 .lstR (r u) (r v)
  |none=>((r a).map (Zel f)).join
noncomputable def JW(G:Gs)(sc:Scope)(f:Str)(a b:Expr)(r:Expr->Ot CE):Ot CE:=if f = "isinstance" then (match UK G sc b with
  |some l=>(r a).map (.isc l)
  |none=>o2 (λx T=>.isi T x) (r a) (QU G sc b)) else (o2 (Zem f) (r a) (r b)).join
noncomputable def JY(G:Gs)(sc:Scope)(f:Str)(d:Li Expr)(h:Ot CE)(r:Expr->Ot CE):Ot CE:=
 if ZA sc f then (match G.lookup f with
   |some (.fn i g e)=>og (d.length<=g/\g<=d.length+e.length) (h.map λc=>.call i c (e.drop (d.length+e.length - g)))
   |some .blt=>match d with
    |[a]=>JV G sc f a r
    |[a,b]=>JW G sc f a b r
    |_=>none
   |some (.cls i j _ e)=>(match j.lookup ("__init__":Str) with
    |some p=>og (d.length+1<=p.2/\p.2<=d.length+1+e.length) (h.map λc=>.mk i p.1 c (e.drop (d.length+1+e.length - p.2)))
    |none=>match d with
     |[]=>some (.new i)
     |_=>none)
   |_=>none) else none
noncomputable def Zdy(G:Gs)(d:Expr)(m:Str)(g:Pos)(c:Li Expr)(f:Pos)(e:Ot CE)(r:Expr->Ot CE):Ot CE:=match d with
 |.Name _ _=>og ((g.endLine==f.line)=true/\c.length < 20) (if m = "index" then og (c.length=1) (o2 .tix (r d) e) else if m = "setdefault" then (match c with|[a,b]=>o3 .dget (r d) (r a) (r b)|_=>none) else o2 (.meth (Yw m c.length G)) (r d) e)
 |.Subscript _ _ _=>og ((g.endLine==f.line)=true/\c.length < 20) (o2 (.meth (Yw m c.length G)) (r d) e)
 |.Call (.Name _ _) (_ :: _) _ _=>og ((g.endLine==f.line)=true/\c.length < 20) (o2 (.meth (Yw m c.length G)) (r d) e)
 |_=>none
noncomputable def Zgg(G:Gs)(sc:Scope)(f:Expr)(b:Li Expr)(d:Pos)(a:Ot CE)(r:Expr->Ot CE):Ot CE:=match f with
 |.Name f _=>JY G sc f b a r
 |.Attribute c m e=>Zdy G c m e b d a r
 |_=>none
noncomputable def fldNames:Li Str:=["program", "trials", "limit", "kept", "done"]
noncomputable def Zgt(o:Expr)(f:Str)(c:Ot CE):Ot CE:=match o with
 |.Name _ _=>og (fldNames.contains f=true) (c.map (.fld f))
 |_=>none
noncomputable def ZeP:Expr->Bool
 |.Slice ..=>true
 |_=>false
noncomputable def Zhc(f:Expr->Ot CE)(keys:Li (Ot Expr))(a:Li Expr):Ot CE:=match keys with
 |[]=>og (a.length=0) (some .dnew)
 |_=>none
noncomputable def Xd(G:Gs)(sc:Scope)(e:Expr):Ot (Li Expr):=(fnA G sc "range" e).bind λa=>og (a.length=2\/a.length=3) (some a)
noncomputable def XE(G:Gs)(sc:Scope)(e:Expr):Ot (Li Expr):=(fnA G sc "zip" e).bind λa=>og (a.length=2) (some a)
noncomputable def Xa(G:Gs)(sc:Scope)(e:Expr):Ot Expr:=(fnA G sc "enumerate" e).bind Ze5
noncomputable def X7(G:Gs)(sc:Scope)(e:Expr):Ot Expr:=Xa G sc e
noncomputable def nmE:Expr->Ot Str
 |.Name x _=>some x
 |_=>none
noncomputable def nmL:Li Expr->Ot (Li Str)
 |[a,b]=>o2 (λx y=>[x,y]) (nmE a) (nmE b)
 |[a,b,c]=>o3 (λx y z=>[x,y,z]) (nmE a) (nmE b) (nmE c)
 |_=>none
noncomputable def tgN:Expr->Ot (Li Str)
 |.Name x _=>some [x]
 |.Tuple a _ _=>nmL a
 |_=>none
noncomputable def mkC(n:Nat)(r:Ot (Ot Bool))(a:Li Nat)(c d e:CE):CE:=if n=3 then .comp3 a c d e else match r with
 |some (some b)=>.comp b a c d e
 |some none=>.comp2 a c d e
 |none=>.compT a c d e
noncomputable def Y5(N:Li Str):Li Str->Ot (Li Nat)
 |[]=>some []
 |x :: r=>match N.idxOf? x,Y5 N r with
  |some i,some a=>some (i :: a)
  |_,_=>none
noncomputable def Za4(G:Gs)(sc:Scope)(N:Li Str)(x:Str):Ot CE:=
 if Y2 sc x then (N.idxOf? x).map .v else if ZA sc x then (match G.lookup x with
  |some (.c d)=>some (.c d)
  |_=>none) else none
noncomputable def QG(G:Gs)(sc:Scope):Expr->Ot (Li Str×Li D)
 |.Name x _=>if ZA sc x then (match G.lookup x with
  |some (.dct ks a)=>some (ks,a)
  |_=>none) else none
 |_=>none
noncomputable def Wb:Expr->Ot (Ot Expr×Ot Expr)
 |.Slice a b none _=>some (a,b)
 |_=>none
noncomputable def ZdU(_:Expr):Ot Expr:=none
noncomputable def Zhi:CE->Bool
 |.neg (.c (.int 1))=>true
 |_=>false
noncomputable def Ws(sc:Scope)(x:Str):Bool:=match sc.names.lookup x with
 |some .cell=>true
 |some .free=>true
 |_=>false
noncomputable def YX(sc a:Scope)(b:Li Str):Bool:=
 decide (a.kind=.function)&&(a.names.all λp=>decide (p.2≠.cell))&&(b.all λx=>decide (a.names.lookup x=some .local))&&(a.names.all λp=>!decide (p.2=.local)||decide (a.names.lookup p.1=some .local)) &&
 decide (b++ZP a).Nodup&&(ZP a).all (λy=>Ws sc y&&decide (a.names.lookup y=some .free))
noncomputable def ZeN(_:CmpOp):Ot Bool:=none
noncomputable def unC(b:UnaryOp)(a:Ot CE):Ot CE:=match b with
 |.Not=>a.map .not
 |.USub=>a.map .neg
 |_=>none
noncomputable def Zgj(G:Gs)(sc:Scope)(f:Expr->Ot CE)(a:Ot CE):Li CmpOp->Li Expr->Ot CE
 |[c],[b]=>(match ZU G sc b with
  |some e=>o3 .inR (ZeN c) a (f e)
  |none=>o2 (.cmp c) a (f b))
 |_,_=>none
noncomputable def Zdz(f:Expr->Ot CE)(d:BoolOp)(c:Pos):Li Expr->Ot CE
 |[]=>none
 |[a]=>f a
 |a :: b :: r=>match d with
  |.And=>o2 .and (f a) (f (.BoolOp .And (b :: r) c))
  |.Or=>o2 .or (f a) (f (.BoolOp .Or (b :: r) c))
noncomputable def ZfU(G:Gs)(sc:Scope)(f:Expr->Ot CE)(c:Ot Expr->Ot CE)(a b:Expr):Ot CE:=match Wb b with
 |some (d,e)=>o3 .slice (f a) (c d) (c e)
 |none=>match ZdU b with
  |some s=>(o2 (λx y=>og (Zhi y=true) (some (.rs false x))) (f a) (f s)).join
  |none=>match QG G sc a with
   |some (ks,g)=>(f b).map (.look ks g)
   |none=>o2 .ix (f a) (f b)
noncomputable def itC(G:Gs)(sc:Scope)(b:Expr)(f:Expr->Ot CE):Li Str->Ot (Ot (Ot Bool)×CE)
 |[_]=>(match ZU G sc b with
  |some a=>(f a).map λc=>(some (some true),c)
  |none=>(f b).map λc=>(some (some false),c))
 |[_,_,_]=>(match Xa G sc b with
  |some _=>none
  |none=>(f b).map λc=>(none,c))
 |_=>(match Xa G sc b with
  |some _=>none
  |none=>(f b).map λc=>(none,c))
noncomputable def ifC(f:Expr->Ot CE):Li Expr->Ot CE
 |[]=>some (CE.c (.bl true))
 |[c]=>f c
 |_=>none
noncomputable def ZdB(G:Gs)(sc a:Scope)(N:Li Str)(f:Expr->Ot CE)(g:Li Str->Expr->Ot CE)(d:Expr):Li Comprehension->Ot CE
 |[⟨e,h,c,0⟩]=>(match tgN e with
  |none=>none
  |some b=>og (YX sc a b=true) (o3 (λi p (q:CE×CE)=>mkC b.length p.1 i p.2 q.1 q.2) (Y5 N (ZP a)) (itC G sc h f b) (o2 Prod.mk (g (b++ZP a) d) (ifC (g (b++ZP a)) c))))
 |_=>none
mutual
noncomputable def cE(G:Gs):Nat->Scope->Li Str->Expr->Ot CE
 |0,_,_,_=>none
 |n+1,sc,N,e=>match e with
  |.Constant c _ _=>CE.ofConst c
  |.Name x _=>Za4 G sc N x
  |.BinOp a h b _=>o2 (.bin h) (cE G n sc N a) (cE G n sc N b)
  |.UnaryOp h a _=>unC h (cE G n sc N a)
  |.Compare a k bs _=>Zgj G sc (cE G n sc N) (cE G n sc N a) k bs
  |.BoolOp h q j=>Zdz (cE G n sc N) h j q
  |.IfExp c a b _=>o3 .ife (cE G n sc N c) (cE G n sc N a) (cE G n sc N b)
  |.Tuple l _ _=>(cEs G n sc N l).map .tupE
  |.List l _=>(cEs G n sc N l).map .lstE
  |.Dict keys d _=>Zhc (cE G n sc N) keys d
  |.Attribute o f _=>Zgt o f (cE G n sc N o)
  |.Subscript a b _=>ZfU G sc (cE G n sc N) (cO G n sc N) a b
  |.Call f p [] r=>Zgg G sc f p r (cEs G n sc N p) (cE G n sc N)
  |.ListComp m i g _=>ZdB G sc g N (cE G n sc N) (cE G n g) m i
  |_=>none
noncomputable def cEs(G:Gs):Nat->Scope->Li Str->Li Expr->Ot CE
 |0,_,_,_=>none
 |_+1,_,_,[]=>some .aN
 |n+1,sc,N,e :: a=>o2 .aC (cE G n sc N e) (cEs G n sc N a)
noncomputable def cO(G:Gs):Nat->Scope->Li Str->Ot Expr->Ot CE
 |0,_,_,_=>none
 |_+1,_,_,none=>some .nop
 |n+1,sc,N,some e=>(cE G n sc N e).map .part
end
noncomputable def Yl:Expr->Bool
 |.ListComp ..=>true
 |.SetComp ..=>true
 |.DictComp ..=>true
 |_=>false
noncomputable def V4:Expr->Bool
 |.Tuple ..=>true
 |_=>false
noncomputable def Zge(N:Li Str)(a e:Expr)(c:Ot CE):Ot CS:=match a with
 |.Name x _=>o2 .set (N.idxOf? x) c
 |.Tuple [.Name x _,.Name y _] _ _=>og ((Yl e||V4 e)=false) (o3 (λi j c=>og (i≠j) (some (.set2 i j c))) (N.idxOf? x) (N.idxOf? y) c).join
 |.Tuple [.Name x _,.Name y _,.Name z _] _ _=>og ((Yl e||V4 e)=false) (o3 (λi j (p:Nat×CE)=>.set3 i j p.1 p.2) (N.idxOf? x) (N.idxOf? y) (o2 Prod.mk (N.idxOf? z) c))
 |_=>none
noncomputable def ZgL(sc:Scope)(N:Li Str)(x:Str)(k e:Expr)(f:Expr->Ot CE):Ot CS:=og (Yl e=false/\ZeP k=false/\Y2 sc x=true) (o3 .put (N.idxOf? x) (f k) (f e))
noncomputable def XC:Expr->Ot Expr
 |.Call (.Attribute (.Attribute o f p) m b) [] [] a=>og (m = "items"/\(b.endLine==a.line)=true) (some (.Attribute o f p))
 |_=>none
noncomputable def ZeJ(G:Gs)(sc:Scope)(N:Li Str)(f:Expr->Ot CE)(fs:Li Expr->Ot CE)(h d:Expr)(b:Ot CS):Ot CS:=match h with
 |.Name x _=>(match Xd G sc d with
  |some g=>o3 .for3 (N.idxOf? x) (fs g) b
  |none=>match ZU G sc d with
   |some a=>o3 (λi c b=>.for1 i true c b) (N.idxOf? x) (f a) b
   |none=>o3 (λi c b=>.for1 i false c b) (N.idxOf? x) (f d) b)
 |.Tuple [.Name x _,.Name y _] _ _=>(o2 (λi j=>og (i≠j) (some (i,j))) (N.idxOf? x) (N.idxOf? y)).join.bind λp=>(match XE G sc d with
  |some g=>o2 (.forP p.1 p.2) (fs g) b
  |none=>match X7 G sc d with
   |some e=>o2 (.forE p.1 p.2) (f e) b
   |none=>match XC d with
    |some e=>o2 (.forI p.1 p.2) (f e) b
    |none=>o2 (.for2 p.1 p.2) (f d) b)
 |.Tuple [.Name x _,.Name y _,.Name z _] _ _=>o3 (λ(p:Nat×Nat) (q:Nat×CE) b=>.for4 p.1 p.2 q.1 q.2 b) (o2 Prod.mk (N.idxOf? x) (N.idxOf? y)) (o2 Prod.mk (N.idxOf? z) (f d)) b
 |_=>none
noncomputable def Zek(sc:Scope)(N:Li Str)(x m:Str)(b a:Pos)(c:Ot CE):Ot CS:=og (Y2 sc x=true/\(b.endLine==a.line)=true) (if m = "append" then o2 .app (N.idxOf? x) c else if m = "extend" then o2 .ext (N.idxOf? x) c else none)
noncomputable def Zga(sc:Scope)(N:Li Str)(f:Expr->Ot CE):Expr->Ot CS
 |.Call (.Name g h) c b a=>(f (.Call (.Name g h) c b a)).map .act
 |.Call (.Attribute (.Name x p) m d) c b a=>if m = "append"\/m = "extend" then (match c,b with
  |[e],[]=>Zek sc N x m d a (f e)
  |_,_=>none) else (f (.Call (.Attribute (.Name x p) m d) c b a)).map .act
 |.Call (.Attribute (.Subscript o k p) m d) [e] [] a=>og (m = "append"/\(d.endLine==a.line)=true) (o2 .app2 (f (.Subscript o k p)) (f e))
 |_=>none
mutual
noncomputable def cS(G:Gs):Nat->Scope->Li Str->Stmt->Ot CS
 |0,_,_,_=>none
 |n+1,sc,N,s=>match s with
  |.Assign [.Subscript (.Name x _) k _] e _=>ZgL sc N x k e (cE G n sc N)
  |.Assign [.Subscript (.Attribute o f p) k _] e _=>og (Yl e=false/\ZeP k=false) (o3 (.dput 0) (cE G n sc N (.Attribute o f p)) (cE G n sc N k) (cE G n sc N e))
  |.Assign [.Attribute (.Name x _) k _] e _=>og (Yl e=false/\Y2 sc x=true/\fldNames.contains k=true) (o2 (λi c=>.fset i k c) (N.idxOf? x) (cE G n sc N e))
  |.Assign [d] e _=>Zge N d e (cE G n sc N e)
  |.Expr e _=>Zga sc N (cE G n sc N) e
  |.Return (some e) _=>(cE G n sc N e).map .ret
  |.If c a b _=>o3 .ite (cE G n sc N c) (cSs G n sc N a) (cSs G n sc N b)
  |.For d g b [] _=>ZeJ G sc N (cE G n sc N) (cEs G n sc N) d g (cSs G n sc N b)
  |.While c b [] _=>o2 .whl (cE G n sc N c) (cSs G n sc N b)
  |.Pass _=>some .skip
  |.Break _=>some .brk
  |.Continue _=>some .cont
  |.Raise _ _ _=>some .stop
  |_=>none
noncomputable def cSs(G:Gs):Nat->Scope->Li Str->Li Stmt->Ot CS
 |0,_,_,_=>none
 |_+1,_,_,[]=>some .skip
 |n+1,sc,N,s :: r=>o2 .seq (cS G n sc N s) (cSs G n sc N r)
end
end Dp
namespace Dp
open PySem PySem.Spec PyProof.Rows L2 PySem.SeqAt
noncomputable instance decD:DecidableEq D:=λa b=>Classical.propDecidable (a=b)
def IsV(h:Heap):Nat->D->vL->Prop
 |_,.int i,u=>∃ t,u=.int i t
 |_,.str x,u=>∃ t,u=.str x t
 |_,.non,u=>u=.none
 |n+1,.tup b,u=>∃ a its,u=.ref a/\h.IsTuple a its/\Paired (IsV h n) b its.toList
 |_,_,_=>False
noncomputable def YN(w:World):Nat->D->Int
 |_,.int i=>keyH w (.inl i)
 |_,.str x=>keyH w (.inr x)
 |_,.non=>reduceHash 0xFCA86420
 |n+1,.tup a=>reduceHash (Builtin.Tuple.tupleHashOf (a.map (YN w n)))
 |_,_=>0
noncomputable def XU:Nat->D->Nat
 |n+1,.tup a=>(a.map (XU n)).sum+1
 |_,_=>1
variable {prog:Program}{w:World}{A:Around}{E:vL->sH7->Prop}{s:sH7}{h h':Heap}
inductive IsW(h:Heap):Nat->D->Value->Prop where
 |int (n:Nat) (i:Int) (t:Tok):IsW h n (.int i) (.int i t)
 |str (n:Nat) (i:Str) (t:Tok):IsW h n (.str i) (.str i t)
 |non (n:Nat):IsW h n .non .none
 |tup {m:Nat}{ds:List D}{a:Addr}{its:Array Value} (p:h.IsTuple a its) (r:Paired (IsV h m) ds its.toList):IsW h (m+1) (.tup ds) (.ref a)
variable{n:Nat}
theorem IsV.view{d:D}{u:vL}(x:IsV h n d u):IsW h n d u:=by
 cases d with
 |int i=>
  obtain⟨t,rfl⟩:∃ t,u=.int i t:=by cases n<;>exact x
  exact .int n i t
 |str i=>
  obtain⟨t,rfl⟩:∃ t,u=.str i t:=by cases n<;>exact x
  exact .str n i t
 |non=>
  have e:u=.none:=by cases n<;>exact x
  subst e;exact .non n
 |tup b=>cases n with
  |zero=>exact False.elim x
  |succ m=>obtain⟨a,its,rfl,p,r⟩:=x;exact .tup p r
 |_=>exact False.elim (by cases n<;>exact x)
variable{i:Int}
theorem Zcw{t:Tok}:IsV h n (.int i) (.int i t):=by cases n<;>exact⟨t,rfl⟩
theorem Zcy{i:Str}{t:Tok}:IsV h n (.str i) (.str i t):=by cases n<;>exact⟨t,rfl⟩
theorem Zcx:IsV h n .non .none:=by cases n<;>rfl
theorem IsV.inj:∀ {n:Nat}{x y:D}{u:vL},IsV h n x u->IsV h n y u->x=y:=by
 intro n
 induction n using Nat.strongRecOn with
 |_ n s=>
  intro x y u t d;cases t.view with
  |int=>cases d.view;rfl
  |str=>cases d.view;rfl
  |non=>cases d.view;rfl
  |@tup m f a its p r=>
   cases d.view with
   |tup l i=>
    obtain⟨o,v,E,k,w⟩:=p;obtain⟨B,b,z,C,c⟩:=l;rw[v]at b;cases b
    rw[w]at c;injection c with A _;subst A
    have go:∀ {f e:Li D}{g:Li vL},Paired (IsV h m) f g->Paired (IsV h m) e g->f=e:=λ{f e g} p=>by
     induction p generalizing e with
     |nil=>intro q;cases q;rfl
     |cons r p j=>intro q;cases q with
      |cons i q=>rw[s m (bN m) r i,j q]
    rw[go r i]
theorem IsV.map(k:∀ a its,h.IsTuple a its->h'.IsTuple a its):∀ {n:Nat}{x:D}{u:vL},IsV h n x u->IsV h' n x u:=by
 intro n
 induction n using Nat.strongRecOn with
 |_ n b=>
  intro x u c;cases c.view with
  |int=>exact Zcw
  |str=>exact Zcy
  |non=>exact Zcx
  |@tup m d a its p r=>exact⟨a,its,rfl,k _ _ p,Paired.mapP r λx y q=>b m (bN m) q⟩
theorem Zeh{d c:Li D}:((List.range (min d.length c.length)).all (λi=>decide ((d[i]?).getD .non=(c[i]?).getD .non))&&d.length==c.length)=decide (d=c):=by
 rw[bK,bA7,bU,decide_eq_true_iff,beq_iff_eq];constructor
 .rintro⟨f,e⟩
  refine List.ext_getElem e λi a b=>?_
  have:=f i (cR.mpr (by omega))
  rw[decide_eq_true_iff,lG7 a,lG7 b]at this;exact this
 .rintro rfl
  exact⟨λi _=>aG rfl,rfl⟩
theorem Xs{m:Nat}:∀ {ds:Li D}{vs:Li vL},Paired (IsV h m) ds vs->ds.length=vs.length/\∀ i (a:i < ds.length) (b:i < vs.length),IsV h m ds[i] vs[i]
 |_,_,.nil=>⟨rfl,λi a=>nomatch a⟩
 |_,_,.cons r p=>by
  obtain⟨l,g⟩:=Xs p;refine⟨congrArg (·+1) l,λi a b=>?_⟩
  cases i with
  |zero=>exact r
  |succ i=>exact g i _ _
theorem dec_int{j:Int}:decide (D.int i=D.int j)=(i==j):=by rw[bK,decide_eq_true_iff,beq_iff_eq];exact⟨D.int.inj,congrArg _⟩
theorem dec_str{i j:Str}:decide (D.str i=D.str j)=(i==j):=by rw[bK,decide_eq_true_iff,beq_iff_eq];exact⟨D.str.inj,congrArg _⟩
theorem Zb5{i j:Li D}:decide (D.tup i=D.tup j)=decide (i=j):=by rw[bK,decide_eq_true_iff,decide_eq_true_iff];exact⟨D.tup.inj,congrArg _⟩
theorem eqV:∀ {n:Nat}{x y:D}{A:Around}{u v:vL},A.units+n < cLine->IsV s.heap n x u->IsV s.heap n y v->EqAt A s u v (decide (x=y)):=by
 intro n
 induction n using Nat.strongRecOn with
 |_ n H=>
  intro x y A u v I w f;cases w.view with
  |int _ i t=>
   cases f.view with
   |int _ j c=>exact dec_int ▸ EqAt.int_int i t j c
   |str _ j c=>rw[aE (λe=>nomatch e)];exact EqAt.int_str i t j c
   |non=>rw[aE (λe=>nomatch e)];exact EqAt.int_none i t
   |tup p r=>rw[aE (λe=>nomatch e)];exact EqAt.int_tuple i t p (by omega)
  |str _ i t=>
   cases f.view with
   |int _ j c=>rw[aE (λe=>nomatch e)];exact EqAt.str_int i t j c
   |str _ j c=>exact dec_str ▸ EqAt.str_str i t j c
   |non=>rw[aE (λe=>nomatch e)];exact EqAt.str_none i t
   |tup p r=>rw[aE (λe=>nomatch e)];exact EqAt.str_tuple i t p (by omega)
  |non=>
   cases f.view with
   |int _ j c=>rw[aE (λe=>nomatch e)];exact EqAt.none_int j c
   |str _ j c=>rw[aE (λe=>nomatch e)];exact EqAt.none_str j c
   |non=>rw[aG rfl];exact EqAt.same _
   |tup p r=>rw[aE (λe=>nomatch e)];exact EqAt.none_tuple p (by omega)
  |@tup m k a its p r=>
   cases f.view with
   |non=>rw[aE (λe=>nomatch e)];exact EqAt.tuple_none p (by omega)
   |int _ j c=>rw[aE (λe=>nomatch e)];exact EqAt.tuple_int j c p (by omega)
   |str _ j c=>rw[aE (λe=>nomatch e)];exact EqAt.tuple_str j c p (by omega)
   |@tup _ h b d G F=>
    by_cases g:a=b
    .subst g
     rw[aG (w.inj f)];exact EqAt.same _
    .obtain⟨o,g1⟩:=Xs r
     obtain⟨l,g2⟩:=Xs F;refine EqAt.of_refs g ?_;have q:=RcAt.tuples (A:=A) (s:=s) (e:=λi=>decide ((k[i]?).getD .non=(h[i]?).getD .non)) p G (by omega) λj B z=>?_
     .rw[show its.size=k.length from o.symm,show d.size=h.length from l.symm,Zeh]at q
      rw[Zb5];exact q
     .have E:j < k.length:=o ▸ B
      have C:j < h.length:=l ▸ z;rw[lG7 E,lG7 C];exact H m (bN m) (A:=A.in1) (by show A.units+1+m < cLine;omega) (g1 j E B) (g2 j C z)
variable {prog:Program}{w:World}{A:Around}{E:vL->sH7->Prop}{s:sH7}{h h':Heap}
theorem Jh:YN w n (.int i)=keyH w (.inl i):=by cases n<;>rfl
theorem Jj{i:Str}:YN w n (.str i)=keyH w (.inr i):=by cases n<;>rfl
theorem Q9:XU n (.int i)=1:=by cases n<;>rfl
theorem Jb{i:Str}:XU n (.str i)=1:=by cases n<;>rfl
theorem Ji:YN w n .non=reduceHash 0xFCA86420:=by cases n<;>rfl
theorem Ja:XU n .non=1:=by cases n<;>rfl
theorem Zaj{Q:Int->sH7->Prop}(hu:A.units < cLine)(h:Q (reduceHash 0xFCA86420) { s with toks:=s.toks+1 }):wpAny (model prog w) A (pyHash .none) Q E s:=by
 have a:s.TypeIs .none "NoneType":=rfl;unfold pyHash
 first|unfold pyHashByItsType|skip
 first|refine aA (wpAny_cRoomFor_or (.inr (by omega)) ?_)|skip
 refine aA (wpAny_specialOf a F.slot_NoneType_hash.lookup ?_);show wpAny _ _ (if (some (Value.builtin "NoneType.__hash__")==some Value.none)=true then _ else _) Q E s
 rw[if_neg (by rw[beq_builtin_none];exact bF7)]
 refine aA (wpAny_specialOf a F.slot_NoneType_hash.lookup ?_);show wpAny _ _ (callSpecialIfBoundUnlessNone? .none "__hash__" _ >>= _) Q E s;refine aA (wpAny_callSpecialIfBoundUnlessNone?_slot a F.slot_NoneType_hash (wpAny_call_entry F.slot_NoneType_hash a F.entry_NoneType_hash ?_ (F.args_NoneType_hash_1 _)));show wpAny _ _ (retInt 0xFCA86420) _ _ _;refine wpAny_ret_mkInt ?_;show wpAny _ _ (if (decide (-(2:Int) ^ 63<=0xFCA86420)&&decide ((0xFCA86420:Int) < 2 ^ 63))=true then _ else _) Q E _
 have b:(decide (-(2:Int) ^ 63<=0xFCA86420)&&decide ((0xFCA86420:Int) < 2 ^ 63))=true:=by decide
 unfold reduceHash at h;rw[if_pos b]at h ⊢;exact aB h
theorem ZcR:∀ {n:Nat}{d:D}{A:Around}{u:vL}{s:sH7}{Q:Int->sH7->Prop},A.units+n < cLine->IsV s.heap n d u->Q (YN w n d) { s with toks:=s.toks+XU n d }->wpAny (model prog w) A (pyHash u) Q E s:=by
 intro n
 induction n using Nat.strongRecOn with
 |_ n C=>
  intro d A u s Q K G h;cases G.view with
  |int _ i t=>
   rw[Jh,Q9]at h;exact(mixKind prog w).pyHash (mixKind_int prog w i t) h
  |str _ i t=>
   rw[Jj,Jb]at h;exact(mixKind prog w).pyHash (mixKind_str prog w i t) h
  |non=>
   rw[Ji,Ja]at h;exact Zaj (by omega) h
  |@tup m B a its p r=>
   obtain⟨o,z,I,k,H⟩:=p;have l:s.TypeIs (.ref a) "tuple":=⟨o,z,I⟩;unfold pyHash
   first|unfold pyHashByItsType|skip
   first|refine aA (wpAny_cRoomFor_or (.inr (by omega)) ?_)|skip
   refine aA (wpAny_specialOf l F.slot_tuple_hash.lookup ?_);show wpAny _ _ (if (some (Value.builtin "tuple.__hash__")==some Value.none)=true then _ else _) Q E s
   rw[if_neg (by rw[beq_builtin_none];exact bF7)]
   refine aA (wpAny_specialOf l F.slot_tuple_hash.lookup ?_);show wpAny _ _ (callSpecialIfBoundUnlessNone? (.ref a) "__hash__" _ >>= _) Q E s;refine aA (wpAny_callSpecialIfBoundUnlessNone?_slot l F.slot_tuple_hash (wpAny_call_entry F.slot_tuple_hash l F.entry_tuple_hash ?_ (F.args_tuple_hash_1 _)));show wpAny _ _ (Builtin.Tuple.tupleItemsOf (.ref a) >>= _) _ _ s;refine aA (wpAny_tupleItemsOf z H ?_)
   refine aA ?_;rw[<-Array.forIn_toList];refine wpAny_forIn_list _
    (λc (b:Array Int) q=>∃ done left,B=done++left/\Paired (IsV s.heap m) left c/\b.toList=done.map (YN w m)/\q={ s with toks:=s.toks+(done.map (XU m)).sum })
    _ ?_ ?_ _ _ ⟨[],B,rfl,r,rfl,rfl⟩
   .rintro x c b q ⟨done,left,rfl,v,j,rfl⟩
    cases v with
    |@cons y _ e _ J f=>
     refine aA (C m (bN m) (by show A.units+1+m < cLine;omega) J ?_)
     first
      |exact aB ⟨done++[y],e,by simp,f,by simp[j],by simp[cV]⟩
      |exact aA (aB (aB ⟨done++[y],e,by simp,f,by simp[j],by simp[cV]⟩))
   .rintro b q ⟨done,left,rfl,v,j,rfl⟩
    cases v;rw[bB]at h;show wpAny _ _ (retInt (Builtin.Tuple.tupleHashOf b.toList)) _ _ _;rw[j];refine wpAny_ret_mkInt ?_;show wpAny _ _ (if (decide (-(2:Int) ^ 63<=Builtin.Tuple.tupleHashOf (done.map (YN w m)))&&decide (Builtin.Tuple.tupleHashOf (done.map (YN w m)) < 2 ^ 63))=true then _ else _) Q E _
    have h:Q (reduceHash (Builtin.Tuple.tupleHashOf (done.map (YN w m)))) { s with toks:=s.toks+((done.map (XU m)).sum+1) }:=h
    unfold reduceHash at h;by_cases g:(decide (-(2:Int) ^ 63<=Builtin.Tuple.tupleHashOf (done.map (YN w m)))&&decide (Builtin.Tuple.tupleHashOf (done.map (YN w m)) < 2 ^ 63))=true
    .rw[if_pos g]
     rw[if_pos g]at h;exact aB (by simpa[cV] using h)
    .rw[if_neg g]
     rw[if_neg g]at h;exact aA (wpAny_rule (aB (by simpa[cV] using h)))
theorem Zfx{M:Model}:∀ {n:Nat}{d:D}{u:vL}{s:sH7}{Q:Bool->sH7->Prop},IsV s.heap n d u->Q true s->wpAny M A (eqIsQuiet n u) Q E s:=by
 intro n
 induction n using Nat.strongRecOn with
 |_ n q=>
  intro d u s Q w h;cases w.view with
  |int _ i t=>
   rw[eqIsQuiet_byValue _ rfl];exact aB h
  |str _ i t=>
   rw[eqIsQuiet_byValue _ rfl];exact aB h
  |non=>
   rw[eqIsQuiet_byValue _ rfl];exact aB h
  |@tup m C a its p r=>
   obtain⟨o,j,z,k,y⟩:=p;have l:s.TypeIs (.ref a) "tuple":=⟨o,j,z⟩;unfold eqIsQuiet;refine aA (wpAny_specialOf l F.slot_tuple_eq.lookup ?_);show wpAny _ _ (isInstance (.ref a) (.type "tuple") >>= _) _ _ s;refine aA (wpAny_isInstance l isSubtype_tuple_tuple ?_);simp only[Bool.not_true,bV,if_false];refine aA (wpAny_seqItems j y ?_);refine aA ?_
   show wpAny _ _ (forIn its _ _) _ _ s;rw[<-Array.forIn_toList];refine wpAny_forIn_list _ (λb r c=>r.1=none/\c=s/\∃ left,Paired (IsV s.heap m) left b) _ ?_ ?_ _ _ ⟨rfl,rfl,C,r⟩
   .rintro v b r c ⟨f,rfl,left,x⟩
    cases x with
    |@cons I _ e _ B g=>
     refine aA (q m (bN m) B ?_);simp only[Bool.not_true,bV,if_false];exact aB ⟨rfl,rfl,e,g⟩
   .rintro⟨H,G⟩ c ⟨f,rfl,_⟩
    simp only at f;subst f;exact aB h
noncomputable def Za5(prog:Program)(w:World):HeapKind prog w D where
 is:=λh d a=>IsV h 8 d (.ref a)
 hash:=YN w 8
 draws:=XU 8
 room:=λA=>A.units+8 < cLine
 inj:=λc b=>c.inj b
 keeps:=λx m n l=>x.map λa its ⟨o,j,p,k,i⟩=>⟨o,(l.2 a λe=>by subst e;rw[m]at j;cases j;rw[n]at i;exact nomatch i).trans j,p,k,i⟩
 pyHash:=λf g h=>ZcR f g h
 eqBool:=λf c b h=>eqV f c b _ _ _ _ h
 quiet:=λg h=>Zfx g h
def ZbB(K:fG7):TE:=λ_ H Q=>∀ p,H p=none->(∀ o,K.lookup p≠some o)->Q (.ref p) (upd H p (.dN λ_=>[]))
theorem Zbh{X:Cx}{b:Pos}:PE X (.Dict [] [] b) (ZbB X.K):=λc s O H Q I h=>
 wpAny_Dict_empty ⟨.ref s.heap.objs.size,_,I.laid (a:=s.heap.objs.size) (o:=.dN λ_=>[]) (t':=s.toks) (λ_ _ q=>aQ _ q) (aF _) ⟨cD.mpr (Ne.symm (bA I.big)),_,#[],aW _ rfl,⟨rfl,rfl,rfl⟩,rfl,rfl⟩,rfl,h _ (I.hok.fresh (aF _)) λo z=>absurd (aL (I.kIn _ o z)) (bZ _)⟩
variable{d a:Ad}
section
variable {prog:Program}{w:World}{K:Type} [DecidableEq K] {knd:HeapKind prog w K}{A:Around}{E:vL->sH7->Prop}{s:sH7}
def DictE(knd:HeapKind prog w K)(h:Heap)(d:Ad)(a:Li (K×Ad×vL)):Prop:=∃ o b,h.get? d=some o/\o.ExactDict/\o.data=.dict b b.size/\b.toList=a.map (entryOfKey knd)/\(∀ x∈a,knd.is h x.1 x.2.1)/\(a.map (·.1)).Nodup
theorem DictE.typeIs{a:Li (K×Ad×vL)}(b:DictE knd s.heap d a):s.TypeIs (.ref d) "dict":=let ⟨o,_,ho,hc,_⟩:=b;⟨o,ho,hc.1⟩
theorem ZfQ{f:Li (K×Ad×vL)}{k:K}{v:vL}{Q:Unit->sH7->Prop}(hu:knd.room A)(b:knd.is s.heap k a)(B:DictE knd s.heap d f)(hz:f.length<=sizeLine)(F:atKey f k=none)(G:∀ h',DictE knd h' d (f++[(k,a,v)])->Heap.SameBut d s.heap h'->Q () { s with heap:=h',toks:=s.toks+knd.draws k }) :
  wpAny (model prog w) A (dictSet d (.ref a) v) Q E s:=by
 obtain⟨o,u,g,D,c,r,i,q⟩:=B;have H:=size_of_entries r;unfold dictSet
 try with_reducible refine wpAny_holding ?_
 refine aA (knd.pyHash hu b ?_);unfold dictSetHashed
 try with_reducible refine wpAny_holding ?_
 refine aA (wpAny_dictFind_heap (s:={ s with toks:=s.toks+knd.draws k }) hu b g c r i q (λn=>?_) (λj p C=>?_))
 .have h:k∉f.map (·.1):=not_mem_keys_of_get n
  have m:u.size+1=(u.push ⟨knd.hash k,.ref a,v⟩).size:=(Array.size_push _).symm;refine aA (wpAny_rule (wpAny_updateDictKeys (hz:=by omega) (s:={ s with toks:=s.toks+knd.draws k }) g c (G _ ⟨_,_,Heap.get?_update_self _ g (Obj.isFreed_of_dict (Obj.data_mapDictKeys c _)),D.mapDictKeys _,(Obj.data_mapDictKeys c _).trans (by rw[m]),by simp[r,entryOfKey],λx l=>?_,?_⟩ (Heap.SameBut.update ..))))
  .rcases bE.mp l with z|z
   .exact knd.keeps (i x z) g c (Heap.SameBut.update ..)
   .rw[aO.mp z]
    exact knd.keeps b g c (Heap.SameBut.update ..)
  .rw[aX,cM]
   refine⟨q,by simp,λx l y t e=>?_⟩
   rw[aJ,dH]at t;rw[aO.mp t]at e;exact h ((show x=k from e) ▸ l)
 .have:=atKey_of_get q C
  rw[F]at this;cases this
theorem Zbv{e:Li (K×Ad×vL)}{k:K}{v:vL}{Q:Unit->sH7->Prop}(hu:knd.room A.in1)(c:knd.is s.heap k a)(b:DictE knd s.heap d e)(h:e.length<=sizeLine)(i:atKey e k=none)(j:∀ h',DictE knd h' d (e++[(k,a,v)])->Heap.SameBut d s.heap h'->Q () { s with heap:=h',toks:=s.toks+knd.draws k }) :
  wpAny (model prog w) A (setItem (.ref d) (.ref a) v) Q E s:=by
 unfold setItem
 try with_reducible refine wpAny_holding ?_
 refine aA (wpAny_sequenceKey b.typeIs (by decide) (aA (wpAny_callSpecial?_slot (name:=Str.ofString "__setitem__") b.typeIs slot_dict_setitem (wpAny_call_entry slot_dict_setitem b.typeIs entry_dict_setitem ?_ (args_dict_setitem _ _ _)))))
 show wpAny _ _ (Builtin.Dict.notOrdered "__setitem__" ⟨[.ref d,.ref a,v],[]⟩ >>= λ_=>dictSet d (.ref a) v >>= _) _ _ s
 exact aA (wpAny_notOrdered_dict b.typeIs (aA (ZfQ hu c b h i λh' g f=>aB ⟨.none,rfl,aB (j h' g f)⟩)))
end
variable{es:Array DictEntry}{ep:Nat}{it:Ad}{Q:Ot vL->sH7->Prop}
variable{prog:Program}{w:World}{A:Around}{E:vL->sH7->Prop}{s:sH7}
def Raw(h:Heap)(d:Ad)(es:Array DictEntry)(ep:Nat):Prop:=∃ o,h.get? d=some o/\o.ExactDict/\o.data=.dict es ep
theorem Raw.typeIs(x:Raw s.heap d es ep):s.TypeIs (.ref d) "dict":=let ⟨o,ho,hc,_⟩:=x;⟨o,ho,hc.1⟩
theorem UY:Builtin.Dict_items.ownsTuple "dict_itemiterator"=true:=by decide
theorem Js(d:Ad)(hd:(d==sysModules)=false) :
  MeetsIn prog w (Builtin.«dict.items» ⟨[.ref d],[]⟩) (λ_ R s=>(∃ es ep,Raw s.heap d es ep) /\
   R (.ok (.ret (.ref s.heap.objs.size))) { s with heap:=s.heap.push { cls:=.type "dict_items",data:=.fields #[.ref d] } }):=
 .of_wp λA R s ⟨⟨es,ep,a⟩,h⟩=>by
  refine aA ?_;unfold Builtin.Dict.noArgs;refine aA (wpAny_notOrdered_dict a.typeIs (aB ?_));show wpAny _ _ (Builtin.Dict.showsAll d >>= _) _ _ s;unfold Builtin.Dict.showsAll;rw[if_neg (by rw[hd];exact bF7)]
  exact aA (aB (aA (wpAny_newObj_type (aB ⟨_,rfl,h⟩))))
theorem ZaR{v:Ad}{Q:vL->sH7->Prop}(b:s.heap.IsItemsView v d)(g:Raw s.heap d es ep)(i:Q (.ref s.heap.objs.size) { s with heap:=s.heap.push { cls:=.type "dict_itemiterator",data:=.fields #[.none,.bool false,.ref d,.int 0 0,.int es.size 0,.int ep 0,.none,.none] } }) :
  wpAny (model prog w) A (pyIter (.ref v)) Q E s:=by
 obtain⟨j,c,h,e⟩:=id b;obtain⟨o,f,k,a⟩:=id g;refine wpAny_pyIter_slot b.typeIs F.slot_dict_items_iter (wpAny_call_entry F.slot_dict_items_iter b.typeIs F.entry_dict_items_iter ?_ (F.args_dict_items_iter_1 _));unfold Builtin.«dict_items.__iter__»
 refine aA (aB (aA ?_));unfold Builtin.Dict_items.dictOf;refine aA (wpAny_field c e (x:=.ref d) rfl (aB (aA ?_)));unfold Builtin.Dict_items.newIterator;refine aA (wpAny_dictEntries f a (aA (wpAny_dictEpoch f a ?_)));simp only[UY,if_true];refine wpAny_newObj_type (aB ⟨_,rfl, "dict_itemiterator",_,⟨_,aW _ rfl,rfl⟩,F.slot_dict_itemiterator_next.lookup,?_⟩) (by simp only[sizeOk,Builtin.Dict_items.ownedTupleFields,aM,aI,aP,dI,sizeLine_eq];omega)
 simpa[rawInt,Builtin.Dict_items.ownedTupleFields] using i
theorem ZcM{i:Nat}{ok L:vL}(G:IsItemIter s.heap it d i es.size ep ok L)(U:Raw s.heap d es ep)(S:i < es.size)(W:∀ h',IsItemIterOut h' it d (i+1) es.size ep es[i].key es[i].val s.heap.objs.size->h'.get? s.heap.objs.size=some { cls:=.type "tuple",data:=.seq #[es[i].key,es[i].val] }->(∀ b o,b≠it->s.heap.get? b=some o->h'.get? b=some o)->Q (some (.ref s.heap.objs.size)) { s with heap:=h' }) :
  wpAny (model prog w) A (pyNext (.ref it)) Q E s:=by
 obtain⟨D,g,R,K,M⟩:=s;obtain⟨X,N,V,O⟩:=id U;have P:Shared.TypeIs ⟨D,g,R,K,M⟩ (.ref it) "dict_itemiterator":=⟨_,G,rfl⟩;unfold pyNext;refine aA (wpAny_attempt (wpAny_callSpecial?_slot (name:=Str.ofString "__next__") P F.slot_dict_itemiterator_next (wpAny_call_entry F.slot_dict_itemiterator_next P F.entry_dict_itemiterator_next ?_ (F.args_dict_itemiterator_next_1 _))))
 refine aA (aB (aA (aA ?_)));refine aA (wpAny_typeNameOfWhole_itemiter P (aB (aA (wpAny_fieldsOf G rfl ?_))));simp only[UY,if_true];show wpAny _ _ (if (Value.ref d==Value.none)=true then _ else _) _ _ _
 rw[if_neg (show ¬((Value.ref d==Value.none)=true) from bF7)];refine aA (aB (aA (wpAny_dictEntries N O ?_)));rw[if_neg (by simp)]
 refine aA (aB (aA (wpAny_dictEpoch N O ?_)));rw[if_neg (by simp)]
 refine aB ?_;simp only[show ¬((i:Int) < 0) from by omega,if_false,aZ,dJ S]
 refine aA (aA (wpAny_typeNameOfWhole_itemiter P (aB (aA (wpAny_isOneOf_itemiter P ?_)))));show wpAny _ _ (setField (.ref it) 3 (rawInt ((i:Int)+1)) >>= _) _ _ ⟨D,g,R,K,M⟩;refine aA (wpAny_setField_rec G (by simp) λa h c=>?_)
 replace c:Heap.SameBut it D a:=c;replace h:IsItemIter a it d (i+1) es.size ep ok L:=by
  have e:((i+1:Nat):Int)=(i:Int)+1:=by omega
  unfold IsItemIter;rw[e];simpa[rawInt] using h
 have v:Shared.TypeIs ⟨a,g,R,K,M⟩ (.ref it) "dict_itemiterator":=⟨_,h,rfl⟩;refine aA (wpAny_holding (aA (wpAny_isOneOf_itemiter v (aA (wpAny_isOneOf_itemiter v ?_)))));show wpAny _ _ (Builtin.Dict_items.pairFromOwner (.ref it) 6 es[i].key es[i].val) _ _ ⟨a,g,R,K,M⟩;unfold Builtin.Dict_items.pairFromOwner;refine aA (wpAny_newTuple ?_);have f:IsItemIter (a.push { cls:=.type "tuple",data:=.seq #[es[i].key,es[i].val] }) it d (i+1) es.size ep ok L:=aQ _ h
 generalize p:a.push { cls:=.type "tuple",data:=.seq #[es[i].key,es[i].val] }=h₂ at f;have j:a.objs.size=D.objs.size:=c.1;have T:D.objs.size≠it:=dD (aL G);have I:h₂.get? D.objs.size=some { cls:=.type "tuple",data:=.seq #[es[i].key,es[i].val] }:=by rw[<-p,<-j];exact aW _ rfl
 have J:∀ b o,b≠it->D.get? b=some o->h₂.get? b=some o:=λb o H e=>by rw[<-p];exact aQ _ (c.extBut b o H e)
 show wpAny _ _ (Builtin.Dict_items.ownedTupleIsFree (.ref it) >>= _) _ _ ⟨h₂,g,R,K,M⟩;rw[j];clear p h c v j a;refine aA ?_;unfold Builtin.Dict_items.ownedTupleIsFree;refine aA (wpAny_field f rfl (x:=.none) rfl (aB ?_));simp only[if_true];refine aA (wpAny_field f rfl (x:=ok) rfl (aA (wpAny_field f rfl (x:=L) rfl (aA (wpAny_setField_rec f (by simp) λC u n=>?_)))))
 replace n:Heap.SameBut it h₂ C:=n;replace u:IsItemIter C it d (i+1) es.size ep es[i].key L:=u;refine aA (wpAny_setField_rec u (by simp) λB t m=>?_)
 replace m:Heap.SameBut it C B:=m;replace t:IsItemIter B it d (i+1) es.size ep es[i].key es[i].val:=t;refine aA (wpAny_setField_rec t (by simp) λz r l=>?_)
 replace l:Heap.SameBut it B z:=l;replace r:IsItemIterOut z it d (i+1) es.size ep es[i].key es[i].val D.objs.size:=r;refine aA (wpAny_setField_rec r (by simp) λy q k=>?_)
 replace k:Heap.SameBut it z y:=k;replace q:IsItemIterOut y it d (i+1) es.size ep es[i].key es[i].val D.objs.size:=q;have go:∀ b o,b≠it->h₂.get? b=some o->y.get? b=some o:=λb o H e=>k.extBut b o H (l.extBut b o H (m.extBut b o H (n.extBut b o H e)))
 exact aA (wpAny_letGo (aB (aB ⟨_,rfl,aB (W y q (go _ _ T I) λb o H e=>go b o H (J b o H e))⟩)))
theorem ZeA{ok h:vL}(j:A.handled=none)(c:IsItemIter s.heap it d es.size es.size ep ok h)(i:Raw s.heap d es ep)(l:∀ h',Heap.ExtBut it s.heap h'->Q none { s with heap:=h' }):wpAny (model prog w) A (pyNext (.ref it)) Q E s:=by
 obtain⟨n,e,k,f⟩:=id i;have g:s.TypeIs (.ref it) "dict_itemiterator":=⟨_,c,rfl⟩;unfold pyNext;refine aA (wpAny_attempt (wpAny_callSpecial?_slot (name:=Str.ofString "__next__") g F.slot_dict_itemiterator_next (wpAny_call_entry F.slot_dict_itemiterator_next g F.entry_dict_itemiterator_next ?_ (F.args_dict_itemiterator_next_1 _))));refine aA (aB (aA (aA ?_)))
 refine aA (wpAny_typeNameOfWhole_itemiter g (aB (aA (wpAny_fieldsOf c rfl ?_))));simp only[UY,if_true];show wpAny _ _ (if (Value.ref d==Value.none)=true then _ else _) _ _ s
 rw[if_neg (show ¬((Value.ref d==Value.none)=true) from bF7)];refine aA (aB (aA (wpAny_dictEntries e f ?_)));rw[if_neg (by simp)]
 refine aA (aB (aA (wpAny_dictEpoch e f ?_)));rw[if_neg (by simp)]
 refine aB ?_;simp only[show ¬((es.size:Int) < 0) from by omega,if_false,aZ,Array.getElem?_eq_none (aF es.size)]
 refine aA (aA (wpAny_typeNameOfWhole_itemiter g (aB ?_)));show wpAny _ _ (setField (.ref it) 2 .none >>= _) _ _ s;refine aA (wpAny_setField c rfl (by simp) ?_)
 show wpAny _ _ (newExc (.type "StopIteration") [] >>= _) _ _ _;refine aA ?_;simp only[newExc,newTuple];refine aA (wpAny_newObj_type ?_ (by size_fits))
 refine aA (m:=firstArgMember _ _) (wpAny_of_eq (a:=Value.none) (by first|rfl | (simp only[firstArgMember];rfl)) (wpAny_newObj_type ?_ (by size_fits)))
 simp only[raiseNew];refine aA (wpAny_handled ?_);rw[show A.in1.handled=none from j];refine aA (aB (wpAny_throw ?_));exact aA (wpAny_isInstance (T := "StopIteration") (b:=true) ⟨_,aW _ rfl,rfl⟩ isSubtype_stop (aB (l _ (((Heap.SameBut.update ..).extBut.push _).push _))))
section
variable {prog:Program}{w:World}{K:Type} [DecidableEq K] {knd:HeapKind prog w K}{A:Around}{E:vL->sH7->Prop}{s:sH7}
theorem ZfP{f:Li (K×Ad×vL)}{k:K}{v:vL}{Q:vL->sH7->Prop}(hu:knd.room A)(b:knd.is s.heap k a)(C:DictE knd s.heap d f)(F:∀ p,atKey f k=some p->Q p.2 { s with toks:=s.toks+knd.draws k })(t:atKey f k=none->f.length<=sizeLine/\∀ h',DictE knd h' d (f++[(k,a,v)])->Heap.SameBut d s.heap h'->Q v { s with heap:=h',toks:=s.toks+knd.draws k }) :
  wpAny (model prog w) A (dictSetDefault d (.ref a) v) Q E s:=by
 obtain⟨o,es,g,D,c,m,l,r⟩:=C;have G:=size_of_entries m;unfold dictSetDefault
 try with_reducible refine wpAny_holding ?_
 refine aA (knd.pyHash hu b (aA (wpAny_dictFind_heap (s:={ s with toks:=s.toks+knd.draws k }) hu b g c m l r (λi=>?_) (λj p B=>?_))))
 .have h:k∉f.map (·.1):=not_mem_keys_of_get i
  have q:es.size+1=(es.push ⟨knd.hash k,.ref a,v⟩).size:=(Array.size_push _).symm;obtain⟨hz,t⟩:=t (atKey_none_of_get i);refine aA (wpAny_rule (aA (wpAny_updateDictKeys (hz:=by omega) (s:={ s with toks:=s.toks+knd.draws k }) g c (aB (t _ ⟨_,_,Heap.get?_update_self _ g (Obj.isFreed_of_dict (Obj.data_mapDictKeys c _)),D.mapDictKeys _,(Obj.data_mapDictKeys c _).trans (by rw[q]),by simp[m,entryOfKey],λx n=>?_,?_⟩ (Heap.SameBut.update ..))))))
  .rcases bE.mp n with z|z
   .exact knd.keeps (l x z) g c (Heap.SameBut.update ..)
   .rw[aO.mp z]
    exact knd.keeps b g c (Heap.SameBut.update ..)
  .rw[aX,cM]
   refine⟨r,by simp,λx n y u e=>?_⟩
   rw[aJ,dH]at u;rw[aO.mp u]at e;exact h ((show x=k from e) ▸ n)
 .refine aA (wpAny_dictEntries (s:={ s with toks:=s.toks+knd.draws k }) g c ?_)
  rw[entry_at m j,B];exact aA (wpAny_rule (aB (F p (atKey_of_get r B))))
theorem Vi(knd:HeapKind prog w K){k:K}(d:Ad)(hd:(d==sysModules)=false)(v:vL) :
  MeetsIn prog w (Builtin.«dict.setdefault» ⟨[.ref d,.ref a,v],[]⟩) (λA R s=>∃ b,DictE knd s.heap d b/\knd.room A.in1/\knd.is s.heap k a /\
   (∀ p,atKey b k=some p->R (.ok (.ret p.2)) { s with toks:=s.toks+knd.draws k }) /\
   (atKey b k=none->b.length<=sizeLine/\∀ h',DictE knd h' d (b++[(k,a,v)])->Heap.SameBut d s.heap h'->R (.ok (.ret v)) { s with heap:=h',toks:=s.toks+knd.draws k })):=
 .of_wp λA R s ⟨b,g,i,l,m,h⟩=>by
  unfold Builtin.«dict.setdefault»
  refine aA ?_;unfold Builtin.Dict.keyAndDefault;refine aA (wpAny_notOrdered_dict g.typeIs (aB ?_));show wpAny _ _ (if (d==sysModules)=true then _ else (dictSetDefault d (.ref a) v >>= _)) _ _ s
  rw[if_neg (by rw[hd];exact bF7)]
  exact aA (ZfP i l g (λp j=>aB ⟨_,rfl,m p j⟩) λf=>⟨(h f).1,λh' e c=>aB ⟨_,rfl,(h f).2 h' e c⟩⟩)
end
variable{d:Ad}{es:Array DictEntry}{ep:Nat}
theorem UW(hd:(d==sysModules)=false) :
  MeetsIn prog w (Builtin.«dict.__len__» ⟨[.ref d],[]⟩) (λ_ R s=>Raw s.heap d es ep/\R (.ok (.ret (.int es.size s.toks))) { s with toks:=s.toks+1 }):=
 .of_wp λA R s ⟨⟨o,b,c,a⟩,h⟩=>by
  show wpAny _ _ (dictSize d >>= _) _ _ s;unfold dictSize;refine aA (aA (wpAny_dictEntries b a (aB ?_)));show wpAny _ _ (Builtin.Dict.pendingCount d >>= _) _ _ s;refine aA (wpAny_pendingCount_other hd (wpAny_ret_mkInt ?_));rw[Nat.add_zero];exact h
theorem ZcD{Q:vL->sH7->Prop}(hd:(d==sysModules)=false)(a:Raw s.heap d es ep)(b:(es.size:Int) < 2 ^ 63)(h:Q (.int es.size (s.toks+1)) { s with toks:=s.toks+1+1 }):wpAny (model prog w) A (call (.builtin "len") [.ref d]) Q E s:=by
 refine Calls.call_function_entry kind_len plain_len entry_len (args_len1 _) ?_;unfold Builtin.«len»
 refine aA (m:=oneArg "len" _) (aB ?_);refine aA (m:=callSpecial? (.ref d) (Str.ofString "__len__")) (wpAny_callSpecial?_slot (name:=Str.ofString "__len__") a.typeIs F.slot_dict_len
  (call_meetsIn F.slot_dict_len a.typeIs F.entry_dict_len (F.args_dict_len_1 _) (UW (es:=es) (ep:=ep) hd) ⟨a,?_⟩))
 show wpAny _ _ _ _ _ { s with toks:=s.toks+1 }
 refine aA (wpAny_holding (aB (aA (wpAny_letGo ?_))));show wpAny _ _ (if ((es.size:Nat):Int) < 0 then _ else _) _ _ _
 rw[if_neg (by omega)]
 show wpAny _ _ (if ((es.size:Nat):Int)>=2 ^ 63 then _ else _) _ _ _
 rw[if_neg (by omega)]
 exact aA (wpAny_mkInt (aB ⟨_,rfl,h⟩))
theorem UZ:Builtin.Dict_items.ownsTuple "dict_keyiterator"=false:=by decide
theorem UV(hd:(d==sysModules)=false) :
  MeetsIn prog w (Builtin.«dict.keys» ⟨[.ref d],[]⟩) (λ_ R s=>Raw s.heap d es ep /\
   R (.ok (.ret (.ref s.heap.objs.size))) { s with heap:=s.heap.push { cls:=.type "dict_keys",data:=.fields #[.ref d] } }):=
 .of_wp λA R s ⟨a,h⟩=>by
  refine aA ?_;unfold Builtin.Dict.noArgs;refine aA (wpAny_notOrdered_dict a.typeIs (aB ?_));show wpAny _ _ (Builtin.Dict.showsAll d >>= _) _ _ s;unfold Builtin.Dict.showsAll;rw[if_neg (by rw[hd];exact bF7)]
  exact aA (aB (aA (wpAny_newObj_type (aB ⟨_,rfl,h⟩))))
theorem Jp{v:Ad}{Q:vL->sH7->Prop}(b:W.KdlKeysView s.heap v d)(g:Raw s.heap d es ep)(i:Q (.ref s.heap.objs.size) { s with heap:=s.heap.push { cls:=.type "dict_keyiterator",data:=.fields #[.ref d,.int 0 0,.int es.size 0,.int ep 0] } }) :
  wpAny (model prog w) A (pyIter (.ref v)) Q E s:=by
 obtain⟨j,c,h,e⟩:=id b;obtain⟨o,f,k,a⟩:=id g;refine wpAny_pyIter_slot b.typeIs W.kdl_slot_keys_iter (wpAny_call_entry W.kdl_slot_keys_iter b.typeIs W.kdl_entry_keys_iter ?_ (W.kdl_args_keys_iter _));unfold Builtin.«dict_keys.__iter__»
 refine aA (aB (aA ?_));unfold Builtin.Dict_items.dictOf;refine aA (wpAny_field c e (x:=.ref d) rfl (aB (aA ?_)));unfold Builtin.Dict_items.newIterator;refine aA (wpAny_dictEntries f a (aA (wpAny_dictEpoch f a ?_)));simp only[UZ,bV,if_false];exact wpAny_newObj_type (aB ⟨_,rfl, "dict_keyiterator",_,⟨_,aW _ rfl,rfl⟩,F.slot_dict_keyiterator_next.lookup,i⟩)
theorem Za6{i:Nat}(a:s.heap.IsKeyIter it d i es.size ep)(j:Raw s.heap d es ep)(h:i < es.size)(m:∀ h',h'.IsKeyIter it d (i+1) es.size ep->Heap.SameBut it s.heap h'->Q (some es[i].key) { s with heap:=h' }):wpAny (model prog w) A (pyNext (.ref it)) Q E s:=by
 obtain⟨o,g,l,f⟩:=id a;obtain⟨n,c,k,e⟩:=id j;unfold pyNext;refine aA (wpAny_attempt (wpAny_callSpecial?_slot (name:=Str.ofString "__next__") a.typeIs F.slot_dict_keyiterator_next (wpAny_call_entry F.slot_dict_keyiterator_next a.typeIs F.entry_dict_keyiterator_next ?_ (F.args_dict_keyiterator_next_1 _))));refine aA (aB (aA (aA ?_)))
 refine aA (wpAny_typeNameOfWhole_keyiter a.typeIs (aB (aA (wpAny_fieldsOf g f ?_))));simp only[UZ,bV,if_false];show wpAny _ _ (if (Value.ref d==Value.none)=true then _ else _) _ _ s
 rw[if_neg (show ¬((Value.ref d==Value.none)=true) from bF7)];refine aA (aB (aA (wpAny_dictEntries c e ?_)));rw[if_neg (by simp)]
 refine aA (aB (aA (wpAny_dictEpoch c e ?_)));rw[if_neg (by simp)]
 refine aB ?_;simp only[show ¬((i:Int) < 0) from by omega,if_false,aZ,dJ h]
 refine aA (aA (wpAny_typeNameOfWhole_keyiter a.typeIs (aB (aA (wpAny_isOneOf_keyiter a.typeIs ?_)))));show wpAny _ _ (setField (.ref it) 1 (rawInt ((i:Int)+1)) >>= _) _ _ s;refine aA (wpAny_setField g f (by simp) ?_)
 have b:(s.heap.update it (Obj.mapFields (·.setIfInBounds 1 (rawInt ((i:Int)+1))))).IsKeyIter it d (i+1) es.size ep:=
  ⟨_,Heap.get?_update_self _ g (Obj.isFreed_of_fields (Obj.data_mapFields f _)),(Obj.cls_mapFields ..).trans l,by rw[Obj.data_mapFields f];simp[rawInt]⟩
 refine aA (wpAny_holding (aA (wpAny_isOneOf_keyiter (s:={ s with heap:=s.heap.update it (Obj.mapFields (·.setIfInBounds 1 (rawInt ((i:Int)+1)))) }) b.typeIs ?_)))
 show wpAny _ _ (pure es[i].key) _ _ _;exact aB (aB ⟨_,rfl,aB (m _ b (Heap.SameBut.update ..))⟩)
theorem Zb8(j:A.handled=none)(c:s.heap.IsKeyIter it d es.size es.size ep)(i:Raw s.heap d es ep)(l:∀ h',Heap.ExtBut it s.heap h'->Q none { s with heap:=h' }):wpAny (model prog w) A (pyNext (.ref it)) Q E s:=by
 obtain⟨o,g,p,h⟩:=id c;obtain⟨n,e,k,f⟩:=id i;unfold pyNext;refine aA (wpAny_attempt (wpAny_callSpecial?_slot (name:=Str.ofString "__next__") c.typeIs F.slot_dict_keyiterator_next (wpAny_call_entry F.slot_dict_keyiterator_next c.typeIs F.entry_dict_keyiterator_next ?_ (F.args_dict_keyiterator_next_1 _))));refine aA (aB (aA (aA ?_)))
 refine aA (wpAny_typeNameOfWhole_keyiter c.typeIs (aB (aA (wpAny_fieldsOf g h ?_))));simp only[UZ,bV,if_false];show wpAny _ _ (if (Value.ref d==Value.none)=true then _ else _) _ _ s
 rw[if_neg (show ¬((Value.ref d==Value.none)=true) from bF7)];refine aA (aB (aA (wpAny_dictEntries e f ?_)));rw[if_neg (by simp)]
 refine aA (aB (aA (wpAny_dictEpoch e f ?_)));rw[if_neg (by simp)]
 refine aB ?_;simp only[show ¬((es.size:Int) < 0) from by omega,if_false,aZ,Array.getElem?_eq_none (aF es.size)]
 refine aA (aA (wpAny_typeNameOfWhole_keyiter c.typeIs (aB ?_)));show wpAny _ _ (setField (.ref it) 0 .none >>= _) _ _ s;refine aA (wpAny_setField g h (by simp) ?_)
 show wpAny _ _ (newExc (.type "StopIteration") [] >>= _) _ _ _;refine aA ?_;simp only[newExc,newTuple];refine aA (wpAny_newObj_type ?_ (by size_fits))
 refine aA (m:=firstArgMember _ _) (wpAny_of_eq (a:=Value.none) (by first|rfl | (simp only[firstArgMember];rfl)) (wpAny_newObj_type ?_ (by size_fits)))
 simp only[raiseNew];refine aA (wpAny_handled ?_);rw[show A.in1.handled=none from j];refine aA (aB (wpAny_throw ?_));exact aA (wpAny_isInstance (T := "StopIteration") (b:=true) ⟨_,aW _ rfl,rfl⟩ isSubtype_stop (aB (l _ (((Heap.SameBut.update ..).extBut.push _).push _))))
theorem Raw.at(x:Raw h d es ep)(e:∀ o,h.get? d=some o->h'.get? d=some o):Raw h' d es ep:=let ⟨o,ho,r⟩:=x;⟨o,e _ ho,r⟩
theorem Raw.lt(x:Raw h d es ep):d < h.objs.size:=let ⟨_,ho,_⟩:=x;aL ho
theorem Jz(p:A.handled=none)(I:Ad)(k:d≠I):Walks prog w A I [I,d] [I] es.size (λi v=>∃ e,es[i]?=some e/\v=e.key) (λi h=>h.IsKeyIter I d i es.size ep/\Raw h d es ep) where
 sub:=λb c=>by simp at c;simp[c]
 frame:=λ_ _ _ a m=>⟨a.1.at λo e=>m I (by simp) o e,a.2.at λo e=>m d (by simp) o e⟩
 item:=λi s Q E n a j=>Za6 a.1 a.2 n λh' g f=>j _ h' s.toks ⟨_,dJ n,rfl⟩ ⟨g,a.2.at λo e=>f.extBut d o k e⟩ λb o c e=>f.extBut b o (λh=>c (by simp[h])) e
 done:=λs Q E a j=>Zb8 p a.1 a.2 λh' l=>j h' s.toks λb o c e=>l b o (λh=>c (by simp[h])) e
 self:=λ_ _ _ _ a j=>wpAny_pyIter_keyiter a.1 j
theorem Zby{r:Ad}:W.KdlSrc prog w "dict_keys" r d es.size (λi v=>∃ e,es[i]?=some e/\v=e.key) (λh=>W.KdlKeysView h r d/\Raw h d es ep) where
 type:=λ_ a=>a.1.typeIs
 there:=λ_ a=>⟨let ⟨_,ho,_⟩:=a.1;aL ho,a.2.lt⟩
 keep:=λ_ _ a c=>⟨let ⟨o,ho,x⟩:=a.1;⟨o,c r (.inl rfl) o ho,x⟩,a.2.at λo e=>c d (.inr rfl) o e⟩
 notList:=by decide
 notTuple:=by decide
 hint:=λ_ _ _ _ a b=>W.kdl_hint_keys a.1.typeIs b
 iter:=λ_ _ f a=>⟨_,_,(λ_ _ b=>Jp a.1 a.2 b),Jz f _ (bA a.2.lt),⟨⟨_,aW _ rfl,rfl,rfl⟩,a.2.at λo e=>aQ _ e⟩⟩
end Dp
namespace Dp
open PySem PySem.Spec PyProof.Rows L2
class ClsTab where
 ca:Nat->Addr
variable [ClsTab]
variable{X:Cx}{e:Expr}
theorem Zs{t a:TE}(h:PE X e t)(i:∀ O H Q,a O H Q->t O H Q):PE X e a:=λb s O H Q I q=>h b s O H Q I (i O H Q q)
theorem WC{t a:TT}(h:PT X e t)(i:∀ O H Q,a O H Q->t O H Q):PT X e a:=λb s O H Q I q=>h b s O H Q I (i O H Q q)
theorem Zbg{e:Li Expr}{t b:TA}(h:PA X e t)(i:∀ O H Q,b O H Q->t O H Q):PA X e b:=λa c s O H Q I q=>h a c s O H Q I (i O H Q q)
theorem Zbi{e:Ot Expr}{t a:TO}(h:PO X e t)(i:∀ O H Q,a O H Q->t O H Q):PO X e a:=λb s O H Q I q=>h b s O H Q I (i O H Q q)
theorem Zv{e:Stmt}{t a:TS}(h:PS X e t)(i:∀ D O H,a D O H->t D O H):PS X e a:=λb s O H D I q=>h b s O H D I (i D O H q)
theorem QO{e:Li Stmt}{t a:TS}(h:PSs X e t)(i:∀ D O H,a D O H->t D O H):PSs X e a:=λb s O H D I q=>h b s O H D I (i D O H q)
def KT(K:fG7)(a:Ad)(b:Li V):Prop:=
 ∃ (o:Obj) (its:Array vL) (n:Nat),K.lookup a=some o/\o.cls=.type "tuple"/\o.data=.seq its n/\its.size<=sizeLine/\Vals b its.toList
def TupAt(K:fG7)(H:Hp)(a:Ad)(b:Li V):Prop:=H a=some (.tup b)\/KT K a b
variable{K:fG7}{H:Hp}
theorem TupAt.sq{a:Ad}{b:Li V}(h:TupAt K H a b):SqT K H a b:=by
 rcases h with h|h
 .exact .inl (.inl h)
 .exact .inr h
noncomputable def isM:HO->Bool
 |.dN _=>true
 |.ins _ _ _=>true
 |_=>false
def Z8(H:Hp)(a:Ad):Prop:=∃ o,H a=some o/\isM o=true
def LA(b:Li Ad)(H:Hp)(i:Nat)(a:Ad):Prop:=b[i]?=some a/\¬Z8 H a
variable{o:HO}
theorem Vk{a:Ad}(h:H a=some o)(n:isM o=false):¬Z8 H a:=λ⟨b,z,m⟩=>by rw[h]at z;cases z;rw[n]at m;cases m
mutual
inductive Den(K:fG7)(ad:List Addr)(H:Hp):V->D->Prop where
 |non:Den K ad H .non .non
 |bl (b:Bool):Den K ad H (.bl b) (.bl b)
 |int (i:Int):Den K ad H (.int i) (.int i)
 |str (x:Str):Den K ad H (.str x) (.str x)
 |tup {a:Addr}{xs:List V}{ds:List D} (h:TupAt K H a xs) (r:Dens K ad H xs ds):Den K ad H (.ref a) (.tup ds)
 |lst {a:Addr}{i:Nat} (h:LA ad H i a):Den K ad H (.ref a) (.lst i)
 |dic {a:Addr}{i:Nat} (h:ad[i]?=some a) (n:Z8 H a):Den K ad H (.ref a) (.dic i)
 |obj {a dx:Addr}{i:Nat} (h:H a=some (.ins (ClsTab.ca i) dx [])) (n:a∉ad):Den K ad H (.ref a) (.obj i)
 |kt {a:Addr}{ks:List Str}{o:Obj}{its:Array Value}{n:Nat} (l:K.lookup a=some o) (c:o.cls=.type "tuple") (g:o.dict=none) (e:o.data=.seq its n) (z:its.size<=sizeLine) (r:Vals (ks.map V.str) its.toList):Den K ad H (.ref a) (.kt ks)
inductive Dens(K:fG7)(ad:List Addr)(H:Hp):List V->List D->Prop where
 |nil:Dens K ad H [] []
 |cons {v:V}{d:D}{vs:List V}{ds:List D} (h:Den K ad H v d) (r:Dens K ad H vs ds):Dens K ad H (v :: vs) (d :: ds)
end
structure Ext(ad:List Addr)(H:Hp)(ad':List Addr)(H':Hp):Prop where
 pre:∀ (i:Nat) (a:Addr),ad[i]?=some a->ad'[i]?=some a
 tup:∀ b xs,H b=some (.tup xs)->H' b=some (.tup xs)
 keep:∀ b o,H b=some o->b∉ad->H' b=some o
 new:∀ b,b∈ad'->b∈ad\/H b=none
 kd:∀ (i:Nat) (a:Addr),ad[i]?=some a->(Z8 H a↔Z8 H' a)
theorem Ext.refl(a:Li Ad)(H:Hp):Ext a H a H:=⟨λ_ _ h=>h,λ_ _ h=>h,λ_ _ h _=>h,λ_ h=>.inl h,λ_ _ _=>Iff.rfl⟩
theorem Ext.trans{c j g:Li Ad}{d l k:Hp}(x:Ext c d j l)(y:Ext j l g k):Ext c d g k:=by
 refine⟨λi a h=>y.pre i a (x.pre i a h),λb f h=>y.tup b f (x.tup b f h),λb o h n=>?_,λb h=>?_,λi a h=>(x.kd i a h).trans (y.kd i a (x.pre i a h))⟩
 .refine y.keep b o (x.keep b o h n) λz=>?_
  rcases x.new b z with z|z
  .exact n z
  .rw[h]at z;cases z
 .rcases y.new b h with z|z
  .exact x.new b z
  .cases e:d b with
   |none=>exact .inr rfl
   |some o=>
    by_cases q:b∈c
    .exact .inl q
    .rw[x.keep b o e q]at z;cases z
variable{ad ad':Li Ad}{H':Hp}
theorem TupAt.mono{a:Ad}{b:Li V}(x:Ext ad H ad' H')(h:TupAt K H a b):TupAt K H' a b:=h.imp (x.tup _ _) id
theorem TupAt.upd{K:fG7}{H:Hp}{a p:Ad}{b:Li V}{o d:HO}(c:H p=some o)(e:∀ b,o≠.tup b)(h:TupAt K H a b):TupAt K (upd H p d) a b:=by
 rcases h with h|h
 .refine .inl ?_
  have n:a≠p:=λz=>by subst z;rw[h]at c;cases c;exact e _ rfl
  rw[upd_ne n];exact h
 .exact .inr h
variable{d:D}{vs ys:Li V}{ds es:Li D}{i j:Nat}{kvs:Li (Str×V)}{xs:Li (D×Ad×Ad)}{st:Za}{p:Ad}{α:Type}{o':HO}{O:L2.St}{U:Env}
variable{K:fG7}{ad ad':Li Ad}{H H':Hp}
structure Keeps(K:fG7)(ad ad':List Addr)(H H':Hp):Prop where
 t:∀ {a xs},TupAt K H a xs->TupAt K H' a xs
 l:∀ {i:Nat}{a:Addr},ad[i]?=some a->ad'[i]?=some a/\(Z8 H a↔Z8 H' a)
 o:∀ {a C dx},H a=some (.ins C dx [])->a∉ad->H' a=some (.ins C dx [])/\a∉ad'
theorem Den.map(x:Keeps K ad ad' H H'){v:V}(h:Den K ad H v d):Den K ad' H' v d:=
 Den.rec (motive_1:=λv d _=>Den K ad' H' v d) (motive_2:=λvs ds _=>Dens K ad' H' vs ds) .non .bl .int .str (λh _ r=>.tup (x.t h) r) (λh=>.lst ⟨(x.l h.1).1,λz=>h.2 ((x.l h.1).2.mpr z)⟩) (λh n=>.dic (x.l h).1 ((x.l h).2.mp n)) (λh n=>.obj (x.o h n).1 (x.o h n).2) .kt .nil (λ_ _ a b=>.cons a b) h
theorem Dens.map(x:Keeps K ad ad' H H')(h:Dens K ad H vs ds):Dens K ad' H' vs ds:=
 Dens.rec (motive_1:=λ_ _ _=>True) (motive_2:=λvs ds _=>Dens K ad' H' vs ds) trivial (λ_=>trivial) (λ_=>trivial) (λ_=>trivial) (λ_ _ _=>trivial) (λ_=>trivial) (λ_ _=>trivial) (λ_ _=>trivial) (λ_ _ _ _ _ _=>trivial) .nil (λa _ _ b=>.cons (a.map x) b) h
theorem Ext.keeps(x:Ext ad H ad' H'):Keeps K ad ad' H H':=⟨λh=>h.mono x,λh=>⟨x.pre _ _ h,x.kd _ _ h⟩,λh n=>⟨x.keep _ _ h n,λz=>(x.new _ z).elim n λq=>by rw[h]at q;cases q⟩⟩
theorem Den.mono(x:Ext ad H ad' H'){v:V}(h:Den K ad H v d):Den K ad' H' v d:=h.map x.keeps
theorem Dens.mono(x:Ext ad H ad' H')(h:Dens K ad H vs ds):Dens K ad' H' vs ds:=h.map x.keeps
theorem ZeR(x:∀ (i:Nat) (a:Ad),ad[i]?=some a->ad'[i]?=some a)(y:∀ b,b∈ad'->b∈ad\/∃ xs,H b=some (.lst xs)):Keeps K ad ad' H H:=⟨id,λh=>⟨x _ _ h,Iff.rfl⟩,λh n=>⟨h,λz=>(y _ z).elim n λ⟨xs,q⟩=>by rw[h]at q;cases q⟩⟩
theorem Dens.length:∀ {vs:Li V}{ds:Li D},Dens K ad H vs ds->vs.length=ds.length
 |_,_,.nil=>rfl
 |_,_,.cons _ r=>congrArg (·+1) (Dens.length r)
theorem Dens.get:∀ {vs:Li V}{ds:Li D}{i:Nat}{d:D},Dens K ad H vs ds->ds[i]?=some d->∃ v,vs[i]?=some v/\Den K ad H v d
 |_,_,_,_,.nil,e=>by simp at e
 |_,_,0,_,.cons h _,e=>by simp at e;subst e;exact⟨_,rfl,h⟩
 |_,_,i+1,d,.cons _ r,e=>by
  obtain⟨v,b,a⟩:=Dens.get (i:=i) (d:=d) r (by simpa using e)
  exact⟨v,by simpa using b,a⟩
theorem Dens.append:∀ {vs ws:Li V}{ds es:Li D},Dens K ad H vs ds->Dens K ad H ws es->Dens K ad H (vs++ws) (ds++es)
 |_,_,_,_,.nil,s=>s
 |_,_,_,_,.cons h r,s=>.cons h (Dens.append r s)
theorem Dens.take:∀ {vs:Li V}{ds:Li D} (n:Nat),Dens K ad H vs ds->Dens K ad H (vs.take n) (ds.take n)
 |_,_,0,_=>.nil
 |_,_,_+1,.nil=>.nil
 |_,_,n+1,.cons h r=>.cons h (Dens.take n r)
theorem Dens.drop:∀ {vs:Li V}{ds:Li D} (n:Nat),Dens K ad H vs ds->Dens K ad H (vs.drop n) (ds.drop n)
 |_,_,0,r=>r
 |_,_,_+1,.nil=>.nil
 |_,_,n+1,.cons _ r=>Dens.drop n r
theorem Dens.set{v:V}(h:Den K ad H v d):∀ {vs:Li V}{ds:Li D} (n:Nat),Dens K ad H vs ds->Dens K ad H (vs.set n v) (ds.set n d)
 |_,_,_,.nil=>.nil
 |_,_,0,.cons _ r=>.cons h r
 |_,_,n+1,.cons q r=>.cons q (Dens.set h n r)
theorem Dens.rep{v:V}(h:Den K ad H v d):∀ n:Nat,Dens K ad H (List.replicate n v) (List.replicate n d)
 |0=>.nil
 |n+1=>.cons h (Dens.rep h n)
theorem Den.ofInt{v:V}{i:Int}(h:Den K ad H v (.int i)):v=.int i:=by cases h;rfl
theorem Den.ofStr{v:V}{x:Str}(h:Den K ad H v (.str x)):v=.str x:=by cases h;rfl
theorem Den.ofBl{v:V}{b:Bool}(h:Den K ad H v (.bl b)):v=.bl b:=by cases h;rfl
theorem Den.ofNon{v:V}(h:Den K ad H v .non):v=.non:=by cases h;rfl
theorem Den.ofDct{v:V}{ks:Li Str}(h:Den K ad H v (.dct ks ds)):∃ a vs,v=.ref a/\H a=some (.dK ((ks.zip vs).map λp=>(Sum.inr p.1,p.2)))/\ks.length=vs.length/\Dens K ad H vs ds:=by
 cases h
theorem Den.ofTup{v:V}(h:Den K ad H v (.tup ds)):∃ a xs,v=.ref a/\TupAt K H a xs/\Dens K ad H xs ds:=by
 cases h with
 |tup h r=>exact⟨_,_,rfl,h,r⟩
theorem Den.ofLst{v:V}(h:Den K ad H v (.lst i)):∃ a,v=.ref a/\LA ad H i a:=by
 cases h with
 |lst h=>exact⟨_,rfl,h⟩
theorem Den.ofDic{v:V}(h:Den K ad H v (.dic i)):∃ a,v=.ref a/\ad[i]?=some a/\Z8 H a:=by
 cases h with
 |dic h n=>exact⟨_,rfl,h,n⟩
theorem Den.newL{a:Ad}{xs:Li V}(h:ad[i]?=some a):Den K ad (upd H a (.lst xs)) (.ref a) (.lst i):=.lst ⟨h,Vk upd_same rfl⟩
theorem LA.mono{a:Ad}(x:Ext ad H ad' H')(h:LA ad H i a):LA ad' H' i a:=⟨x.pre _ _ h.1,λz=>h.2 ((x.kd _ _ h.1).mpr z)⟩
theorem Den.ofKt{v:V}{ks:Li Str}(h:Den K ad H v (.kt ks)):∃ a o its n,v=.ref a/\K.lookup a=some o/\(o.cls=.type "tuple"/\o.dict=none)/\o.data=.seq its n/\its.size<=sizeLine/\Vals (ks.map V.str) its.toList:=by
 cases h with
 |kt l c g e z r=>exact⟨_,_,_,_,rfl,l,⟨c,g⟩,e,z,r⟩
theorem WT:∀ ks:Li Str,Dens K ad H (ks.map V.str) (ks.map D.str)
 |[]=>.nil
 |k :: ks=>.cons (.str k) (WT ks)
theorem Den.ofObj{v:V}(h:Den K ad H v (.obj i)):∃ a b,v=.ref a/\H a=some (.ins (ClsTab.ca i) b []):=by
 cases h with
 |obj h n=>exact⟨_,_,rfl,h⟩
def KL(K:fG7)(a:Ad)(xs:Li V):Prop:=
 ∃ (o:Obj) (its:Array vL) (n:Nat),(K.lookup a=some o/\o.cls=.type "list")/\(o.dict=none/\o.data=.seq its n)/\its.size<=sizeLine/\Vals xs its.toList
inductive Ents(K:fG7)(ad:List Addr)(H:Hp):List (Str×V)->List D->Prop where
 |nil:Ents K ad H [] []
 |cons {k:Str}{v:V}{d:D}{kvs:List (Str×V)}{ds:List D} (h:Den K ad H v d) (r:Ents K ad H kvs ds):Ents K ad H ((k,v) :: kvs) (.tup [.str k,d] :: ds)
theorem Ents.map(x:Keeps K ad ad' H H')(h:Ents K ad H kvs ds):Ents K ad' H' kvs ds:=by
 induction h with
 |nil=>exact .nil
 |cons h _ a=>exact .cons (h.map x) a
theorem Ents.mono(x:Ext ad H ad' H')(h:Ents K ad H kvs ds):Ents K ad' H' kvs ds:=h.map x.keeps
inductive EntN(K:fG7)(ad:List Addr)(H:Hp):List (D×Addr×Addr)->List D->Prop where
 |nil:EntN K ad H [] []
 |cons {k d:D}{ka va:Addr}{xs:List (D×Addr×Addr)}{ds:List D} (h:Den K ad H (.ref ka) k) (ok:okN 8 k=true) (v:Den K ad H (.ref va) d) (r:EntN K ad H xs ds):EntN K ad H ((k,ka,va) :: xs) (.tup [k,d] :: ds)
noncomputable def Z4(xs:Li (D×Ad×Ad)):World->Li DictEntry:=λw=>xs.map λx=>⟨YN w 8 x.1,.ref x.2.1,.ref x.2.2⟩
theorem EntN.map(x:Keeps K ad ad' H H')(h:EntN K ad H xs ds):EntN K ad' H' xs ds:=by
 induction h with
 |nil=>exact .nil
 |cons h ok v _ a=>exact .cons (h.map x) ok (v.map x) a
theorem EntN.mono(x:Ext ad H ad' H')(h:EntN K ad H xs ds):EntN K ad' H' xs ds:=h.map x.keeps
theorem EntN.dict(h:EntN K ad H xs ds):Yh ds=false:=by cases h<;>rfl
structure ObC(K:fG7)(C:Addr):Prop where
 cl:Cls K C
 na:∀ f,fldNames.contains f=true->NoAttr K C f
inductive CellOk(K:fG7)(ad:List Addr)(H:Hp)(a:Addr)(c:ZI):Prop where
 |l {xs:List V} (n:¬Z8 H a) (r:Dens K ad H xs c.2) (h:(c.1=true/\H a=some (.lst xs))\/(c.1=false/\((∃ o,H a=some (.frz o (.lst xs)))\/KL K a xs)))
 |d {xs:List (D×Addr×Addr)} (r:EntN K ad H xs c.2) (e:c.1=true) (h:H a=some (.dN (Z4 xs))) (n:(xs.map (·.1)).Nodup)
 |o {i:Nat}{dx:Addr}{kvs:List (Str×V)}{es:List D} (q:c.2=.int (i:Int) :: es) (r:Ents K ad H kvs es) (e:c.1=true) (h:H a=some (.ins (ClsTab.ca i) dx kvs)) (oc:ObC K (ClsTab.ca i)/\∀ k,fldNames.contains k=false->kvs.lookup k=none)
structure StOk(K:fG7)(ad:List Addr)(H:Hp)(st:Za):Prop where
 len:ad.length=st.length
 nd:∀ (i j:Nat) (a:Addr) (c d:List D),ad[i]?=some a->ad[j]?=some a->st[i]?=some (true,c)->st[j]?=some (true,d)->i=j
 cell:∀ (i:Nat) (c:ZI),st[i]?=some c->∃ a,ad[i]?=some a/\CellOk K ad H a c
theorem CellOk.sq{a:Ad}{c:ZI}(h:CellOk K ad H a c)(n:¬Z8 H a):∃ xs,Dens K ad H xs c.2/\SqL K H a xs:=by
 cases h with
 |l _ r h=>
  obtain⟨_,e⟩|⟨_,⟨o,e⟩|⟨o,its,n,⟨k,j⟩,⟨i,g⟩,f,b⟩⟩:=h
  .exact⟨_,r,.inl (.inl e)⟩
  .exact⟨_,r,.inl (.inr ⟨o,e⟩)⟩
  .exact⟨_,r,.inr ⟨o,its,n,k,j,i,g,f,b⟩⟩
 |d r e h _=>exact absurd ⟨_,h,rfl⟩ n
 |o _ r e h _=>exact absurd ⟨_,h,rfl⟩ n
theorem StOk.list{a:Ad}{b:Bool}(S:StOk K ad H st)(h:LA ad H i a)(e:st[i]?=some (b,ds)):∃ xs,Dens K ad H xs ds/\SqL K H a xs:=by
 obtain⟨f,d,c⟩:=S.cell i _ e;rw[h.1]at d;cases d
 exact c.sq h.2
theorem StOk.listM{a:Ad}(S:StOk K ad H st)(h:LA ad H i a)(e:st[i]?=some (true,ds)):∃ xs,Dens K ad H xs ds/\H a=some (.lst xs):=by
 obtain⟨f,b,c⟩:=S.cell i _ e;rw[h.1]at b;cases b
 cases c with
 |l _ r q=>
  obtain⟨_,q⟩|⟨q,_⟩:=q
  .exact⟨_,r,q⟩
  .cases q
 |d r _ q _=>exact absurd ⟨_,q,rfl⟩ h.2
 |o _ r _ q _=>exact absurd ⟨_,q,rfl⟩ h.2
theorem StOk.dict{a:Ad}{b:Bool}(S:StOk K ad H st)(h:ad[i]?=some a)(n:Z8 H a)(e:st[i]?=some (b,ds))(f:Yh ds=false):∃ xs,(EntN K ad H xs ds/\(xs.map (·.1)).Nodup)/\H a=some (.dN (Z4 xs))/\b=true:=by
 obtain⟨j,g,c⟩:=S.cell i _ e;rw[h]at g;cases g
 cases c with
 |l z=>exact absurd n z
 |d r e q n=>exact⟨_,⟨r,n⟩,q,e⟩
 |o q _ _ _ _=>rw[show ds=_ from q]at f;cases f
theorem StOk.obj{a:Ad}{b:Bool}{c:Int}(S:StOk K ad H st)(h:ad[i]?=some a)(n:Z8 H a)(e:st[i]?=some (b,.int c :: es)):∃ (j:Nat) (dx:Ad) (kvs:Li (Str×V)),c=(j:Int)/\Ents K ad H kvs es/\H a=some (.ins (ClsTab.ca j) dx kvs)/\b=true/\ObC K (ClsTab.ca j)/\∀ k,fldNames.contains k=false->kvs.lookup k=none:=by
 obtain⟨g,f,c⟩:=S.cell i _ e;rw[h]at f;cases f
 cases c with
 |l z=>exact absurd n z
 |d r e q _=>have:=r.dict;cases this
 |o q r e h oc=>cases q;exact⟨_,_,_,rfl,r,h,e,oc⟩
theorem Qb{a:Ad}(b:¬Z8 H p)(c:isM o=false):Z8 H a↔Z8 (upd H p o) a:=by
 by_cases z:a=p
 .subst z
  exact⟨λq=>absurd q b,λq=>absurd q (Vk upd_same c)⟩
 .unfold Z8
  rw[upd_ne z]
theorem QI(a:H p=none):¬Z8 H p:=λ⟨_,z,_⟩=>by rw[a]at z;cases z
theorem Ext.laid(a:H p=none)(c:isM o=false:=by rfl):Ext ad H ad (upd H p o):=
 ⟨λ_ _ h=>h,λb xs h=>by rw[upd_ne (ne_of_none h a)];exact h,λb o h _=>by rw[upd_ne (ne_of_none h a)];exact h,λ_ h=>.inl h,λ_ _ _=>Qb (QI a) c⟩
theorem CellOk.laid{a:Ad}{c:ZI}(g:ad[i]?=some a)(f:H p=none)(x:Ext ad H ad' (upd H p o))(h:CellOk K ad H a c):CellOk K ad' (upd H p o) a c:=by
 cases h with
 |l n r h=>
  refine .l (λz=>n ((x.kd i a g).mpr z)) (r.mono x) ?_
  rcases h with⟨b,e⟩|⟨b,⟨o,e⟩|e⟩
  .exact .inl ⟨b,by rw[upd_ne (ne_of_none e f)];exact e⟩
  .exact .inr ⟨b,.inl ⟨o,by rw[upd_ne (ne_of_none e f)];exact e⟩⟩
  .exact .inr ⟨b,.inr e⟩
 |d r e h n=>exact .d (r.mono x) e (by rw[upd_ne (ne_of_none h f)];exact h) n
 |o q r e h oc=>exact .o q (r.mono x) e (by rw[upd_ne (ne_of_none h f)];exact h) oc
theorem StOk.laid(S:StOk K ad H st)(b:H p=none)(d:isM o=false:=by rfl):StOk K ad (upd H p o) st:=
 ⟨S.len,S.nd,λi c e=>let ⟨a,h,q⟩:=S.cell i c e;⟨a,h,q.laid h b (Ext.laid b d)⟩⟩
theorem Ext.laidN(c:H p=none)(d:p∉ad):Ext ad H ad (upd H p o):=
 ⟨λ_ _ h=>h,λb xs h=>by rw[upd_ne (ne_of_none h c)];exact h,λb o h _=>by rw[upd_ne (ne_of_none h c)];exact h,λ_ h=>.inl h,λi a h=>by
  unfold Z8;rw[upd_ne (show a≠p from λz=>d (z ▸ aU h))]⟩
theorem StOk.laidN(S:StOk K ad H st)(b:H p=none)(d:p∉ad):StOk K ad (upd H p o) st:=
 ⟨S.len,S.nd,λi c e=>let ⟨a,h,q⟩:=S.cell i c e;⟨a,h,q.laid h b (Ext.laidN b d)⟩⟩
theorem XA{l:Li α}{x y:α}(h:(l++[x])[i]?=some y):l[i]?=some y\/(i=l.length/\y=x):=by
 by_cases a:i < l.length
 .rw[bT a]at h
  exact .inl h
 .rw[cI (by omega)]at h
  have:i - l.length=0:=by
   cases e:i - l.length with
   |zero=>rfl
   |succ k=>rw[e]at h;simp at h
  rw[this]at h;simp at h;exact .inr ⟨by omega,h.symm⟩
theorem Y6{l:Li α}{x y:α}(h:l[i]?=some y):(l++[x])[i]?=some y:=by
 rw[bT (bF.mp h).1];exact h
theorem Zz{l:Li α}{x:α}:(l++[x])[l.length]?=some x:=by simp
theorem Ext.pushG(c:H p=none)(hk:∀ (i:Nat) (a:Ad),ad[i]?=some a->(Z8 H a↔Z8 (upd H p o) a)):Ext ad H (ad++[p]) (upd H p o):=
 ⟨λ_ _ h=>Y6 h,λb xs h=>by rw[upd_ne (ne_of_none h c)];exact h,λb o h _=>by rw[upd_ne (ne_of_none h c)];exact h,λb h=>(bE.mp h).elim .inl λz=>.inr (by rw[aO.mp z];exact c),hk⟩
theorem Ext.push{xs:Li V}(a:H p=none):Ext ad H (ad++[p]) (upd H p (.lst xs)):=Ext.pushG a λ_ _ _=>Qb (QI a) rfl
theorem StOk.more(S:StOk K ad H st)(o:∀ (i:Nat) (c:Li D),ad[i]?=some p->st[i]?=some (true,c)->False)(u:∀ (i:Nat) (c:ZI) (a:Ad),ad[i]?=some a->CellOk K ad H a c->CellOk K (ad++[p]) H' a c)(t:CellOk K (ad++[p]) H' p (true,ds)):StOk K (ad++[p]) H' (st++[(true,ds)]):=by
 have b:∀ (i:Nat) (c:Li D) (a:Ad),(ad++[p])[i]?=some a->st[i]?=some (true,c)->ad[i]?=some a:=λi c a h e=>by
  obtain⟨z,k,_⟩:=S.cell i _ e;have n:=Y6 (x:=p) k;rw[h]at n;cases n;exact k
 refine⟨by rw[aI,aI,S.len];rfl,λi j a c d m l g f=>?_,λi c e=>?_⟩
 .rcases XA g with g|⟨v,_⟩
  .rcases XA f with f|⟨r,_⟩
   .exact S.nd i j a c d (b i c a m g) (b j d a l f) g f
   .have k:=b i c a m g
    rw[r,<-S.len,Zz]at l;cases l;exact(o i c k g).elim
  .rcases XA f with f|⟨r,_⟩
   .have s:=b j d a l f
    rw[v,<-S.len,Zz]at m;cases m;exact(o j d s f).elim
   .omega
 .rcases XA e with e|⟨y,w⟩
  .obtain⟨a,h,q⟩:=S.cell i c e
   exact⟨a,Y6 h,u i c a h q⟩
  .subst w
   exact⟨p,by rw[y,<-S.len];exact Zz,t⟩
theorem StOk.noNew(S:StOk K ad H st)(a:H p=none)(i:Nat)(c:Li D)(h:ad[i]?=some p)(e:st[i]?=some (true,c)):False:=by
 obtain⟨f,b,q⟩:=S.cell i _ e;rw[h]at b;cases b
 cases q with
 |l _ _ q=>
  obtain⟨_,q⟩|⟨q,_⟩:=q
  .rw[a]at q;cases q
  .cases q
 |d _ _ q _=>rw[a]at q;cases q
 |o _ _ _ q _=>rw[a]at q;cases q
theorem StOk.push{xs:Li V}(S:StOk K ad H st)(a:H p=none)(r:Dens K ad H xs ds):StOk K (ad++[p]) (upd H p (.lst xs)) (st++[(true,ds)]):=
 S.more (S.noNew a) (λ_ _ _ h q=>q.laid h a (Ext.push a)) (.l (Vk upd_same rfl) (r.mono (Ext.push a)) (.inl ⟨rfl,upd_same⟩))
theorem StOk.wrG(S:StOk K ad H st)(g:Keeps K ad ad H (upd H p o))(j:p∉ad):StOk K ad (upd H p o) st:=
 ⟨S.len,S.nd,λi c e=>by
  obtain⟨a,h,q⟩:=S.cell i c e;have f:a≠p:=λz=>j (by rw[<-z];exact aU h)
  refine⟨a,h,?_⟩;cases q with
  |l n r q=>
   refine .l (λz=>n ((g.l h).2.mpr z)) (r.map g) ?_
   rcases q with⟨b,q⟩|⟨b,⟨o,q⟩|q⟩
   .exact .inl ⟨b,by rw[upd_ne f];exact q⟩
   .exact .inr ⟨b,.inl ⟨o,by rw[upd_ne f];exact q⟩⟩
   .exact .inr ⟨b,.inr q⟩
  |d r t q n=>exact .d (r.map g) t (by rw[upd_ne f];exact q) n
  |o z r t q oc=>exact .o z (r.map g) t (by rw[upd_ne f];exact q) oc⟩
theorem StOk.has{a:Ad}(S:StOk K ad H st)(b:ad[i]?=some a):(∃ o,H a=some o)\/∃ o,K.lookup a=some o:=by
 obtain⟨g,c,q⟩:=S.cell i _ (lG7 (show i < st.length by rw[<-S.len];exact(bF.mp b).1))
 rw[b]at c;cases c
 cases q with
 |l _ _ q=>
  obtain⟨_,q⟩|⟨_,⟨o,q⟩|⟨o,its,m,⟨e,f⟩,_⟩⟩:=q
  .exact .inl ⟨_,q⟩
  .exact .inl ⟨_,q⟩
  .exact .inr ⟨_,e⟩
 |d _ _ q _=>exact .inl ⟨_,q⟩
 |o _ _ _ q _=>exact .inl ⟨_,q⟩
theorem StOk.extD{o:HO}(S:StOk K ad H st)(b:H p=none)(hk:∀ o,K.lookup p≠some o):Ext ad H (ad++[p]) (upd H p o):=
 Ext.pushG b λi a h=>by
  have n:a≠p:=λz=>(S.has h).elim (λ⟨o,q⟩=>by rw[z,b]at q;cases q) λ⟨o,q⟩=>hk o (z ▸ q)
  unfold Z8;rw[upd_ne n]
theorem StOk.pushD(S:StOk K ad H st)(a:H p=none)(hk:∀ o,K.lookup p≠some o):StOk K (ad++[p]) (upd H p (.dN (Z4 []))) (st++[(true,[])]):=
 S.more (S.noNew a) (λ_ _ _ h q=>q.laid h a (S.extD a hk)) (.d .nil rfl upd_same cW)
theorem StOk.pushO{b:Ad}(S:StOk K ad H st)(a:H p=none)(hk:∀ o,K.lookup p≠some o)(oc:ObC K (ClsTab.ca i)):StOk K (ad++[p]) (upd H p (.ins (ClsTab.ca i) b [])) (st++[(true,[.int (i:Int)])]):=
 S.more (S.noNew a) (λ_ _ _ h q=>q.laid h a (S.extD a hk)) (.o rfl .nil rfl upd_same ⟨oc,λ_ _=>rfl⟩)
theorem StOk.adopt{xs:Li V}(S:StOk K ad H st)(c:H p=some (.lst xs))(f:p∉ad)(r:Dens K ad H xs ds):StOk K (ad++[p]) H (st++[(true,ds)]):=by
 have a:Keeps K ad (ad++[p]) H H:=ZeR (λ_ _ h=>Y6 h) (λb g=>(bE.mp g).imp id λz=>⟨xs,by rw[aO.mp z];exact c⟩)
 exact S.more (λi _ h _=>f (aU h)) (λ_ _ _ _ q=>by
  cases q with
  |l n r h=>exact .l n (r.map a) h
  |d r e h n=>exact .d (r.map a) e h n
  |o q r e h oc=>exact .o q (r.map a) e h oc) (.l (Vk c rfl) (r.map a) (.inl ⟨rfl,c⟩))
theorem Ext.writeG{a:Ad}(h:H a=some o)(c:a∈ad)(d:∀ xs,o≠.tup xs)(hk:Z8 H a↔Z8 (upd H a o') a):Ext ad H ad (upd H a o'):=
 ⟨λ_ _ h=>h,λb f e=>by rw[upd_ne (ne_of e h (λz=>d _ z.symm))];exact e,λb o e n=>by rw[upd_ne (show b≠a from λz=>n (by rw[z];exact c))];exact e,λ_ h=>.inl h,λ_ b _=>by
  by_cases z:b=a
  .rw[z];exact hk
  .unfold Z8;rw[upd_ne z]⟩
theorem Ext.write{a:Ad}{xs:Li V}(h:H a=some (.lst xs))(b:a∈ad):Ext ad H ad (upd H a (.lst ys)):=
 Ext.writeG h b (λ_ z=>nomatch z) ⟨λz=>absurd z (Vk h rfl),λz=>absurd z (Vk upd_same rfl)⟩
theorem StOk.writeG{a:Ad}(S:StOk K ad H st)(h:ad[i]?=some a)(e:st[i]?=some (true,ds))(y:H a=some o)(B:∀ q u,o≠.frz q u)(x:Ext ad H ad (upd H a o'))(r:CellOk K ad (upd H a o') a (true,es)) :
  StOk K ad (upd H a o') (st.set i (true,es)):=by
 have A:i < st.length:=(bF.mp e).1;refine⟨by rw[bC];exact S.len,λj k b c d E C s p=>?_,λj c q=>?_⟩
 .have up:∀ (j:Nat) (c:Li D),(st.set i (true,es))[j]?=some (true,c)->∃ v,st[j]?=some (true,v):=λj c q=>by
   by_cases z:i=j
   .subst z;exact⟨_,e⟩
   .rw[bI z]at q;exact⟨_,q⟩
  obtain⟨v,s⟩:=up j c s;obtain⟨F,p⟩:=up k d p;exact S.nd j k b v F E C s p
 .by_cases z:i=j
  .subst z
   rw[dC A]at q;cases q;exact⟨a,h,r⟩
  .rw[bI z]at q
   obtain⟨b,m,hz⟩:=S.cell j c q;refine⟨b,m,?_⟩;have g:c.1=true->b≠a:=λt w=>by
    obtain⟨I,G⟩:=c;cases (show I=true from t)
    exact z (S.nd i j a ds G h (w ▸ m) e q)
   cases hz with
   |l n f hz=>
    refine .l (λz=>n ((x.kd j b m).mpr z)) (f.mono x) ?_
    rcases hz with⟨t,hz⟩|⟨t,⟨o,hz⟩|hz⟩
    .exact .inl ⟨t,by rw[upd_ne (g t)];exact hz⟩
    .exact .inr ⟨t,.inl ⟨o,by rw[upd_ne (ne_of hz y (λz=>B _ _ z.symm))];exact hz⟩⟩
    .exact .inr ⟨t,.inr hz⟩
   |d f t hz n=>exact .d (f.mono x) t (by rw[upd_ne (g t)];exact hz) n
   |o z f t hz oc=>exact .o z (f.mono x) t (by rw[upd_ne (g t)];exact hz) oc
theorem StOk.write{a:Ad}{xs:Li V}(S:StOk K ad H st)(h:LA ad H i a)(e:st[i]?=some (true,ds))(b:H a=some (.lst xs))(r:Dens K ad H ys es) :
  StOk K ad (upd H a (.lst ys)) (st.set i (true,es)):=
 S.writeG h.1 e b (λ_ _ z=>nomatch z) (Ext.write b (aU h.1)) (.l (Vk upd_same rfl) (r.mono (Ext.write b (aU h.1))) (.inl ⟨rfl,upd_same⟩))
theorem Ext.writeM{a:Ad}(h:H a=some o)(m:isM o=true)(b:isM o'=true)(c:a∈ad):Ext ad H ad (upd H a o'):=
 Ext.writeG h c (λ_ z=>by rw[z]at m;cases m) ⟨λ_=>⟨_,upd_same,b⟩,λ_=>⟨_,h,m⟩⟩
theorem StOk.writeD{a:Ad}{ys:Li (D×Ad×Ad)}(S:StOk K ad H st)(h:ad[i]?=some a)(e:st[i]?=some (true,ds))(b:H a=some (.dN (Z4 xs)))(r:EntN K ad H ys es)(n:(ys.map (·.1)).Nodup) :
  StOk K ad (upd H a (.dN (Z4 ys))) (st.set i (true,es)):=
 S.writeG h e b (λ_ _ z=>nomatch z) (Ext.writeM b rfl rfl (aU h)) (.d (r.mono (Ext.writeM b rfl rfl (aU h))) rfl upd_same n)
theorem StOk.writeO{a d:Ad}{b:Li (Str×V)}(S:StOk K ad H st)(h:ad[i]?=some a)(e:st[i]?=some (true,ds))(c:H a=some (.ins (ClsTab.ca j) d kvs))(oc:ObC K (ClsTab.ca j))(r:Ents K ad H b es)(f:∀ k,fldNames.contains k=false->b.lookup k=none) :
  StOk K ad (upd H a (.ins (ClsTab.ca j) d b)) (st.set i (true,.int (j:Int) :: es)):=
 S.writeG h e c (λ_ _ z=>nomatch z) (Ext.writeM c rfl rfl (aU h)) (.o rfl (r.mono (Ext.writeM c rfl rfl (aU h))) rfl upd_same ⟨oc,f⟩)
structure EnvOk(K:fG7)(ad:List Addr)(H:Hp)(O:L2.St)(U:Env):Prop where
 len:O.length=U.length
 at_:∀ (i:Nat) (d:D),U[i]?=some (some d)->∃ v,O[i]?=some (some v)/\Den K ad H v d
theorem EnvOk.mono(x:Ext ad H ad' H')(h:EnvOk K ad H O U):EnvOk K ad' H' O U:=⟨h.len,λi d e=>let ⟨v,e1,e2⟩:=h.at_ i d e;⟨v,e1,e2.mono x⟩⟩
theorem EnvOk.set{v:V}(h:EnvOk K ad H O U)(i:Nat)(r:Den K ad H v d):EnvOk K ad H (O.set i (some v)) (Zh U i d):=by
 refine⟨by unfold Zh;rw[bC,bC];exact h.len,λj e q=>?_⟩
 unfold Zh at q;by_cases z:i=j
 .subst z
  by_cases a:i < U.length
  .rw[dC a]at q
   cases q;exact⟨v,by rw[dC (by rw[h.len];exact a)],r⟩
  .rw[eE (by rw[bC];omega)]at q
   cases q
 .rw[bI z]at q
  obtain⟨w,c,b⟩:=h.at_ j e q;exact⟨w,by rw[bI z];exact c,b⟩
def Post(K:fG7)(ad:Li Ad)(H:Hp)(d:D)(a:Za)(Q:VK):Prop:=∀ v ad' H',Ext ad H ad' H'->StOk K ad' H' a->Den K ad' H' v d->Q v H'
def tE(K:fG7)(f:Env->Za->Res):TE:=λO H Q=>∃ ad U st d a,EnvOk K ad H O U/\StOk K ad H st/\f U st=some (d,a)/\Post K ad H d a Q
def tT(K:fG7)(f:Env->Za->Res):TT:=λO H Q=>∃ ad U st k a,EnvOk K ad H O U/\StOk K ad H st/\f U st=some (.bl k,a)/\∀ ad' H',Ext ad H ad' H'->StOk K ad' H' a->Q k H'
def tA(K:fG7)(f:Env->Za->Res):TA:=λO H Q=>∃ ad U st ds a,EnvOk K ad H O U/\StOk K ad H st/\f U st=some (.tup ds,a)/\∀ vs ad' H',Ext ad H ad' H'->StOk K ad' H' a->Dens K ad' H' vs ds->Q vs H'
def rD(K:fG7)(f:D->D->Za->Res):R2:=λx y H Q=>∃ ad st c b d a,StOk K ad H st/\Den K ad H x c/\Den K ad H y b/\f c b st=some (d,a)/\Post K ad H d a Q
noncomputable def spD(K:fG7)(g:Fn):Sp:=λvs H Q _=>∃ ad ds st d a,StOk K ad H st/\Dens K ad H vs ds/\g ds st=some (d,a)/\Post K ad H d a Q
def tS(K:fG7)(f:Env->Za->Ot (Fl×Za)):TS:=λD O H=>∃ ad U st r a,EnvOk K ad H O U/\StOk K ad H st/\f U st=some (r,a) /\
 match r with
 |.nx U'=>∀ b ad' H',Ext ad H ad' H'->StOk K ad' H' a->EnvOk K ad' H' b U'->D.nx b H'
 |.bk U'=>∀ b ad' H',Ext ad H ad' H'->StOk K ad' H' a->EnvOk K ad' H' b U'->D.bk b H'
 |.ct U'=>∀ b ad' H',Ext ad H ad' H'->StOk K ad' H' a->EnvOk K ad' H' b U'->D.ct b H'
 |.rt d=>Post K ad H d a D.rt
variable{Q:VK}
theorem Post.at(p:Post K ad H d st Q)(S:StOk K ad H st){v:V}(h:Den K ad H v d):Q v H:=p v ad H (Ext.refl _ _) S h
theorem Post.later(p:Post K ad H d st Q)(x:Ext ad H ad' H'):Post K ad' H' d st Q:=λv a b y S h=>p v a b (x.trans y) S h
variable [ClsTab]
variable{n:Nat}{k:D}{bb:Bool}
variable{X:Cx}{pQ:Li (Ad×Obj)}{O:L2.St}{s:sH7}
inductive OkW:Nat->D->Prop where
 |non (n:Nat):OkW n .non
 |int (n:Nat) (i:Int):OkW n (.int i)
 |str (n:Nat) (x:Str):OkW n (.str x)
 |tup {n:Nat}{ds:List D} (h:ds.all (okN n)=true):OkW (n+1) (.tup ds)
theorem okW(h:okN n d=true):OkW n d:=by
 cases d with
 |non=>exact .non n
 |int i=>exact .int n i
 |str i=>exact .str n i
 |tup ds=>cases n with
  |zero=>exact nomatch h
  |succ n=>exact .tup h
 |_=>cases n<;>exact nomatch h
theorem Qt(I:L2.Inv X pQ O H s):∀ {n:Nat}{d:D}{v:V}{u:vL},okN n d=true->Den X.K ad H v d->RelV v u->IsV s.heap n d u:=by
 intro n
 induction n using Nat.strongRecOn with
 |_ n k=>
  intro d v u ok h r;cases okW ok with
  |non=>cases h;cases n<;>exact r
  |int _ i=>cases h;cases n<;>exact r
  |str _ i=>cases h;cases n<;>exact r
  |@tup n ds ok=>
   obtain⟨a,xs,rfl,e,j⟩:=h.ofTup;cases r;obtain⟨its,g,p,_⟩:=I.tuple e.sq;refine⟨a,_,rfl,p,?_⟩;have go:∀ {ds:Li D}{xs:Li V}{c:Li vL},ds.all (okN n)=true->Dens X.K ad H xs ds->Vals xs c->Paired (IsV s.heap n) ds c:=by
    intro ds
    induction ds with
    |nil=>intro xs c _ a b;cases a;cases b;exact .nil
    |cons d ds f=>
     intro xs c o a b;rw[aY,bA7]at o;cases a with
     |cons t q=>cases b with
      |cons m l=>exact .cons (k n (bN n) o.1 t m) (f o.2 q l)
   exact go ok j g
noncomputable def toE(x:D×Ad×Ad):D×Ad×vL:=(x.1,x.2.1,.ref x.2.2)
theorem XH{xs:Li (D×Ad×Ad)}:((∀ x∈xs,x.1≠k)->atKey (xs.map toE) k=none)/\((xs.map (·.1)).Nodup->∀ x∈xs,x.1=k->atKey (xs.map toE) k=some (x.2.1,.ref x.2.2)):=by
 induction xs with
 |nil=>exact⟨λ_=>rfl,λ_ x hx=>(nomatch hx)⟩
 |cons y xs a=>
  have e:atKey ((y :: xs).map toE) k=if y.1=k then some (y.2.1,.ref y.2.2) else atKey (xs.map toE) k:=by
   rw[aJ];unfold atKey;rw[cL];by_cases h:y.1=k
   .rw[if_pos h,show decide ((toE y).1=k)=true from aG h];rfl
   .rw[if_neg h,show decide ((toE y).1=k)=false from aE h]
  rw[e];by_cases h:y.1=k
  .rw[if_pos h]
   refine⟨λq=>absurd h (q y lQ7),λn x hx q=>?_⟩
   rw[aJ,bO]at n;rcases aH.mp hx with rfl|hx
   .rfl
   .exact absurd (aR.mpr ⟨x,hx,q.trans h.symm⟩) n.1
  .rw[if_neg h]
   refine⟨λq=>a.1 λx hx=>q x (lM7 _ hx),λn x hx q=>?_⟩
   rw[aJ,bO]at n;rcases aH.mp hx with rfl|hx
   .exact absurd q h
   .exact a.2 n.2 x hx q
theorem DictE.oh{prog:Program}{w:World}{a:HeapKind prog w D}{h:Heap}{d:Ad}{xs:Li (D×Ad×vL)}(x:DictE a h d xs):h.DictOfH a d xs:=let ⟨o,es,ho,hc,hdat,r⟩:=x;⟨o,es,_,ho,hc,hdat,r⟩
structure DNk(K:fG7)(ad:List Addr)(H:Hp)(p b:Addr)(xs:List (D×Addr×Addr))(k:D):Prop where
 h:H p=some (.dN (Z4 xs))
 n:(xs.map (·.1)).Nodup
 dk:Den K ad H (.ref b) k
 ok:okN 8 k=true
 a:∀ x∈xs,Den K ad H (.ref x.2.1) x.1/\okN 8 x.1=true
theorem DNk.of(I:L2.Inv X pQ O H s){b:Ad}(d:DNk X.K ad H p b xs k):(p==sysModules)=false/\DictE (Za5 X.prog X.w) s.heap p (xs.map toE)/\(Za5 X.prog X.w).is s.heap k b:=by
 obtain⟨j,o,es,g,l,c,i⟩:=(show ObjOk X.prog X.w H s.heap p (.dN (Z4 xs)) from I.hok p _ d.h);exact⟨j,⟨o,es,g,l,c,by rw[i,bL];rfl,λx f=>by
  obtain⟨y,e,rfl⟩:=aR.mp f;exact Qt I (d.a y e).2 (d.a y e).1 rfl,by rw[bL];exact d.n⟩,Qt I d.ok d.dk rfl⟩
def ZdT(K:fG7):V->V->V->Hp->(Hp->Prop)->Prop:=λo i v H Q=>∃ p b a xs k ad,(o=.ref p/\i=.ref b/\v=.ref a)/\DNk K ad H p b xs k/\xs.length < sizeLine/\(∀ x∈xs,x.1≠k)/\Q (upd H p (.dN (Z4 (xs++[(k,b,a)]))))
theorem Zbw(hu:X.A.units+16 < cLine):PSet X (ZdT X.K):=by
 intro pQ s O H o i v B C u Q I j m g h;obtain⟨p,b,f,xs,k,ad,⟨rfl,rfl,rfl⟩,d,l,r,q⟩:=h;cases j;cases m;cases g;obtain⟨w,z,y⟩:=d.of I;refine Zbv (show X.A.units+1+8 < cLine by omega) y z (by rw[aD];omega) (XH.1 r) λD c n=>?_
 obtain⟨o',es,e,x,a,t,_,_⟩:=c;refine⟨upd H p (.dN (Z4 (xs++[(k,b,f)]))),d_write I (by rw[d.h];exact True.intro) n ⟨o',e⟩ ⟨w,o',es,e,x,a,?_⟩,q⟩
 rw[t];unfold Z4;rw[aX,aX,bL];rfl
def Zh6(K:fG7):R2:=λx y H Q=>∃ p b xs k ad z,(x=.ref p/\y=.ref b)/\DNk K ad H p b xs k/\z∈xs/\z.1=k/\Q (.ref z.2.2) H
theorem Zgz(hu:X.A.units+16 < cLine):IxR X (Zh6 X.K):=by
 intro a slice pQ s O H x y v u Q I f e h i;obtain⟨p,b,xs,k,ad,z,⟨rfl,rfl⟩,d,g,j,q⟩:=h;cases f;cases e;obtain⟨m,c,l⟩:=d.of I;refine tail_any c.typeIs PySem.F.slot_dict_getitem.lookup (wpAny_getItem_heap (show X.A.units+1+8 < cLine by omega) l c.oh (XH.2 d.n z g j) ?_) i
 exact⟨.ref z.2.2,H,I.tok _,rfl,q⟩
theorem ZdI(hu:X.A.units+16 < cLine){b:Ad}{xs:Li (D×Ad×Ad)}(I:Inv X pQ O H s)(d:DNk X.K ad H p b xs k)(c:if bb then ∃ x∈xs,x.1=k else ∀ x∈xs,x.1≠k) :
  (Q (.bl bb) H->wpAny (model X.prog X.w) X.A (compareOp .In (.ref b) (.ref p)) (EP X pQ O Q) X.xe s)/\(Q (.bl (!bb)) H->wpAny (model X.prog X.w) X.A (compareOp .NotIn (.ref b) (.ref p)) (EP X pQ O Q) X.xe s):=by
 obtain⟨a,g,f⟩:=d.of I;have e:(atKey (xs.map toE) k).isSome=bb:=by
  cases bb with
  |true=>obtain⟨x,h,ex⟩:=c;rw[XH.2 d.n x h ex];rfl
  |false=>rw[XH.1 c];rfl
 rw[<-e];exact⟨λq=>wpAny_in_heap (show X.A.units+1+8 < cLine by omega) f a g.oh ⟨.bl _,H,I.tok _,rfl,q⟩,λq=>wpAny_notIn_heap (show X.A.units+1+8 < cLine by omega) f a g.oh ⟨.bl _,H,I.tok _,rfl,q⟩⟩
theorem VE:CallR X (.builtin "len") (λxs H Q=>∃ a ys,xs=[.ref a]/\H a=some (.dN (Z4 ys))/\ys.length<=sizeLine/\Q (.int ys.length) H):=by
 intro pQ s O H xs k Q I r h;obtain⟨a,ys,rfl,e,l,q⟩:=h;obtain⟨u,rfl,c⟩:=vals1 r;cases c;have m:=line63;obtain⟨i,o,es,f,j,b,g⟩:=(show ObjOk X.prog X.w H s.heap a (.dN (Z4 ys)) from I.hok a _ e);have d:es.size=ys.length:=by rw[<-cF,g];unfold Z4;rw[aD]
 exact ZcD i ⟨o,f,j,b⟩ (by omega) ⟨.int ys.length,H,I.tok _,⟨s.toks+1,by rw[d]⟩,q⟩
def rSd(K:fG7):V->Li V->Hp->VK->Prop:=λx vs H Q=>∃ a b l xs k ad,(x=.ref a/\vs=[.ref b,.ref l])/\DNk K ad H a b xs k /\
 ((∃ x∈xs,x.1=k/\Q (.ref x.2.2) H)\/((∀ x∈xs,x.1≠k)/\xs.length < sizeLine/\Q (.ref l) (upd H a (.dN (Z4 (xs++[(k,b,l)]))))))
theorem ZgF(hu:X.A.units+16 < cLine):MtM X "dict.setdefault" (rSd X.K):=by
 intro pQ s O H x vs v J Q I m o h;obtain⟨a,u,l,xs,k,ad,⟨rfl,rfl⟩,d,B⟩:=h;cases m;obtain⟨M,L,rfl,t,r⟩:=o.two;cases t;cases r
 obtain⟨i,j,G⟩:=d.of I;refine call_meetsIn PySem.F.slot_dict_setdefault j.typeIs PySem.F.entry_dict_setdefault (PySem.F.args_dict_setdefault_3 _ _ _) (Vi (Za5 X.prog X.w) (k:=k) a i (.ref l)) ⟨_,j,(show X.A.units+1+8 < cLine by omega),G,?_⟩
 rcases B with⟨x,y,ex,q⟩|⟨C,N,q⟩
 .have e:=XH.2 d.n x y ex
  refine⟨λp b=>?_,λb=>?_⟩
  .rw[e]at b;cases b
   exact⟨.ref x.2.2,H,I.tok _,rfl,q⟩
  .rw[e]at b;cases b
 .have e:=XH.1 C
  refine⟨λp b=>?_,λ_=>⟨by rw[aD];omega,λP f z=>?_⟩⟩
  .rw[e]at b;cases b
  .obtain⟨o',es,g,E,c,D,_,_⟩:=f
   refine⟨.ref l,upd H a (.dN (Z4 (xs++[(k,u,l)]))),d_write I (by rw[d.h];exact True.intro) z ⟨o',g⟩ ⟨i,o',es,g,E,c,?_⟩,rfl,q⟩
   rw[D];unfold Z4;rw[aX,aX,bL];rfl
variable [ClsTab]
variable{x:D}{st':Za}
section
variable{a b c:Expr}{fa fb fc:Ev}{pos:Pos}
theorem QB(O:L2.St)(H:Hp)(Q:VK)(h:tE K (YZ i) O H Q):tVar i O H Q:=by
 obtain⟨ad,U,st,d,st',E,S,e,p⟩:=h;unfold YZ at e;split at e
 .rename_i q
  obtain⟨v,b,a⟩:=E.at_ i _ q;cases e;exact⟨v,b,p.at S a⟩
 .exact Zc e
theorem VW{v:V}(hd:∀ ad H,Den K ad H v d)(O:L2.St)(H:Hp)(Q:VK)(h:tE K (evC d) O H Q):tC v O H Q:=by
 obtain⟨ad,U,st,a,st',E,S,e,p⟩:=h;cases e;exact p.at S (hd _ _)
theorem W8{g:D->D->Za->Res}(O:L2.St)(H:Hp)(Q:VK)(h:tE K (Zw fa fb g) O H Q):tOp (rD K g) (tE K fa) (tE K fb) O H Q:=by
 obtain⟨ad,U,st,d,st',E,S,e,p⟩:=h;unfold Zw at e;split at e
 .rename_i x b l
  split at e
  .rename_i y a k
   refine⟨ad,U,st,x,b,E,S,l,λs f u j q n=>⟨f,U,b,y,a,E.mono j,q,k,λr c t i o m=>?_⟩⟩
   exact⟨c,a,x,y,d,st',o,n.mono i,m,e,p.later (j.trans i)⟩
  .exact Zc e
 .exact Zc e
def rU1(K:fG7)(g:D->Za->Res):V->Hp->VK->Prop:=λx H Q=>∃ ad st a d st',StOk K ad H st/\Den K ad H x a/\g a st=some (d,st')/\Post K ad H d st' Q
theorem ZeM{g:D->Za->Res}(O:L2.St)(H:Hp)(Q:VK)(h:tE K (Zq fa g) O H Q):tUn (rU1 K g) (tE K fa) O H Q:=by
 obtain⟨ad,U,st,d,st',E,S,e,p⟩:=h;unfold Zq at e;split at e
 .rename_i x a f
  exact⟨ad,U,st,x,a,E,S,f,λk b l c j i=>⟨b,a,x,d,st',j,i,e,p.later c⟩⟩
 .exact Zc e
theorem ZaG(O:L2.St)(H:Hp)(Q:Bool->Hp->Prop)(h:tT K fa O H Q):tE K fa O H λx d=>∃ c,x=.bl c/\Q c d:=by
 obtain⟨ad,U,st,k,st',E,S,e,p⟩:=h;exact⟨ad,U,st,.bl k,st',E,S,e,λv ad' H' x b a=>⟨k,a.ofBl,p ad' H' x b⟩⟩
theorem Ye{b c:Ev}{r:D×Za}(h:YB fc b c U st=some r):∃ k a,fc U st=some (.bl k,a)/\(if k=true then b U a else c U a)=some r:=by
 unfold YB at h;split at h
 .rename_i a q
  exact⟨true,a,q,by rw[if_pos rfl];exact h⟩
 .rename_i a q
  exact⟨false,a,q,by rw[if_neg bF7];exact h⟩
 .exact Zc h
theorem ZeK(O:L2.St)(H:Hp)(Q:VK)(h:tE K (YB fc fa fb) O H Q):tIf (tT K fc) (tE K fa) (tE K fb) O H Q:=by
 obtain⟨ad,U,st,d,st',E,S,e,p⟩:=h;obtain⟨k,a,q,e⟩:=Ye e;refine⟨ad,U,st,k,a,E,S,q,λb g c f=>?_⟩
 cases k with
 |true=>
  rw[if_pos rfl]at e ⊢;exact⟨b,U,a,d,st',E.mono c,f,e,p.later c⟩
 |false=>
  rw[if_neg bF7]at e ⊢;exact⟨b,U,a,d,st',E.mono c,f,e,p.later c⟩
theorem Zao(O:L2.St)(H:Hp)(Q:VK)(h:tE K (YB fa fb (evC (.bl false))) O H Q):tAndV (tE K fa) (tE K fb) O H Q:=by
 obtain⟨ad,U,st,d,st',E,S,e,p⟩:=h;obtain⟨k,a,q,e⟩:=Ye e;refine⟨ad,U,st,.bl k,a,E,S,q,λi c j b f g=>⟨k,g.ofBl,?_⟩⟩
 cases k with
 |true=>
  rw[if_pos rfl]at e ⊢;exact⟨c,U,a,d,st',E.mono b,f,e,p.later b⟩
 |false=>
  rw[if_neg bF7]at e ⊢;cases e;exact(p.later b).at f (.bl false)
theorem Zcp(O:L2.St)(H:Hp)(Q:VK)(h:tE K (YB fa (evC (.bl true)) fb) O H Q):tOrV (tE K fa) (tE K fb) O H Q:=by
 obtain⟨ad,U,st,d,st',E,S,e,p⟩:=h;obtain⟨k,a,q,e⟩:=Ye e;refine⟨ad,U,st,.bl k,a,E,S,q,λi c j b f g=>⟨k,g.ofBl,?_⟩⟩
 cases k with
 |true=>
  rw[if_pos rfl]at e ⊢;cases e;exact(p.later b).at f (.bl true)
 |false=>
  rw[if_neg bF7]at e ⊢;exact⟨c,U,a,d,st',E.mono b,f,e,p.later b⟩
theorem Zan(O:L2.St)(H:Hp)(Q:Bool->Hp->Prop)(h:tT K (YB fa fb (evC (.bl false))) O H Q):tAnd (tT K fa) (tT K fb) O H Q:=by
 obtain⟨ad,U,st,d,st',E,S,e,p⟩:=h;obtain⟨k,a,q,e⟩:=Ye e;refine⟨ad,U,st,k,a,E,S,q,λb m c g=>?_⟩
 cases k with
 |true=>
  rw[if_pos rfl]at e ⊢;exact⟨b,U,a,d,st',E.mono c,g,e,λf l i j=>p f l (c.trans i) j⟩
 |false=>
  rw[if_neg bF7]at e ⊢;cases e;exact p b m c g
theorem Zco(O:L2.St)(H:Hp)(Q:Bool->Hp->Prop)(h:tT K (YB fa (evC (.bl true)) fb) O H Q):tOr (tT K fa) (tT K fb) O H Q:=by
 obtain⟨ad,U,st,d,st',E,S,e,p⟩:=h;obtain⟨k,a,q,e⟩:=Ye e;refine⟨ad,U,st,k,a,E,S,q,λb m c g=>?_⟩
 cases k with
 |true=>
  rw[if_pos rfl]at e ⊢;cases e;exact p b m c g
 |false=>
  rw[if_neg bF7]at e ⊢;exact⟨b,U,a,d,st',E.mono c,g,e,λf l i j=>p f l (c.trans i) j⟩
theorem ZaC(O:L2.St)(H:Hp)(Q:Bool->Hp->Prop)(h:tT K (Zq fa Za7) O H Q):tNot (tT K fa) O H Q:=by
 obtain⟨ad,U,st,d,st',E,S,e,p⟩:=h;unfold Zq at e;split at e
 .rename_i x a f
  cases x with
  |bl k=>
   cases (show some (D.bl (!k),a)=_ from e)
   exact⟨ad,U,st,k,_,E,S,f,λb i c g=>p b i c g⟩
  |_=>simp[Za7]at e
 .exact Zc e
theorem ZaD(O:L2.St)(H:Hp)(Q:VK)(h:tE K (Zq fa Za7) O H Q):tNotV (tE K fa) O H Q:=by
 obtain⟨ad,U,st,d,st',E,S,e,p⟩:=h;unfold Zq at e;split at e
 .rename_i x a c
  cases x with
  |bl k=>
   cases (show some (D.bl (!k),a)=_ from e)
   exact⟨ad,U,st,.bl k,_,E,S,c,λj g l b i f=>⟨k,f.ofBl,(p.later b).at i (.bl _)⟩⟩
  |_=>simp[Za7]at e
 .exact Zc e
theorem VU(O:L2.St)(H:Hp)(Q:Li V->Hp->Prop)(h:tA K (evC (.tup [])) O H Q):tNil O H Q:=by
 obtain⟨ad,U,st,d,st',E,S,e,p⟩:=h;cases e;exact p [] ad H (Ext.refl _ _) S .nil
theorem Jk(O:L2.St)(H:Hp)(Q:Li V->Hp->Prop)(h:tA K (Zw fa fb Xg) O H Q):tCons (tE K fa) (tA K fb) O H Q:=by
 obtain⟨ad,U,st,d,st',E,S,e,p⟩:=h;unfold Zw at e;split at e
 .rename_i x a l
  split at e
  .rename_i y c k
   cases y with
   |tup b=>
    have e:(if b.length < 1000 then some (D.tup (x :: b),c) else none)=some (D.tup d,st'):=e
    split at e
    .cases e
     refine⟨ad,U,st,_,a,E,S,l,λt g u j q n=>⟨g,U,a,b,_,E.mono j,q,k,λs f r i o m=>?_⟩⟩
     exact p _ f r (j.trans i) o (.cons (n.mono i) m)
    .cases e
   |_=>simp[Xg]at e
  .cases e
 .cases e
theorem Zct(i:∀ U st ds st',fa U st=some (.tup ds,st')->ds.length<=1000)(g:∀ U st d st',fa U st=some (d,st')->∃ ds,d=.tup ds)(O:L2.St)(H:Hp)(Q:VK)(h:tE K fa O H Q):tTup (tA K fa) O H Q:=by
 obtain⟨ad,U,st,d,st',E,S,e,p⟩:=h;obtain⟨ds,rfl⟩:=g _ _ _ _ e;refine⟨ad,U,st,ds,st',E,S,e,λvs b k f j c=>⟨?_,λq a=>?_⟩⟩
 .rw[c.length]
  exact aK (i _ _ _ _ e) (by decide)
 .exact p _ b _ (f.trans (Ext.laid a)) (j.laid a) (.tup (.inl upd_same) (c.mono (Ext.laid a)))
theorem Zcm(k:∀ U st ds st',fa U st=some (.tup ds,st')->ds.length<=1000)(O:L2.St)(H:Hp)(Q:VK)(h:tE K (Zq fa Za1) O H Q):tLst (tA K fa) O H Q:=by
 obtain⟨ad,U,st,d,st',E,S,e,p⟩:=h;unfold Zq at e;split at e
 .rename_i x a c
  cases x with
  |tup ds=>
   cases (show some (D.lst a.length,a++[(true,ds)])=_ from e)
   refine⟨ad,U,st,ds,_,E,S,c,λvs b l j i g=>⟨?_,λq f=>?_⟩⟩
   .rw[g.length]
    exact aK (k _ _ _ _ c) (by decide)
   .refine p _ (b++[q]) _ (j.trans (Ext.push f)) (i.push f g) (.newL ?_)
    rw[<-i.len];exact Zz
  |_=>simp[Za1]at e
 .exact Zc e
theorem VX{g:Fn}{a:Li V}{E:XK}(hd:∀ ad H,Dens K ad H a ds)(O:L2.St)(H:Hp)(Q:VK)(h:tE K (Zq fa (Wi g ds)) O H Q):tCall (spD K g) a E (tA K fa) O H Q:=by
 obtain⟨ad,U,st,d,st',E,S,e,p⟩:=h;unfold Zq at e;split at e
 .rename_i x f i
  cases x with
  |tup xs=>exact⟨ad,U,st,xs,_,E,S,i,λvs b l c k j=>⟨b,xs++ds,_,d,st',k,j.append (hd _ _),e,p.later c⟩⟩
  |_=>simp[Wi]at e
 .exact Zc e
def rC(K:fG7)(g:Li D->Za->Res):Li V->Hp->VK->Prop:=λvs H Q=>∃ ad st ds d st',StOk K ad H st/\Dens K ad H vs ds/\g ds st=some (d,st')/\Post K ad H d st' Q
noncomputable def on1(g:D->Za->Res):Li D->Za->Res
 |[x],st=>g x st
 |_,_=>none
noncomputable def on2(g:D->D->Za->Res):Li D->Za->Res
 |[x,y],st=>g x y st
 |_,_=>none
theorem Wq{g:D->Za->Res}(O:L2.St)(H:Hp)(Q:VK)(h:tE K (Zq fa g) O H Q):tCB (rC K (on1 g)) (tCons (tE K fa) tNil) O H Q:=by
 obtain⟨ad,U,st,d,st',E,S,e,p⟩:=h;unfold Zq at e;split at e
 .rename_i x a f
  exact⟨ad,U,st,x,a,E,S,f,λk b l c j i=>⟨b,a,[x],d,st',j,.cons i .nil,e,p.later c⟩⟩
 .exact Zc e
theorem VV{g:D->D->Za->Res}(O:L2.St)(H:Hp)(Q:VK)(h:tE K (Zw fa fb g) O H Q):tCB (rC K (on2 g)) (tCons (tE K fa) (tCons (tE K fb) tNil)) O H Q:=by
 obtain⟨ad,U,st,d,st',E,S,e,p⟩:=h;unfold Zw at e;split at e
 .rename_i x b l
  split at e
  .rename_i y a k
   refine⟨ad,U,st,x,b,E,S,l,λs f u j q n=>⟨f,U,b,y,a,E.mono j,q,k,λr c t i o m=>?_⟩⟩
   exact⟨c,a,[x,y],d,st',o,.cons (n.mono i) (.cons m .nil),e,p.later (j.trans i)⟩
  .exact Zc e
 .exact Zc e
def tO(K:fG7)(f:Ev):TO:=λO H Q=>∃ ad U st d st',EnvOk K ad H O U/\StOk K ad H st/\f U st=some (d,st') /\
 ((d=.non/\∀ ad' H',Ext ad H ad' H'->StOk K ad' H' st'->Q none H')\/∃ i,d=.int i/\∀ ad' H',Ext ad H ad' H'->StOk K ad' H' st'->Q (some i) H')
def rSl(K:fG7):V->Ot Int->Ot Int->Hp->VK->Prop:=λx b c H Q=>∃ ad st a d st',StOk K ad H st/\Den K ad H x a/\Yf a b c st=some (d,st')/\Post K ad H d st' Q
noncomputable def part:D->Ot (Ot Int)
 |.non=>some none
 |.int i=>some (some i)
 |_=>none
theorem Vq{l h:D}{r:D×Za}(e:YS x l h st=some r):∃ a b,part l=some a/\part h=some b/\Yf x a b st=some r:=by
 unfold YS at e;split at e
 .exact⟨_,_,rfl,rfl,e⟩
 .exact⟨_,_,rfl,rfl,e⟩
 .exact⟨_,_,rfl,rfl,e⟩
 .exact⟨_,_,rfl,rfl,e⟩
 .exact Zc e
theorem ZdX{f:Ev}{Q:Ot Int->Hp->Prop}{o:Ot Int}(E:EnvOk K ad H O U)(S:StOk K ad H st)(e:f U st=some (d,st'))(a:part d=some o)(q:∀ ad' H',Ext ad H ad' H'->StOk K ad' H' st'->Q o H'):tO K f O H Q:=by
 refine⟨ad,U,st,d,st',E,S,e,?_⟩;cases d with
 |non=>cases a;exact .inl ⟨rfl,q⟩
 |int i=>cases a;exact .inr ⟨i,rfl,q⟩
 |_=>exact Zc a
theorem Jm(O:L2.St)(H:Hp)(Q:VK)(h:tE K (WD fa fb fc YS) O H Q):tSl (rSl K) (tE K fa) (tO K fb) (tO K fc) O H Q:=by
 obtain⟨ad,U,st,d,st',E,S,e,p⟩:=h;unfold WD at e;split at e
 .rename_i x f m
  split at e
  .rename_i y j l
   split at e
   .rename_i z c k
    obtain⟨A,B,n,o,e⟩:=Vq e;refine⟨ad,U,st,x,f,E,S,m,λw s F b v q=>ZdX (E.mono b) v l n λr D a u=>ZdX (E.mono (b.trans a)) u k o λg C i t=>?_⟩
    exact⟨g,c,x,d,st',t,q.mono (a.trans i),e,p.later (b.trans (a.trans i))⟩
   .exact Zc e
  .exact Zc e
 .exact Zc e
theorem Zcn(O:L2.St)(H:Hp)(Q:Ot Int->Hp->Prop)(h:tO K (evC .non) O H Q):tNoPart O H Q:=by
 obtain⟨ad,U,st,d,st',E,S,e,p⟩:=h;cases e;rcases p with⟨_,p⟩|⟨i,z,_⟩
 .exact p ad H (Ext.refl _ _) S
 .cases z
end
variable [ClsTab]
def PostS(K:fG7)(ad:Li Ad)(H:Hp)(r:Fl)(st':Za)(D:Ends):Prop:=match r with
 |.nx U'=>∀ a ad' H',Ext ad H ad' H'->StOk K ad' H' st'->EnvOk K ad' H' a U'->D.nx a H'
 |.bk U'=>∀ a ad' H',Ext ad H ad' H'->StOk K ad' H' st'->EnvOk K ad' H' a U'->D.bk a H'
 |.ct U'=>∀ a ad' H',Ext ad H ad' H'->StOk K ad' H' st'->EnvOk K ad' H' a U'->D.ct a H'
 |.rt d=>Post K ad H d st' D.rt
theorem PostS.later{r:Fl}{D:Ends}(x:Ext ad H ad' H')(p:PostS K ad H r st D):PostS K ad' H' r st D:=by
 cases r with
 |nx U=>exact λa b c y S E=>p a b c (x.trans y) S E
 |bk U=>exact λa b c y S E=>p a b c (x.trans y) S E
 |ct U=>exact λa b c y S E=>p a b c (x.trans y) S E
 |rt d=>exact Post.later p x
theorem ZS{f:Ex}{D:Ends}{r:Fl}(E:EnvOk K ad H O U)(S:StOk K ad H st)(e:f U st=some (r,st'))(p:PostS K ad H r st' D):tS K f D O H:=by
 refine⟨ad,U,st,r,st',E,S,e,?_⟩;cases r<;>exact p
theorem ZO{f:Ex}{D:Ends}(h:tS K f D O H):∃ ad U st r st',EnvOk K ad H O U/\StOk K ad H st/\f U st=some (r,st')/\PostS K ad H r st' D:=by
 obtain⟨ad,U,st,r,st',E,S,e,p⟩:=h;refine⟨ad,U,st,r,st',E,S,e,?_⟩;cases r<;>exact p
variable{E:Ends}{B:D->Env->Za->Ot (Fl×Za)}{m:Nat}
variable{fe fk:Ev}
section
variable{f g:Ex}{fi:Ev}
theorem V0(D:Ends)(O:L2.St)(H:Hp)(h:tS K (λU st=>some (.nx U,st)) D O H):tNext D O H:=by
 obtain⟨ad,U,st,r,st',E,S,e,p⟩:=ZO h;cases e;exact p O ad H (Ext.refl _ _) S E
theorem Zch(D:Ends)(O:L2.St)(H:Hp)(h:tS K (λU st=>some (.bk U,st)) D O H):tBreak D O H:=by
 obtain⟨ad,U,st,r,st',E,S,e,p⟩:=ZO h;cases e;exact p O ad H (Ext.refl _ _) S E
theorem Zaq(D:Ends)(O:L2.St)(H:Hp)(h:tS K (λU st=>some (.ct U,st)) D O H):tCont D O H:=by
 obtain⟨ad,U,st,r,st',E,S,e,p⟩:=ZO h;cases e;exact p O ad H (Ext.refl _ _) S E
theorem Zcs(D:Ends)(O:L2.St)(H:Hp)(h:tS K (YG f g) D O H):tSeq (tS K f) (tS K g) D O H:=by
 obtain⟨ad,U,st,r,st',E,S,e,p⟩:=ZO h;unfold YG at e;split at e
 .rename_i a i q
  exact ZS E S q λb j m c k l=>ZS l k e (p.later c)
 .rename_i q
  refine ZS E S e ?_;cases r with
  |nx a=>exact absurd e (q a st')
  |bk a=>exact p
  |ct a=>exact p
  |rt d=>exact p
theorem Zcr(D:Ends)(O:L2.St)(H:Hp)(h:tS K (U3 fe) D O H):tRet (tE K fe) D O H:=by
 obtain⟨ad,U,st,r,st',E,S,e,p⟩:=ZO h;unfold U3 at e;split at e
 .rename_i d a q
  cases e;exact⟨ad,U,st,d,_,E,S,q,p⟩
 .exact Zc e
theorem W9(D:Ends)(O:L2.St)(H:Hp)(h:tS K (Vp i fe) D O H):tAsg (tE K fe) (gName i) D O H:=by
 obtain⟨ad,U,st,r,st',E,S,e,p⟩:=ZO h;unfold Vp at e;split at e
 .rename_i d c q
  cases e;exact⟨ad,U,st,d,_,E,S,q,λv a j b g f=>p _ a j b g ((E.mono b).set i f)⟩
 .exact Zc e
theorem ZaE(D:Ends)(O:L2.St)(H:Hp)(h:tS K (Zbt i j fe) D O H):tAsg (tE K fe) (gTup K 2 (gCons (gName i) (gCons (gName j) gNil))) D O H:=by
 obtain⟨ad,U,st,r,st',E,S,e,p⟩:=ZO h;unfold Zbt at e;split at e
 .rename_i x y g q
  cases e;refine⟨ad,U,st,_,_,E,S,q,λv d n f m c=>?_⟩
  obtain⟨a,vs,rfl,k,b⟩:=c.ofTup;cases b with
  |cons c b=>
   cases b with
   |cons l b=>
    cases b;exact⟨a,_,rfl,(k).sq,rfl,_,_,rfl,_,_,rfl,rfl,p _ d n f m (((E.mono f).set i c).set j l)⟩
 .exact Zc e
theorem ZaF{l:Nat}(D:Ends)(O:L2.St)(H:Hp)(h:tS K (Zbu i j l fe) D O H):tAsg (tE K fe) (gTup K 3 (gCons (gName i) (gCons (gName j) (gCons (gName l) gNil)))) D O H:=by
 obtain⟨ad,U,st,r,st',E,S,e,p⟩:=ZO h;unfold Zbu at e;split at e
 .rename_i x y z g q
  cases e;refine⟨ad,U,st,_,_,E,S,q,λv d s f o c=>?_⟩
  obtain⟨a,vs,rfl,k,b⟩:=c.ofTup;cases b with
  |cons c b=>
   cases b with
   |cons n b=>
    cases b with
    |cons m b=>
     cases b;exact⟨a,_,rfl,(k).sq,rfl,_,_,rfl,_,_,rfl,_,_,rfl,rfl,p _ d s f o ((((E.mono f).set i c).set j n).set l m)⟩
 .exact Zc e
theorem QA(D:Ends)(O:L2.St)(H:Hp)(h:tS K (JM fe) D O H):tDrop (tE K fe) D O H:=by
 obtain⟨ad,U,st,r,st',E,S,e,p⟩:=ZO h;unfold JM at e;split at e
 .rename_i d c q
  cases e;exact⟨ad,U,st,d,_,E,S,q,λv a g b f i=>p _ a g b f (E.mono b)⟩
 .exact Zc e
theorem Zcl(D:Ends)(O:L2.St)(H:Hp)(h:tS K (Yp fe f g) D O H):tIfS (tT K fe) (tS K f) (tS K g) D O H:=by
 obtain⟨ad,U,st,r,st',E,S,e,p⟩:=ZO h;unfold Yp at e;split at e
 .rename_i a q
  refine⟨ad,U,st,true,a,E,S,q,λc i b d=>?_⟩
  dsimp only;rw[if_pos rfl];exact ZS (E.mono b) d e (p.later b)
 .rename_i a q
  refine⟨ad,U,st,false,a,E,S,q,λc i b d=>?_⟩
  dsimp only;rw[if_neg bF7];exact ZS (E.mono b) d e (p.later b)
 .exact Zc e
theorem Vv{a:Ad}(S:StOk K ad H st)(h:LA ad H i a):∃ b ds,st[i]?=some (b,ds):=by
 have c:i < st.length:=by rw[<-S.len];exact(bF.mp h.1).1
 exact⟨st[i].1,st[i].2,by rw[lG7 c]⟩
theorem Qj{b:Za}{a:Ad}{v:V}(S:StOk K ad H st)(h:LA ad H i a)(hd:Den K ad H v d)(e:QY i d st=some b) :
  ∃ xs,H a=some (.lst xs)/\xs.length < sizeLine/\Ext ad H ad (upd H a (.lst (xs++[v])))/\StOk K ad (upd H a (.lst (xs++[v]))) b:=by
 unfold QY at e;split at e
 .rename_i ds q
  split at e
  .rename_i f
   cases e;obtain⟨xs,r,c⟩:=S.listM h q;refine⟨xs,c,?_,Ext.write c (aU h.1),S.write h q c (r.append (.cons hd .nil))⟩;rw[r.length];exact aT f (by decide)
  .exact Zc e
 .exact Zc e
theorem Zcg(D:Ends)(O:L2.St)(H:Hp)(h:tS K (UE i fe) D O H):tDrop (tBM K "list" rAppend (tVar i) (tCons (tE K fe) tNil)) D O H:=by
 obtain⟨ad,U,st,r,st',E,S,e,p⟩:=ZO h;unfold UE at e;split at e
 .rename_i a q
  split at e
  .rename_i d f o
   split at e
   .rename_i m n
    cases e;obtain⟨v,y,x⟩:=E.at_ i _ q;obtain⟨l,rfl,g⟩:=x.ofLst;obtain⟨b,ds,u⟩:=Vv S g;obtain⟨xs,_,sq⟩:=S.list g u;refine⟨_,y,.inl ⟨rfl,xs,sq⟩,ad,U,st,d,f,E,S,o,λw j C c B z=>?_⟩
    obtain⟨ys,t,s,k,A⟩:=Qj B (g.mono c) z n;exact⟨l,ys,w,rfl,rfl,t,s,p _ j _ (c.trans k) A (E.mono (c.trans k))⟩
   .exact Zc e
  .exact Zc e
 .exact Zc e
theorem Zap{q:Ev}(D:Ends)(O:L2.St)(H:Hp)(h:tS K (JQ q fe) D O H):tDrop (tBM K "list" rAppend (tE K q) (tCons (tE K fe) tNil)) D O H:=by
 obtain⟨ad,U,st,r,st',E,S,e,p⟩:=ZO h;unfold JQ at e;split at e
 .rename_i a c x
  split at e
  .rename_i d i u
   split at e
   .rename_i s t
    cases e;refine⟨ad,U,st,.lst a,c,E,S,x,λv m J g n C=>?_⟩
    obtain⟨l,rfl,j⟩:=C.ofLst;obtain⟨b,ds,A⟩:=Vv n j;obtain⟨xs,_,sq⟩:=n.list j A;refine⟨.inl ⟨rfl,xs,sq⟩,m,U,c,d,i,E.mono g,n,u,λw k I f G B=>?_⟩
    obtain⟨ys,z,y,o,F⟩:=Qj G (j.mono f) B t;exact⟨l,ys,w,rfl,rfl,z,y,p _ k _ ((g.trans f).trans o) F (E.mono ((g.trans f).trans o))⟩
   .exact Zc e
  .exact Zc e
 .exact Zc e
theorem Zci(D:Ends)(O:L2.St)(H:Hp)(h:tS K (Zaf i fe) D O H):tDrop (tBM K "list" rExtend (tVar i) (tCons (tE K fe) tNil)) D O H:=by
 obtain⟨ad,U,st,r,st',E,S,e,p⟩:=ZO h;unfold Zaf at e;split at e
 .rename_i a B
  split at e
  .rename_i b g A
   split at e
   .rename_i z d
    cases e;obtain⟨v,L,J⟩:=E.at_ i _ B;obtain⟨l,rfl,n⟩:=J.ofLst;obtain⟨bb,ds,G⟩:=Vv S n;obtain⟨xs,_,sq⟩:=S.list n G;refine⟨_,L,.inl ⟨rfl,xs,sq⟩,ad,U,st,.lst b,g,E,S,A,λw o P f q M=>?_⟩
    obtain⟨m,rfl,F⟩:=M.ofLst;unfold ZeE at d;split at d
    .rename_i N es y I
     split at d
     .rename_i C
      cases d;have c:=n.mono f;obtain⟨ys,x,k⟩:=q.listM c y;obtain⟨s,u,j⟩:=q.listM F I;have t:=Ext.write (ys:=ys++s) k (aU c.1);refine⟨l,m,ys,s,rfl,rfl,k,j,?_,p _ o _ (f.trans t) (q.write c y k (x.append u)) (E.mono (f.trans t))⟩;rw[x.length,u.length];exact aK C (by decide)
     .exact Zc d
    .exact Zc d
   .exact Zc e
  .exact Zc e
 .exact Zc e
theorem Zcq(D:Ends)(O:L2.St)(H:Hp)(h:tS K (U0 i fk fe) D O H):tAsg (tE K fe) (gSub (tVar i) (tE K fk) rSetL) D O H\/tS K (Wm (YZ i) fk fe) D O H:=by
 obtain⟨ad,U,st,r,st',E,S,e,p⟩:=ZO h;unfold U0 at e;split at e
 .rename_i d m A
  split at e
  .rename_i a t
   split at e
   .rename_i j g s
    split at e
    .rename_i q b
     cases e
     left
     obtain⟨v,J,I⟩:=E.at_ i _ t;obtain⟨l,rfl,G⟩:=I.ofLst;refine⟨ad,U,st,d,m,E,S,A,λw x Q o N M=>⟨_,J,x,U,m,.int j,g,E.mono o,N,s,λP f C n B L=>?_⟩⟩
     cases L.ofInt;unfold Wc at b;split at b
     .rename_i ds z
      split at b
      .rename_i k F
       cases b;have c:=G.mono (o.trans n);obtain⟨xs,r,u⟩:=B.listM c z;have y:Ext f C f (upd C l (.lst (xs.set k w))):=Ext.write u (aU c.1);refine⟨l,xs,j,k,rfl,rfl,u,?_,p _ f _ (o.trans (n.trans y)) (B.write c z u (r.set (M.mono n) k)) (E.mono (o.trans (n.trans y)))⟩;rw[r.length];exact F
      .exact Zc b
     .exact Zc b
    .exact Zc e
   .exact Zc e
  .rename_i a t
   split at e
   .rename_i ks g s
    split at e
    .rename_i q b
     cases e
     right
     refine ZS E S ?_ p;unfold Wm YZ;simp only[A,t,s,b]
    .exact Zc e
   .exact Zc e
  .exact Zc e
 .exact Zc e
theorem Zar(O:L2.St)(H:Hp)(Q:VK)(h:tE K ZdD O H Q):ZbB K O H Q:=by
 obtain⟨ad,U,st,d,st',E,S,e,p⟩:=h;cases e;intro q a b;exact p _ (ad++[q]) _ (S.extD a b) (S.pushD a b) (.dic (by rw[<-S.len];exact Zz) ⟨_,upd_same,rfl⟩)
def Left(K:fG7)(b:D->Env->Za->Ot (Fl×Za))(E:Ends)(xs:Li D)(O:L2.St)(H:Hp):Prop:=∃ ad U st r st',EnvOk K ad H O U/\StOk K ad H st/\Zp b xs U st=some (r,st')/\PostS K ad H r st' E
theorem Left.turn{b:Ex}{xs:Li D}{H:Hp}{v:V}(o:∀ ad H,Den K ad H v x)(h:Left K (λd U s=>b (Zh U i d) s) E (x :: xs) O H) :
  tS K b { E with nx:=Left K (λd U s=>b (Zh U i d) s) E xs,ct:=Left K (λd U s=>b (Zh U i d) s) E xs,bk:=E.nx } (O.set i (some v)) H:=by
 obtain⟨ad,U,st,r,st',En,S,e,p⟩:=h;unfold Zp at e;have g:=En.set i (o ad H);split at e
 .rename_i f a q
  exact ZS g S q λj c n k l m=>⟨c,f,a,r,st',m,l,e,p.later k⟩
 .rename_i f a q
  exact ZS g S q λj c n k l m=>⟨c,f,a,r,st',m,l,e,p.later k⟩
 .rename_i f a q
  cases e;exact ZS g S q λj c n k l m=>p j c n k l m
 .rename_i d a q
  cases e;exact ZS g S q p
 .exact Zc e
theorem Left.turnD{b:Ex}{xs:Li D}{U:Env}{r:Fl}{v:V}(En:EnvOk K ad H O U)(S:StOk K ad H st)(o:Den K ad H v x)(e:Zp (λd U s=>b (Zh U i d) s) (x :: xs) U st=some (r,st'))(p:PostS K ad H r st' E)(L:L2.St->Hp->Prop)(n:∀ c a h g f,Ext ad H a h->StOk K a h f->EnvOk K a h c g->Zp (λd U s=>b (Zh U i d) s) xs g f=some (r,st')->L c h) :
  tS K b { E with nx:=L,ct:=L,bk:=E.nx } (O.set i (some v)) H:=by
 unfold Zp at e;have j:=En.set i o;split at e
 .rename_i g f q
  exact ZS j S q λc a h k l m=>n c a h g f k l m e
 .rename_i g f q
  exact ZS j S q λc a h k l m=>n c a h g f k l m e
 .rename_i g f q
  cases e;exact ZS j S q λc a h k l m=>p c a h k l m
 .rename_i d f q
  cases e;exact ZS j S q p
 .exact Zc e
theorem Left.done{b:D->Env->Za->Ot (Fl×Za)}(h:Left K b E [] O H):E.nx O H:=by
 obtain⟨ad,U,st,r,st',En,S,e,p⟩:=h;cases e;exact p O ad H (Ext.refl _ _) S En
theorem U1(n k:Nat)(h:k < n):((List.range n).map λ(j:Nat)=>D.int (j:Int)).drop k=D.int (k:Int) :: ((List.range n).map λ(j:Nat)=>D.int (j:Int)).drop (k+1):=by
 rw[bP (by simpa using h)]
 simp
theorem Zay(E:Ends)(O:L2.St)(H:Hp)(h:tS K (Wo i true fi f) E O H):tFor (iRng1 (tCons (tE K fi) tNil)) (gName i) (tS K f) E O H:=by
 obtain⟨ad,U,st,r,st',En,S,e,p⟩:=ZO h;unfold Wo at e;split at e
 .rename_i x a l
  cases x with
  |int n=>
   have e:(match (if n < 2 ^ 62/\-(2 ^ 62)<=n then some ((List.range n.toNat).map λ(k:Nat)=>D.int (k:Int)) else none) with
    |some xs=>Zp (λd U s=>f (Zh U i d) s) xs U a
    |none=>none)=some (r,st'):=e
   by_cases b:n < 2 ^ 62/\-(2 ^ 62)<=n
   .rw[if_pos b]at e
    refine⟨ad,U,st,.int n,a,En,S,l,λv c t j q o=>⟨n,by rw[o.ofInt],b.2,b.1,?_⟩⟩
    refine for_range (λk g H'=>Left K (λd U s=>f (Zh U i d) s) E (((List.range n.toNat).map λ(k:Nat)=>D.int (k:Int)).drop k) g H') ⟨c,U,a,r,st',En.mono j,q,e,p.later j⟩ (λk g H' m L=>?_) λg H' L=>?_
    .rw[U1 _ _ m]at L
     have z:(0:Int)+(k:Int)=(k:Int):=Int.zero_add _;rw[z];exact L.turn λ_ _=>.int _
    .rw[eF (by simp)]at L
     exact L.done
   .rw[if_neg b]at e
    cases e
  |_=>simp[Wu]at e
 .exact Zc e
noncomputable def Its(a c:Int)(n:Nat):It:=⟨λi _=>i < n,λi H x H'=>H'=H/\x=.int (a+(i:Int) * c),λi _=>n<=i⟩
def ZdH(a:TA):TI:=λO H R=>a O H λvs b=>∃ (i j c:Int),(vs=[.int i,.int j]/\c=1\/vs=[.int i,.int j,.int c])/\Yg i j c=true/\R (Its i c (Z2 i j c)) b
theorem Zai{d c:Int}{g:TG}{j:TS}{D:Ends}{O:L2.St}{H:Hp}(Pv:Nat->L2.St->Hp->Prop)(q:Pv 0 O H)(o:∀ i O H,i < n->Pv i O H->g (.int (d+(i:Int) * c)) O H λa h=>j { D with nx:=Pv (i+1),ct:=Pv (i+1),bk:=D.nx } a h)(hd:∀ O H,Pv n O H->D.nx O H) :
  ∃ W:Nat->Nat->L2.St->Hp->Prop,(∃ m,W 0 m O H)/\∀ i m O H,W i m O H->
   ((Its d c n).stop i H/\D.nx O H)\/((Its d c n).go i H/\∃ N:L2.St->Hp->Prop,(∀ f H',N f H'->∃ k,k < m/\W (i+1) k f H')/\∀ x H',(Its d c n).yld i H x H'->g x O H' λa h=>j { D with nx:=N,ct:=N,bk:=D.nx } a h):=by
 refine⟨λi m O H=>m=n - i/\i<=n/\Pv i O H,⟨n,by simp,aV _,q⟩,?_⟩
 rintro i m O H ⟨rfl,r,p⟩
 by_cases b:i < n
 .refine .inr ⟨b,Pv (i+1),λf H' l=>⟨n - (i+1),by omega,rfl,b,l⟩,λx H' y=>?_⟩
  obtain⟨e,y⟩:=y;subst e y;exact o i O _ b p
 .have e:i=n:=by omega
  subst e;exact .inl ⟨aF _,hd O H p⟩
theorem Um(a b c:Int)(k:Nat)(h:k < Z2 a b c):((Ym a b c).map D.int).drop k=D.int (a+(k:Int) * c) :: ((Ym a b c).map D.int).drop (k+1):=by
 rw[bP (by simpa[Ym] using h)]
 simp[Ym]
theorem Zcu{i:Int}(h:Zgx d=some i):d=.int i:=by cases d<;>first | (cases h;done) | (cases h;rfl)
theorem V1:∀ {xs:Li D}{l:Li Int},ZaJ xs=some l->xs=l.map .int
 |[],_,h=>by cases h;rfl
 |x :: xs,l,h=>ZY (P:=λl=>x :: xs=l.map D.int) h λi r b a=>by rw[Zcu b,V1 a];rfl
theorem Vc{xs:Li Int}(h:Vb x=some xs):∃ a b c,(x=.tup [.int a,.int b]/\c=1\/x=.tup [.int a,.int b,.int c])/\Yg a b c=true/\xs=Ym a b c:=by
 cases x<;>first | (cases h;done)|skip
 obtain⟨l,e,d⟩:=cP.mp h;rw[V1 e];cases l with
 |nil=>exact Zc d
 |cons a l=>cases l with
  |nil=>exact Zc d
  |cons b l=>cases l with
   |nil=>exact Yq d λq d=>by cases d;exact⟨a,b,1,.inl ⟨rfl,rfl⟩,q,rfl⟩
   |cons c l=>cases l with
    |nil=>exact Yq d λq d=>by cases d;exact⟨a,b,c,.inr rfl,q,rfl⟩
    |cons _ _=>exact Zc d
theorem Zat(E:Ends)(O:L2.St)(H:Hp)(h:tS K (VQ i fi f) E O H):tFor (ZdH (tA K fi)) (gName i) (tS K f) E O H:=by
 obtain⟨ad,U,st,r,st',En,S,e,p⟩:=ZO h;unfold VQ at e;split at e
 .rename_i x l z
  split at e
  .rename_i xs B
   obtain⟨a,b,c,C,ok,rfl⟩:=Vc B;have t:∀ {j:Li Ad}{q:Hp},Ext ad H j q->StOk K j q l->∃ W:Nat->Nat->L2.St->Hp->Prop,(∃ m,W 0 m O q)/\∀ k m O H,W k m O H->
     ((Its a c (Z2 a b c)).stop k H/\E.nx O H)\/((Its a c (Z2 a b c)).go k H/\∃ N:L2.St->Hp->Prop,(∀ o H',N o H'->∃ A,A < m/\W (k+1) A o H')/\∀ x H',(Its a c (Z2 a b c)).yld k H x H'->gName i x O H' λv I=>tS K f { E with nx:=N,ct:=N,bk:=E.nx } v I):=λ{j q} n u=>
    Zai (λk o H'=>Left K (λd U s=>f (Zh U i d) s) E (((Ym a b c).map D.int).drop k) o H') ⟨j,U,l,r,st',En.mono n,u,e,p.later n⟩ (λk o H' F L=>by
     rw[Um _ _ _ _ F]at L;exact L.turn λ_ _=>.int _) λo H' L=>by
     rw[eF (by simp[Ym])]at L
     exact L.done
   rcases C with⟨rfl,rfl⟩|rfl
   .refine⟨ad,U,st,_,l,En,S,z,λvs j q n u g=>⟨a,b,1,.inl ⟨?_,rfl⟩,ok,t n u⟩⟩
    cases g with
    |cons y g=>
     cases g with
     |cons w g=>cases g;rw[y.ofInt,w.ofInt]
   .refine⟨ad,U,st,_,l,En,S,z,λvs j q n u g=>⟨a,b,c,.inr ?_,ok,t n u⟩⟩
    cases g with
    |cons y g=>
     cases g with
     |cons w g=>
      cases g with
      |cons G g=>cases g;rw[y.ofInt,w.ofInt,G.ofInt]
  .exact Zc e
 .exact Zc e
def Zdw(K:fG7)(b:D->Env->Za->Ot (Fl×Za))(E:Ends)(a:Ad)(vs:Li V)(xs:Li D)(k:Nat)(O:L2.St)(H:Hp):Prop:=
 ∃ ad U st r st',EnvOk K ad H O U/\StOk K ad H st/\(TupAt K H a vs/\Dens K ad H vs xs)/\Zp b (xs.drop k) U st=some (r,st')/\PostS K ad H r st' E
theorem Zaz(E:Ends)(O:L2.St)(H:Hp){U:Env}{g:Za}{r:Fl}{xs:Li D}(En:EnvOk K ad H O U)(S:StOk K ad H st)(T:fi U st=some (.tup xs,g))(e:Zp (λd U s=>f (Zh U i d) s) xs U g=some (r,st'))(p:PostS K ad H r st' E):tFor (iTup K (tE K fi)) (gName i) (tS K f) E O H:=by
 refine⟨ad,U,st,.tup xs,g,En,S,T,λv F H1 I S1 Y=>?_⟩
 obtain⟨a,vs,rfl,M,R⟩:=Y.ofTup;refine⟨a,rfl,⟨vs,(M).sq⟩,?_⟩;refine for_tup (xs:=vs) (λk u H'=>Zdw K (λd U s=>f (Zh U i d) s) E a vs xs k u H') ⟨F,U,g,r,st',En.mono I,S1,⟨M,R⟩,by rw[bW];exact e,p.later I⟩ (λk u H' _ L=>?_) (λk y u H' J L=>?_) λu H' L=>?_
 .obtain⟨_,_,_,_,_,_,_,⟨h,_⟩,_⟩:=L
  exact(h).sq
 .obtain⟨q,l,m,B,b,j,G,⟨N,c⟩,o,t⟩:=L
  have n:k < xs.length:=by rw[<-c.length];exact(bF.mp J).1
  have V:xs[k]?=some xs[k]:=lG7 n;obtain⟨w,P,X⟩:=c.get V;rw[J]at P;cases P
  rw[bP n]at o;exact Left.turnD j G X o t _ λQ C H3 x A z Z E3 W=>⟨C,x,A,B,b,E3,Z,⟨N.mono z,c.mono z⟩,W,t.later z⟩
 .obtain⟨q,l,m,B,b,j,G,⟨N,c⟩,o,t⟩:=L
  rw[c.length,List.drop_length]at o;exact Left.done ⟨q,l,m,B,b,j,G,o,t⟩
theorem VZ{G:TG}(E:Ends)(O:L2.St)(H:Hp){ad:Li Ad}{U:Env}{st i:Za}{r:Fl}{l:Nat}{xs:Li D}(En:EnvOk K ad H O U)(S:StOk K ad H st)(q1:fi U st=some (.lst l,i))(q2:i[l]?=some (bb,xs))(e:ZB B l xs.length 0 U i=some (r,st'))(p:PostS K ad H r st' E)(R:∀ (x:D) (v:V) (O:L2.St) (H:Hp) (ad:Li Ad) (U:Env) (st i:Za) (r1:Fl) (E':Ends),EnvOk K ad H O U->StOk K ad H st->Den K ad H v x->B x U st=some (r1,i)->PostS K ad H r1 i E'->G v O H λW H2=>tS K f E' W H2) :
  tFor (iList K (tE K fi)) G (tS K f) E O H:=by
 refine⟨ad,U,st,.lst l,i,En,S,q1,λv ad1 H1 x1 S1 d1=>?_⟩
 obtain⟨a,rfl,ha⟩:=d1.ofLst;obtain⟨vs,rv,sq⟩:=S1.list ha q2;refine⟨a,rfl,⟨vs,sq⟩,?_⟩;refine⟨λk m O' H'=>∃ b c g,(EnvOk K b H' O' c/\StOk K b H' g/\LA b H' l a)/\ZB B l m k c g=some (r,st')/\PostS K b H' r st' E,⟨xs.length,ad1,U,i,⟨En.mono x1,S1,ha⟩,e,p.later x1⟩,?_⟩
 rintro k m O' H' ⟨b,c,g,⟨s,C,t⟩,n,M⟩
 obtain⟨b2,ys,N⟩:=Vv C t;obtain⟨X,L,A⟩:=C.list t N;have stop:ys.length<=k->ZB B l m k c g=some (.nx c,g):=λF=>by
  cases m with
  |zero=>unfold ZB;simp only[N];rw[if_pos F]
  |succ m=>unfold ZB;simp only[N,eE F]
 by_cases F:ys.length<=k
 .refine .inl ⟨⟨X,A,by rw[L.length];exact F⟩,?_⟩
  rw[stop F]at n;cases n;exact M O' b H' (Ext.refl _ _) C s
 .have Z:k < ys.length:=by omega
  have hy:ys[k]?=some ys[k]:=lG7 Z;obtain⟨w,ew,T⟩:=L.get hy;cases m with
  |zero=>
   unfold ZB at n;simp only[N]at n;rw[if_neg F]at n;cases n
  |succ m=>
   unfold ZB at n;simp only[N,hy]at n;refine .inr ⟨⟨X,w,A,ew⟩,λJ I=>∃ u j h,(EnvOk K u I J j/\StOk K u I h/\LA u I l a)/\ZB B l m (k+1) j h=some (r,st')/\PostS K u I r st' E,λJ I h3=>⟨m,bN m,h3⟩,λx I Y=>?_⟩
   obtain⟨rfl,Y⟩:=Y;have ex:=Y X A;rw[ew]at ex;cases ex
   split at n
   .rename_i j h q
    exact R _ _ _ _ b c g _ _ _ s C T q λy o H4 z P Q=>⟨o,j,h,⟨Q,P,t.mono z⟩,n,M.later z⟩
   .rename_i j h q
    exact R _ _ _ _ b c g _ _ _ s C T q λy o H4 z P Q=>⟨o,j,h,⟨Q,P,t.mono z⟩,n,M.later z⟩
   .rename_i j h q
    cases n;exact R _ _ _ _ b c g _ _ _ s C T q λy o H4 z P Q=>M y o H4 z P Q
   .rename_i d h q
    cases n;exact R _ _ _ _ b c g _ _ _ s C T q M
   .exact Zc n
theorem Zaw(E:Ends)(O:L2.St)(H:Hp)(h:tS K (Wo i false fi f) E O H):tFor (iTup K (tE K fi)) (gName i) (tS K f) E O H\/tFor (iList K (tE K fi)) (gName i) (tS K f) E O H:=by
 obtain⟨ad,U,st,r,st',En,S,e,p⟩:=ZO h;unfold Wo at e;split at e
 .rename_i x a b
  cases x with
  |tup xs=>exact .inl (Zaz E O H En S b e p)
  |lst l=>
   have e:(match a[l]? with
    |some (_,xs)=>ZB (λd U s=>f (Zh U i d) s) l xs.length 0 U a
    |none=>none)=some (r,st'):=e
   split at e
   .rename_i bb xs c
    refine .inr (VZ E O H En S b c e p λx v O H ad U st a m n En S k j g=>?_)
    exact ZS (En.set i k) S j g
   .exact Zc e
  |_=>simp[Wu]at e
 .exact Zc e
theorem Jl{G:TG}(E:Ends)(O:L2.St)(H:Hp){ad:Li Ad}{U:Env}{st b:Za}{r:Fl}{xs:Li D}(En:EnvOk K ad H O U)(S:StOk K ad H st)(q1:fi U st=some (.tup xs,b))(e:Zp B xs U b=some (r,st'))(p:PostS K ad H r st' E)(N:∀ (x:D) (v:V) (O:L2.St) (H:Hp) (ad:Li Ad) (U:Env) (st b:Za) (Z:Fl) (E':Ends),EnvOk K ad H O U->StOk K ad H st->Den K ad H v x->B x U st=some (Z,b)->PostS K ad H Z b E'->G v O H λR H2=>tS K f E' R H2) :
  tFor (iTup K (tE K fi)) G (tS K f) E O H:=by
 refine⟨ad,U,st,.tup xs,b,En,S,q1,λv W H1 Y S1 d1=>?_⟩
 obtain⟨a,vs,rfl,ha,rv⟩:=d1.ofTup;refine⟨a,rfl,⟨vs,(ha).sq⟩,?_⟩;refine for_tup (xs:=vs) (λk Q H'=>Zdw K B E a vs xs k Q H') ⟨W,U,b,r,st',En.mono Y,S1,⟨ha,rv⟩,by rw[bW];exact e,p.later Y⟩ (λk Q H' _ L=>?_) (λk y Q H' hk L=>?_) λQ H' L=>?_
 .obtain⟨_,_,_,_,_,_,_,⟨h,_⟩,_⟩:=L
  exact(h).sq
 .obtain⟨l,g,i,M,c,m,C,⟨T,j⟩,o,A⟩:=L
  have F:k < xs.length:=by rw[<-j.length];exact(bF.mp hk).1
  have hx:xs[k]?=some xs[k]:=lG7 F;obtain⟨w,ew,P⟩:=j.get hx;rw[hk]at ew;cases ew
  rw[bP F]at o;unfold Zp at o;split at o
  .rename_i t n q
   exact N _ _ _ _ l g i _ _ _ m C P q λz s X u I J=>⟨s,t,n,M,c,J,I,⟨T.mono u,j.mono u⟩,o,A.later u⟩
  .rename_i t n q
   exact N _ _ _ _ l g i _ _ _ m C P q λz s X u I J=>⟨s,t,n,M,c,J,I,⟨T.mono u,j.mono u⟩,o,A.later u⟩
  .rename_i t n q
   cases o;exact N _ _ _ _ l g i _ _ _ m C P q λz s X u I J=>A z s X u I J
  .rename_i d n q
   cases o;exact N _ _ _ _ l g i _ _ _ m C P q A
  .exact Zc o
 .obtain⟨l,g,i,M,c,m,C,⟨T,j⟩,o,A⟩:=L
  rw[j.length,List.drop_length]at o;exact Left.done ⟨l,g,i,M,c,m,C,o,A⟩
theorem Zas(E:Ends)(O:L2.St)(H:Hp)(h:tS K (VP i j fi f) E O H):tFor (iTup K (tE K fi)) (gTup K 2 (gCons (gName i) (gCons (gName j) gNil))) (tS K f) E O H\/tFor (iList K (tE K fi)) (gTup K 2 (gCons (gName i) (gCons (gName j) gNil))) (tS K f) E O H:=by
 obtain⟨ad,U,st,r,st',En,S,e,p⟩:=ZO h;unfold VP at e;split at e
 .rename_i l d g
  split at e
  .rename_i bb xs t
   right
   refine VZ E O H En S g t e p λx v O H ad U st d s u En S n c k=>?_
   unfold Ui at c;split at c
   .rename_i y z
    obtain⟨a,vs,rfl,m,b⟩:=n.ofTup;cases b with
    |cons q b=>
     cases b with
     |cons o b=>
      cases b;exact⟨a,_,rfl,(m).sq,rfl,_,_,rfl,_,_,rfl,rfl,ZS ((En.set i q).set j o) S c k⟩
   .exact Zc c
  .exact Zc e
 .rename_i xs d g
  left
  refine Jl E O H En S g e p λx v O H ad U st d s u En S n c k=>?_
  unfold Ui at c;split at c
  .rename_i y z
   obtain⟨a,vs,rfl,m,b⟩:=n.ofTup;cases b with
   |cons q b=>
    cases b with
    |cons o b=>
     cases b;exact⟨a,_,rfl,(m).sq,rfl,_,_,rfl,_,_,rfl,rfl,ZS ((En.set i q).set j o) S c k⟩
  .exact Zc c
 .exact Zc e
theorem Jn(E:Ends)(O:L2.St)(H:Hp)(h:tS K (ZW fe f m) E O H):tWhile (tT K fe) (tS K f) E O H:=by
 obtain⟨ad,U,st,r,st',En,S,e,p⟩:=ZO h;refine⟨λm O H=>∃ ad U st,(EnvOk K ad H O U/\StOk K ad H st)/\ZW fe f m U st=some (r,st')/\PostS K ad H r st' E,⟨m,ad,U,st,⟨En,S⟩,e,p⟩,?_⟩
 rintro m O H ⟨ad,U,st,⟨En,S⟩,e,p⟩
 cases m with
 |zero=>exact Zc e
 |succ m=>
  have e:Yp fe (YA f (ZW fe f m)) (λU st=>some (.nx U,st)) U st=some (r,st'):=e
  unfold Yp at e;split at e
  .rename_i i q
   refine⟨ad,U,st,true,i,En,S,q,λn u a k=>?_⟩
   dsimp only;rw[if_pos rfl];refine⟨λO H=>∃ ad U st,(EnvOk K ad H O U/\StOk K ad H st)/\ZW fe f m U st=some (r,st')/\PostS K ad H r st' E,λw H' h=>⟨m,bN m,h⟩,?_⟩
   have e:YA f (ZW fe f m) U i=some (r,st'):=e;unfold YA at e;split at e
   .rename_i d b j
    exact ZS (En.mono a) k j λg c t l o s=>⟨c,d,b,⟨s,o⟩,e,p.later (a.trans l)⟩
   .rename_i d b j
    exact ZS (En.mono a) k j λg c t l o s=>⟨c,d,b,⟨s,o⟩,e,p.later (a.trans l)⟩
   .rename_i d b j
    cases e;exact ZS (En.mono a) k j λg c t l o s=>p g c t (a.trans l) o s
   .rename_i v b j
    cases e;exact ZS (En.mono a) k j (Post.later p a)
   .exact Zc e
  .rename_i i q
   cases e;refine⟨ad,U,st,false,_,En,S,q,λn u a k=>?_⟩
   dsimp only;rw[if_neg bF7];exact p O n u a k (En.mono a)
  .exact Zc e
noncomputable def Itz(K:fG7)(a b:Ad):It:=
 ⟨λi H=>∃ xs ys x y,SqL K H a xs/\SqL K H b ys/\xs[i]?=some x/\ys[i]?=some y,
  λi H v H'=>∃ p x y,v=.ref p/\H p=none/\H'=upd H p (.tup [x,y])/\(∀ xs,SqL K H a xs->xs[i]?=some x)/\∀ ys,SqL K H b ys->ys[i]?=some y,
  λi H=>∃ xs ys,SqL K H a xs/\SqL K H b ys/\min xs.length ys.length<=i⟩
def Zgv(K:fG7)(d:TA):TI:=λO H R=>d O H λvs c=>∃ a b,vs=[.ref a,.ref b]/\(∃ xs,SqL K c a xs)/\(∃ ys,SqL K c b ys)/\R (Itz K a b) c
theorem Za0{ok:Za->Prop}{B:D->D->Env->Za->Ot (Fl×Za)}{l:Li (D×D)}{z:Fl×Za}(e:ZM ok B l U st=some z):ok st:=by
 cases l with
 |nil=>
  unfold ZM at e;by_cases h:ok st
  .exact h
  .rw[if_neg h]at e;cases e
 |cons _ _=>
  unfold ZM at e;by_cases h:ok st
  .exact h
  .rw[if_neg h]at e;cases e
inductive LK(K:fG7)(ok:Za->Prop)(B:D->D->Env->Za->Option (Fl×Za))(qs:List (D×D))(Good:List Addr->Hp->Prop)(r:Fl)(st':Za)(E:Ends)(k m:Nat)(O:L2.St)(H:Hp):Prop
 |mk {ad:List Addr}{U:Env}{st:Za} (hk:k+m=qs.length) (En:EnvOk K ad H O U) (S:StOk K ad H st) (g:Good ad H) (e:ZM ok B (qs.drop k) U st=some (r,st')) (p:PostS K ad H r st' E):LK K ok B qs Good r st' E k m O H
def Zf9(K:fG7)(f:Ex)(i j:Nat)(J:It)(E:Ends)(O:L2.St)(g:Hp):Prop:=∃ W:Nat->Nat->L2.St->Hp->Prop,(∃ m,W 0 m O g)/\∀ a m O H,W a m O H->(J.stop a H/\E.nx O H)\/(J.go a H/\∃ N:L2.St->Hp->Prop,(∀ d H',N d H'->∃ c,c < m/\W (a+1) c d H')/\∀ x H',J.yld a H x H'->gTup K 2 (gCons (gName i) (gCons (gName j) gNil)) x O H' λb e=>tS K f { E with nx:=N,ct:=N,bk:=E.nx } b e)
theorem Xq{ok:Za->Prop}{c:Li (D×D)}{a:Li Ad->Hp->Prop}{r:Fl}{J:It}(gm:∀ ad H ad' H',Ext ad H ad' H'->a ad H->a ad' H')(stop:∀ ad H st,a ad H->StOk K ad H st->ok st->J.stop c.length H)(go:∀ k ad H st q,a ad H->StOk K ad H st->ok st->c[k]?=some q->∃ w v,J.go k H/\Den K ad H w q.1/\Den K ad H v q.2/\∀ x H',J.yld k H x H'->∃ pt,x=.ref pt/\H pt=none/\H'=upd H pt (.tup [w,v]))(k m:Nat)(O:L2.St)(H:Hp)(h:LK K ok (λx y U s=>f (Zh (Zh U i x) j y) s) c a r st' E k m O H) :
  (J.stop k H/\E.nx O H)\/(J.go k H/\∃ N:L2.St->Hp->Prop,(∀ W H',N W H'->∃ R,R < m/\LK K ok (λx y U s=>f (Zh (Zh U i x) j y) s) c a r st' E (k+1) R W H')/\∀ x H',J.yld k H x H'->gTup K 2 (gCons (gName i) (gCons (gName j) gNil)) x O H' λt P=>tS K f { E with nx:=N,ct:=N,bk:=E.nx } t P):=by
 cases h with
 |@mk ad U st L En S g e p=>
  have n:=Za0 e;by_cases V:c.length<=k
  .have l:k=c.length:=by omega
   subst l;rw[List.drop_length]at e;unfold ZM at e;rw[if_pos n]at e;cases e;exact .inl ⟨stop _ _ _ g S n,p O _ H (Ext.refl _ _) S En⟩
  .have l:k < c.length:=Nat.lt_of_not_le V
   obtain⟨w,v,C,G,F,T⟩:=go k _ _ _ c[k] g S n (lG7 l);rw[bP l]at e;unfold ZM at e;rw[if_pos n]at e;generalize c[k]=q at e G F;refine .inr ⟨C,LK K ok (λx y U s=>f (Zh (Zh U i x) j y) s) c a r st' E (k+1) (m - 1),λY X h3=>⟨m - 1,by omega,h3⟩,λx X hx=>?_⟩
   obtain⟨pt,rfl,B,rfl⟩:=T x X hx;have u:Ext ad H ad (upd H pt (.tup [w,v])):=Ext.laid B;have o:∀ {rr:Fl}{s3:Za}{E':Ends},f (Zh (Zh U i q.1) j q.2) st=some (rr,s3)->PostS K ad (upd H pt (.tup [w,v])) rr s3 E'->gTup K 2 (gCons (gName i) (gCons (gName j) gNil)) (.ref pt) O (upd H pt (.tup [w,v])) λt P=>tS K f E' t P:=λq Z=>
    ⟨pt,_,rfl,SqT.of upd_same,rfl,_,_,rfl,_,_,rfl,rfl,ZS (((En.mono u).set i (G.mono u)).set j (F.mono u)) (S.laid B) q Z⟩
   have nxt:∀ {ρ3:Env}{st3:Za},ZM ok (λx y U s=>f (Zh (Zh U i x) j y) s) (c.drop (k+1)) ρ3 st3=some (r,st')->∀ (d:L2.St) (b:Li Ad) (A:Hp),Ext ad (upd H pt (.tup [w,v])) b A->StOk K b A st3->EnvOk K b A d ρ3->LK K ok (λx y U s=>f (Zh (Zh U i x) j y) s) c a r st' E (k+1) (m - 1) d A:=λe3 d b A I M Q=>
    .mk (by omega) Q M (gm _ _ _ _ (u.trans I) g) e3 (p.later (u.trans I))
   clear T go stop L V l C;split at e
   .rename_i z
    exact o z (nxt e)
   .rename_i z
    exact o z (nxt e)
   .rename_i z
    cases e;exact o z λd b A I M Q=>p d b A (u.trans I) M Q
   .rename_i z
    cases e;exact o z (p.later u)
   .exact Zc e
theorem Zax(E:Ends)(O:L2.St)(H:Hp)(h:tS K (Zah i j fi f) E O H):tFor (Zgv K (tA K fi)) (gTup K 2 (gCons (gName i) (gCons (gName j) gNil))) (tS K f) E O H:=by
 obtain⟨ad,U,st,r,st',En,S,e,p⟩:=ZO h;unfold Zah at e;split at e
 .rename_i la w m q1
  split at e
  .rename_i v u I G
   refine⟨ad,U,st,_,m,En,S,q1,λvs y Z Q P n=>?_⟩
   obtain⟨C,B,rfl,N,M⟩:∃ C B,vs=[C,B]/\Den K y Z C (.lst la)/\Den K y Z B (.lst w):=by
    cases n with
    |cons L n=>
     cases n with
     |cons J n=>cases n;exact⟨_,_,rfl,L,J⟩
   obtain⟨a,rfl,W⟩:=N.ofLst;obtain⟨b,rfl,V⟩:=M.ofLst;obtain⟨t,A,d⟩:=P.list W (show m[la]?=some (v.1,v.2) from I);obtain⟨s,l,c⟩:=P.list V (show m[w]?=some (u.1,u.2) from G);refine⟨a,b,rfl,⟨t,d⟩,⟨s,c⟩,_,⟨_,.mk (Good:=λad H=>LA ad H la a/\LA ad H w b) (bH _) (En.mono Q) P ⟨W,V⟩ e (p.later Q)⟩,Xq (λ_ _ _ _ x g=>⟨g.1.mono x,g.2.mono x⟩) (λad H st g S o=>?_) λk ad H st q g S o hq=>?_⟩
   .obtain⟨t,A,d⟩:=S.list g.1 (show st[la]?=some (v.1,v.2) from o.1)
    obtain⟨s,l,c⟩:=S.list g.2 (show st[w]?=some (u.1,u.2) from o.2);exact⟨t,s,d,c,by rw[A.length,l.length];exact cT (List.length_zip ..).symm⟩
   .obtain⟨t,A,d⟩:=S.list g.1 (show st[la]?=some (v.1,v.2) from o.1)
    obtain⟨s,l,c⟩:=S.list g.2 (show st[w]?=some (u.1,u.2) from o.2);obtain⟨L,J⟩:=List.getElem?_zip_eq_some.mp hq;obtain⟨T,Y,n⟩:=A.get L;obtain⟨R,X,d2⟩:=l.get J;exact⟨T,R,⟨t,s,T,R,d,c,Y,X⟩,n,d2,λx H' ⟨pt,y1,y2,z1,z2,z3,F,D⟩=>⟨pt,z1,z2,by have z:=F t d;rw[Y]at z;cases z;have z:=D s c;rw[X]at z;cases z;exact z3⟩⟩
  .exact Zc e
 .exact Zc e
end
variable [ClsTab]
mutual
theorem Qm:∀ {x y:D},Zr x y=true->x=y
 |.non,y,h=>by cases y<;>simp[Zr]at h ⊢
 |.bl a,y,h=>by cases y<;>simp[Zr]at h ⊢;exact h
 |.int a,y,h=>by cases y<;>simp[Zr]at h ⊢;exact h
 |.str a,y,h=>by cases y<;>simp[Zr]at h ⊢;exact h
 |.tup a,y,h=>by
  cases y with
  |tup b=>rw[Vz (x:=a) (y:=b) (by simpa[Zr] using h)]
  |_=>simp[Zr]at h
 |.lst a,y,h=>by cases y<;>simp[Zr]at h
 |.dct a b,y,h=>by cases y<;>simp[Zr]at h
 |.obj a,y,h=>by cases y<;>simp[Zr]at h
 |.kt a,y,h=>by cases y<;>simp[Zr]at h
 |.dic a,y,h=>by cases y<;>simp[Zr]at h
theorem Vz:∀ {x y:Li D},Zy x y=true->x=y
 |[],y,h=>by cases y<;>simp[Zy]at h ⊢
 |a :: x,y,h=>by
  cases y with
  |nil=>simp[Zy]at h
  |cons b y=>
   have h:(Zr a b&&Zy x y)=true:=h;rw[bA7]at h;rw[Qm h.1,Vz h.2]
end
mutual
theorem Y8:∀ {n:Nat}{x:D},okD n x=true->Zr x x=true
 |_,.non,_=>rfl
 |_,.bl a,_=>by simp[Zr]
 |_,.int a,_=>by simp[Zr]
 |_,.str a,_=>by simp[Zr]
 |0,.tup a,h=>by simp[okD]at h
 |n+1,.tup a,h=>Wg (n:=n) (x:=a) h
 |_,.lst a,h=>by simp[okD]at h
 |_,.dct a b,h=>by simp[okD]at h
 |_,.obj a,h=>by simp[okD]at h
 |_,.kt a,h=>by simp[okD]at h
 |_,.dic a,h=>by simp[okD]at h
theorem Wg:∀ {n:Nat}{x:Li D},ZZ n x=true->Zy x x=true
 |_,[],_=>rfl
 |n,a :: x,h=>by
  have h:(okD n a&&ZZ n x)=true:=h;rw[bA7]at h;show(Zr a a&&Zy x x)=true;rw[Y8 h.1,Wg h.2];rfl
end
theorem Y4:∀ {n:Nat}{xs:Li D}{i:Nat}{d:D},ZZ n xs=true->xs[i]?=some d->okD n d=true
 |_,[],_,_,_,e=>by simp at e
 |n,x :: xs,i,d,h,e=>by
  have h:(okD n x&&ZZ n xs)=true:=h;rw[bA7]at h;cases i with
  |zero=>simp at e;subst e;exact h.1
  |succ i=>exact Y4 (i:=i) h.2 (by simpa using e)
theorem YJ:∀ {xs ys:Li D},Zy xs ys=((List.range (min xs.length ys.length)).all (λi=>Zr ((xs[i]?).getD .non) ((ys[i]?).getD .non))&&xs.length==ys.length)
 |[],[]=>rfl
 |[],_ :: _=>by simp[Zy]
 |_ :: _,[]=>by simp[Zy]
 |x :: xs,y :: ys=>by
  have a:=@YJ xs ys;show(Zr x y&&Zy xs ys)=_;rw[a];have e:min (x :: xs).length (y :: ys).length=min xs.length ys.length+1:=by simp only[aP];omega
  rw[e,List.range_succ_eq_map,aY,cX];simp only[aP];have z:(xs.length+1==ys.length+1)=(xs.length==ys.length):=by
   rw[bK];simp
  rw[z,Bool.and_assoc];rfl
variable{pQ:Li (Ad×Obj)}{s:sH7}{A:Around}
def Zf8(X:Cx)(ad:Li Ad)(H:Hp)(v:V)(x:D):Prop:=∀ n m y,okD n x=true->okD m y=true->Den X.K ad H v y->x=y
theorem XX{n:Nat}{P:Prop}(h:okD n x=true)(a:∀ n,okD n x=false):P:=by rw[a]at h;cases h
theorem Zbc(i n:Nat):okD n (.lst i)=false:=by cases n<;>rfl
theorem Zba(i n:Nat):okD n (.dic i)=false:=by cases n<;>rfl
theorem Zbd(i n:Nat):okD n (.obj i)=false:=by cases n<;>rfl
theorem ZdR(ks:Li Str)(n:Nat):okD n (.kt ks)=false:=by cases n<;>rfl
theorem Zbe{xs:Li D}(h:okD n (.tup xs)=true):∃ m,ZZ m xs=true:=by
 cases n with
 |zero=>cases h
 |succ n=>exact⟨n,h⟩
theorem Den.injP(J:∀ (a:Ad) (xs ys:Li V),TupAt X.K H a xs->TupAt X.K H a ys->xs=ys){v:V}(h:Den X.K ad H v x):Zf8 X ad H v x:=
 Den.rec (motive_1:=λv x _=>Zf8 X ad H v x) (motive_2:=λvs xs _=>∀ n m ys,ZZ n xs=true->ZZ m ys=true->Dens X.K ad H vs ys->xs=ys)
  (λ_ _ _ _ _ h=>by cases h;rfl) (λ_ _ _ _ _ _ h=>by cases h;rfl) (λ_ _ _ _ _ _ h=>by cases h;rfl) (λ_ _ _ _ _ _ h=>by cases h;rfl)
  (λe _ i n m y b c h=>by
   obtain⟨f,b⟩:=Zbe b;cases h with
   |tup l d=>
    cases J _ _ _ e l
    obtain⟨g,c⟩:=Zbe c;rw[i f g _ b c d]
   |lst _=>exact XX c (Zbc _)
   |dic _ _=>exact XX c (Zba _)
   |obj _ _=>exact XX c (Zbd _)
   |kt _ _ _ _ _ _=>exact XX c (ZdR _))
  (λ_ _ _ _ b _ _=>XX b (Zbc _)) (λ_ _ _ _ _ b _ _=>XX b (Zba _)) (λ_ _ _ _ _ b _ _=>XX b (Zbd _)) (λ_ _ _ _ _ _ _ _ _ b _ _=>XX b (ZdR _))
  (λ_ _ _ _ _ h=>by cases h;rfl)
  (λ_ _ k j n m ys b c h=>by
   cases h with
   |cons o d=>
    have b:=cQ.mp b;have c:=cQ.mp c;rw[k n m _ b.1 c.1 o,j n m _ b.2 c.2 d]) h
theorem Den.inj(J:∀ (a:Ad) (xs ys:Li V),TupAt X.K H a xs->TupAt X.K H a ys->xs=ys){v:V}{y:D}(c:okD n x=true)(b:okD m y=true)(h:Den X.K ad H v x)(d:Den X.K ad H v y):x=y:=h.injP J n m y c b d
theorem Dens.inj(J:∀ (a:Ad) (xs ys:Li V),TupAt X.K H a xs->TupAt X.K H a ys->xs=ys){xs ys:Li D}(c:ZZ n xs=true)(b:ZZ m ys=true)(h:Dens X.K ad H vs xs)(d:Dens X.K ad H vs ys):xs=ys:=by
 induction vs generalizing xs ys with
 |nil=>cases h;cases d;rfl
 |cons v vs f=>
  cases h with
  |cons a r=>cases d with
   |cons g e=>
    have c:=cQ.mp c;have b:=cQ.mp b;rw[a.inj J c.1 b.1 g,f c.2 b.2 r e]
open PySem.SeqAt in
theorem Zad(I:Inv X pQ O H s):∀ (n:Nat) (x y:D) (A:Around) (w v:V) (C B:vL),okD n x=true->okD n y=true->A.units+n < cLine->Den X.K ad H w x->Den X.K ad H v y->RelV w C->RelV v B->EqAt A s C B (Zr x y):=by
 intro n
 induction n with
 |zero=>
  intro x y A w v C B o g hu J k h d;cases J with
  |non=>
   cases h;cases k with
   |non=>cases d;exact EqAt.same _
   |int j=>obtain⟨c,rfl⟩:=d;exact EqAt.none_int j c
   |str j=>obtain⟨c,rfl⟩:=d;exact EqAt.none_str j c
   |_=>simp[okD]at g
  |int i=>
   obtain⟨t,rfl⟩:=h;cases k with
   |non=>cases d;exact EqAt.int_none i t
   |int j=>obtain⟨c,rfl⟩:=d;exact(show Zr (.int i) (.int j)=(i==j) from by rw[bK];simp[Zr]) ▸ EqAt.int_int i t j c
   |str j=>obtain⟨c,rfl⟩:=d;exact EqAt.int_str i t j c
   |_=>simp[okD]at g
  |str i=>
   obtain⟨t,rfl⟩:=h;cases k with
   |non=>cases d;exact EqAt.str_none i t
   |int j=>obtain⟨c,rfl⟩:=d;exact EqAt.str_int i t j c
   |str j=>obtain⟨c,rfl⟩:=d;exact(show Zr (.str i) (.str j)=(i==j) from by rw[bK];simp[Zr]) ▸ EqAt.str_str i t j c
   |_=>simp[okD]at g
  |_=>simp[okD]at o
 |succ n ih=>
  intro x y A w v C B o g hu J k h d;cases J with
  |non=>
   cases h;cases k with
   |non=>cases d;exact EqAt.same _
   |int j=>obtain⟨c,rfl⟩:=d;exact EqAt.none_int j c
   |str j=>obtain⟨c,rfl⟩:=d;exact EqAt.none_str j c
   |tup e r=>
    cases d;obtain⟨its,_,p,_⟩:=I.tuple ((e).sq);exact EqAt.none_tuple p (by omega)
   |_=>simp[okD]at g
  |int i=>
   obtain⟨t,rfl⟩:=h;cases k with
   |non=>cases d;exact EqAt.int_none i t
   |int j=>obtain⟨c,rfl⟩:=d;exact(show Zr (.int i) (.int j)=(i==j) from by rw[bK];simp[Zr]) ▸ EqAt.int_int i t j c
   |str j=>obtain⟨c,rfl⟩:=d;exact EqAt.int_str i t j c
   |tup e r=>
    cases d;obtain⟨its,_,p,_⟩:=I.tuple ((e).sq);exact EqAt.int_tuple i t p (by omega)
   |_=>simp[okD]at g
  |str i=>
   obtain⟨t,rfl⟩:=h;cases k with
   |non=>cases d;exact EqAt.str_none i t
   |int j=>obtain⟨c,rfl⟩:=d;exact EqAt.str_int i t j c
   |str j=>obtain⟨c,rfl⟩:=d;exact(show Zr (.str i) (.str j)=(i==j) from by rw[bK];simp[Zr]) ▸ EqAt.str_str i t j c
   |tup e r=>
    cases d;obtain⟨its,_,p,_⟩:=I.tuple ((e).sq);exact EqAt.str_tuple i t p (by omega)
   |_=>simp[okD]at g
  |@tup a xs ds e r=>
   cases h;obtain⟨its,F,p,_⟩:=I.tuple ((e).sq);cases k with
   |non=>cases d;exact EqAt.tuple_none p (by omega)
   |int j=>obtain⟨c,rfl⟩:=d;exact EqAt.tuple_int j c p (by omega)
   |str j=>obtain⟨c,rfl⟩:=d;exact EqAt.tuple_str j c p (by omega)
   |@tup b ys es Q E=>
    cases d;by_cases u:a=b
    .subst u
     have z:=Den.inj (λ_ _ _ e G=>I.tuple_inj e.sq G.sq) (n:=n+1) (m:=n+1) o g (Den.tup e r) (Den.tup Q E)
     cases z;rw[Y8 o];exact EqAt.same _
    .obtain⟨f,l,p',_⟩:=I.tuple ((Q).sq)
     refine EqAt.of_refs u ?_;have q:=RcAt.tuples (A:=A) (s:=s) (e:=λi=>Zr ((ds[i]?).getD .non) ((es[i]?).getD .non)) p p' (by omega) λj P N=>?_
     .have e1:its.toArray.size=ds.length:=by rw[aM,<-F.length,r.length]
      have G:f.toArray.size=es.length:=by rw[aM,<-l.length,E.length]
      rw[e1,G]at q;show RcAt A s (.ref a) (.ref b) (Zy ds es);rw[YJ];exact q
     .have l1:j < ds.length:=by rw[<-r.length,F.length];simpa using P
      have l2:j < es.length:=by rw[<-E.length,l.length];simpa using N
      have g1:ds[j]?=some ds[j]:=lG7 l1;have g2:es[j]?=some es[j]:=lG7 l2;obtain⟨U,q1,d1⟩:=r.get g1;obtain⟨T,Z,d2⟩:=E.get g2;obtain⟨M,S,Y⟩:=F.get q1;obtain⟨L,R,W⟩:=l.get Z;have f1:its.toArray[j]=M:=by
       have:its[j]?=some (its[j]'(by simpa using P)):=lG7 _
       rw[S]at this;simpa using(Option.some.inj this).symm
      have f2:f.toArray[j]=L:=by
       have:f[j]?=some (f[j]'(by simpa using N)):=lG7 _
       rw[R]at this;simpa using(Option.some.inj this).symm
      rw[f1,f2,g1,g2];exact ih ds[j] es[j] A.in1 U T M L (Y4 o g1) (Y4 g g2) (by show A.units+1+n < cLine;omega) d1 d2 Y W
   |_=>simp[okD]at g
  |_=>simp[okD]at o
open PySem.SeqAt in
theorem UP(I:Inv X pQ O H s){a b:Ad}{xs:Li V}{its c:Li vL}(z:ZZ n ds=true)(y:ZZ n es=true)(hu:A.units+n+1 < cLine)(r:Dens X.K ad H xs ds)(h:Dens X.K ad H ys es)(g:Vals xs its)(d:Vals ys c)(j:Nat)(k:j < its.toArray.size)(i:j < c.toArray.size):EqAt A.in1 s its.toArray[j] c.toArray[j] (Zr ((ds[j]?).getD .non) ((es[j]?).getD .non)):=by
 have x:j < ds.length:=by rw[<-r.length,g.length];simpa using k
 have w:j < es.length:=by rw[<-h.length,d.length];simpa using i
 have g1:ds[j]?=some ds[j]:=lG7 x;have g2:es[j]?=some es[j]:=lG7 w;obtain⟨p,v,E⟩:=r.get g1;obtain⟨o,u,D⟩:=h.get g2;obtain⟨f,m,t⟩:=g.get v;obtain⟨e,l,q⟩:=d.get u;have C:its.toArray[j]=f:=by
  have:its[j]?=some (its[j]'(by simpa using k)):=lG7 _
  rw[m]at this;simpa using(Option.some.inj this).symm
 have B:c.toArray[j]=e:=by
  have:c[j]?=some (c[j]'(by simpa using i)):=lG7 _
  rw[l]at this;simpa using(Option.some.inj this).symm
 rw[C,B,g1,g2];exact Zad I n ds[j] es[j] A.in1 p o f e (Y4 z g1) (Y4 y g2) (by show A.units+1+n < cLine;omega) E D t q
open PySem.SeqAt in
theorem ZcU(I:Inv X pQ O H s){a b:Ad}{xs:Li V}(t:ZZ n ds=true)(o:ZZ n es=true)(hu:A.units+n+1 < cLine)(e:TupAt X.K H a xs)(r:Dens X.K ad H xs ds)(w:TupAt X.K H b ys)(g:Dens X.K ad H ys es):RcAt A s (.ref a) (.ref b) (Zy ds es)/\RcNeAt A s (.ref a) (.ref b) (!Zy ds es):=by
 obtain⟨its,f,p,_⟩:=I.tuple (e.sq);obtain⟨d,c,m,_⟩:=I.tuple (w.sq);have v:its.toArray.size=ds.length:=by rw[aM,<-f.length,r.length]
 have u:d.toArray.size=es.length:=by rw[aM,<-c.length,g.length]
 have q:=RcAt.tuples (A:=A) (s:=s) (e:=λi=>Zr ((ds[i]?).getD .non) ((es[i]?).getD .non)) p m (by omega) λj k h=>UP (a:=a) (b:=b) I t o hu r g f c j k h
 have l:=RcNeAt.tuples (A:=A) (s:=s) (e:=λi=>Zr ((ds[i]?).getD .non) ((es[i]?).getD .non)) p m (by omega) λj k h=>UP (a:=a) (b:=b) I t o hu r g f c j k h
 rw[v,u]at q l;rw[YJ];exact⟨q,l⟩
variable [ClsTab]
section
variable{fo:Ev}
theorem VO(r:Ents K ad H kvs ds):kvs.length=ds.length:=by
 induction r with
 |nil=>rfl
 |cons _ _ a=>rw[aP,aP,a]
theorem Je{x:Str}{v:V}(hd:Den K ad H v d)(r:Ents K ad H kvs ds):Ents K ad H (putF x v kvs) (Yb x d ds):=by
 induction r with
 |nil=>exact .cons hd .nil
 |@cons k w c kvs ds h r a=>
  show Ents K ad H (if k=x then (k,v) :: kvs else (k,w) :: putF x v kvs) (if decide (k=x)=true then .tup [.str x,d] :: ds else .tup [.str k,c] :: Yb x d ds)
  by_cases q:k=x
  .rw[if_pos q,if_pos (aG q),q];exact .cons hd r
  .rw[if_neg q,if_neg (λz=>q (of_decide_eq_true z))];exact .cons h a
theorem Jf{x:Str}(r:Ents K ad H kvs ds)(e:YK ds x=some d):∃ v,kvs.lookup x=some v/\Den K ad H v d:=by
 induction r with
 |nil=>exact Zc e
 |@cons k w c kvs ds h r a=>
  by_cases q:k=x
  .subst q
   unfold YK at e;rw[List.find?_cons_of_pos (show isK k (.tup [.str k,c])=true from aG rfl)]at e;cases e;exact⟨w,by rw[bQ,beq_self_eq_true],h⟩
  .unfold YK at e
   rw[eG (show ¬isK x (.tup [.str k,c])=true from λz=>q (of_decide_eq_true z))]at e
   obtain⟨v,f,b⟩:=a e;exact⟨v,by rw[bQ,show(x==k)=false from cD.mpr λz=>q z.symm];exact f,b⟩
theorem ZaA{x:Str}(u:fldNames.contains x=true)(D:Ends)(O:L2.St)(H:Hp)(h:tS K (VS i x fe) D O H):sFld K (tVar i) (tE K fe) x D O H:=by
 obtain⟨ad,U,st,r,st',E,S,e,p⟩:=ZO h;unfold VS at e;split at e
 .rename_i d m C
  split at e
  .rename_i a F
   split at e
   .rename_i c es t
    split at e
    .rename_i M
     cases e;obtain⟨v,J,I⟩:=E.at_ i _ F;obtain⟨l,rfl,g,n⟩:=I.ofDic;refine⟨ad,U,st,d,m,E,S,C,λw b B f A L=>⟨_,J,?_⟩⟩
     obtain⟨j,y,kvs,rfl,r,o,_,oc,G⟩:=A.obj (f.pre _ _ g) ((f.kd _ _ g).mp n) t;have s:∀ fs,Ext b B b (upd B l (.ins (ClsTab.ca j) y fs)):=λfs=>Ext.writeM o rfl rfl (aU (f.pre _ _ g))
     refine⟨l,_,y,kvs,rfl,o,oc.cl,oc.na x u,by rw[VO r];omega,?_⟩
     exact p _ b _ (f.trans (s _)) (A.writeO (f.pre _ _ g) t o oc (Je L r) λk q=>by
      rw[lookup_putF,if_neg (λz=>by rw[z,u]at q;cases q)]
      exact G k q) (E.mono (f.trans (s _)))
    .exact Zc e
   .exact Zc e
  .exact Zc e
 .exact Zc e
theorem EntN.length(r:EntN K ad H xs ds):xs.length=ds.length:=by
 induction r with
 |nil=>rfl
 |cons _ _ _ _ a=>rw[aP,aP,a]
theorem EntN.keys{xs:Li (D×Ad×Ad)}(r:EntN K ad H xs ds):∀ x∈xs,Den K ad H (.ref x.2.1) x.1/\okN 8 x.1=true:=by
 induction r with
 |nil=>exact λx hx=>(nomatch hx)
 |cons h ok _ _ a=>
  intro x hx;rcases aH.mp hx with rfl|hx
  .exact⟨h,ok⟩
  .exact a x hx
theorem EntN.snoc{f e:Ad}(r:EntN K ad H xs ds)(h:Den K ad H (.ref f) k)(ok:okN 8 k=true)(v:Den K ad H (.ref e) d):EntN K ad H (xs++[(k,f,e)]) (ds++[.tup [k,d]]):=by
 induction r with
 |nil=>exact .cons h ok v .nil
 |cons a b c _ g=>exact .cons a b c g
theorem QJ:∀ {n:Nat}{d:D},okN n d=true->okD n d=true:=by
 intro n
 induction n using Nat.strongRecOn with
 |_ n b=>
  intro d h;cases okW h with
  |non=>cases n<;>rfl
  |int _ i=>cases n<;>rfl
  |str _ i=>cases n<;>rfl
  |@tup n ds ok=>
   show ZZ n ds=true;clear h
   induction ds with
   |nil=>cases n<;>rfl
   |cons d ds a=>
    rw[aY,bA7]at ok;rw[ZZ,b n (bN n) ok.1,a ok.2];rfl
theorem EntN.look{xs:Li (D×Ad×Ad)}(r:EntN K ad H xs ds)(ok:okN 8 k=true):(∃ z d,(z∈xs/\z.1=k)/\ZR ds k=some d/\Den K ad H (.ref z.2.2) d)\/((∀ x∈xs,x.1≠k)/\ZR ds k=none):=by
 induction r with
 |nil=>exact .inr ⟨λx hx=>(nomatch hx),rfl⟩
 |@cons f d j g xs ds h i v r l=>
  by_cases q:f=k
  .refine .inl ⟨(f,j,g),d,⟨lQ7,q⟩,?_,v⟩
   unfold ZR;rw[List.find?_cons_of_pos (show XO k (.tup [f,d])=true by rw[q];exact Y8 (QJ ok))]
   rfl
  .have e:ZR (.tup [f,d] :: ds) k=ZR ds k:=by
    unfold ZR;rw[eG (show ¬XO k (.tup [f,d])=true from λz=>q (Qm z))]
   rw[e];rcases l with⟨z,m,⟨a,b⟩,c⟩|⟨a,b⟩
   .exact .inl ⟨z,m,⟨lM7 _ a,b⟩,c⟩
   .refine .inr ⟨λx hx=>?_,b⟩
    rcases aH.mp hx with rfl|hx
    .exact q
    .exact a x hx
theorem EntN.any{xs:Li (D×Ad×Ad)}(r:EntN K ad H xs ds)(ok:okN 8 k=true)(e:ds.any (XO k)=false):∀ x∈xs,x.1≠k:=by
 induction r with
 |nil=>exact λx hx=>(nomatch hx)
 |@cons a d i g xs ds h c v r f=>
  rw[cJ,Bool.or_eq_false_iff]at e;intro x hx;rcases aH.mp hx with rfl|hx
  .intro q
   have b:Zr a k=false:=e.1;rw[show a=k from q,Y8 (QJ ok)]at b;cases b
  .exact f e.2 x hx
theorem W3{a:Nat}(h:dput a k d st=some st'):∃ xs,st[a]?=some (true,xs)/\(((Yh xs=false/\okN 8 k=true)/\Xp d=true)/\xs.length < Zn/\xs.any (XO k)=false)/\st'=st.set a (true,xs++[.tup [k,d]]):=by
 unfold dput at h;split at h
 .rename_i xs q
  split at h
  .rename_i c
   cases h;exact⟨xs,q,c,rfl⟩
  .exact Zc h
 .exact Zc h
theorem VY(D:Ends)(O:L2.St)(H:Hp)(h:tS K (Wm fo fk fe) D O H):tAsg (tE K fe) (gSub (tE K fo) (tE K fk) (ZdT K)) D O H:=by
 obtain⟨ad,U,st,r,st',E,S,e,p⟩:=ZO h;unfold Wm at e;split at e
 .rename_i d k V
  split at e
  .rename_i a j T
   split at e
   .rename_i ks s R
    split at e
    .rename_i P Q
     cases e;obtain⟨ds,G,⟨⟨⟨W,ok⟩,N⟩,X,hn⟩,rfl⟩:=W3 Q;refine⟨ad,U,st,d,k,E,S,V,λw C H1 o S1 A=>⟨C,U,k,.dic a,j,E.mono o,S1,T,λw2 B H2 m S2 d2=>⟨B,U,j,.tup ks,s,E.mono (o.trans m),S2,R,λw3 c M f L v=>?_⟩⟩⟩
     obtain⟨l,rfl,q,n⟩:=d2.ofDic;obtain⟨b,_,rfl,_,_⟩:=v.ofTup;obtain⟨g,rfl⟩:∃ g,w=.ref g:=by
      cases d with
      |tup es=>obtain⟨g,_,z,_,_⟩:=A.ofTup;exact⟨g,z⟩
      |lst i=>obtain⟨g,z,_⟩:=A.ofLst;exact⟨g,z⟩
      |_=>cases N
     obtain⟨xs,⟨r,I⟩,u,_⟩:=L.dict (f.pre _ _ q) ((f.kd _ _ q).mp n) G W;have F:∀ fs,Ext c M c (upd M l (.dN fs)):=λfs=>Ext.writeM u rfl rfl (aU (f.pre _ _ q))
     have J:=r.any ok hn;refine⟨l,b,g,xs,.tup ks,c,⟨rfl,rfl,rfl⟩,⟨u,I,v,ok,r.keys⟩,by rw[r.length];exact aT X (by decide),J,?_⟩
     refine p _ c _ (o.trans (m.trans (f.trans (F _)))) (L.writeD (f.pre _ _ q) G u (r.snoc v ok (A.mono (m.trans f))) ?_) (E.mono (o.trans (m.trans (f.trans (F _)))));rw[aX,cM];refine⟨I,bO.mpr ⟨(λh=>nomatch h),cW⟩,λx Z y Y e=>?_⟩
     rw[aO.mp (show y∈[Dp.D.tup ks] from Y)]at e;obtain⟨z,t,rfl⟩:=aR.mp Z;exact J z t e
    .exact Zc e
   .exact Zc e
  .exact Zc e
 .exact Zc e
end
end Dp
namespace Dp
open PySem PySem.Spec PyProof.Rows L2 Builtin Builtin.Str
variable [ClsTab]
section
variable{X:Cx}{tg:Expr}
end
end Dp
namespace Dp
open PySem PySem.Spec PyProof.Rows L2
variable [ClsTab]
variable{X:Cx}{pQ:Li (Ad×Obj)}{O:L2.St}{H:Hp}{Q:VK}
section
open Builtin
open AutoSeq1 (wpAny_loadPart')
theorem XQ:fillsNumberSlot (.type "tuple") "mul"=pure false:=
 PySem.fillsNumberSlot_seq (id := "tuple.__mul__") (r:=some (.builtin "tuple.__rmul__")) F.slot_tuple_mul.lookup (by decide +kernel) F.slot_tuple_rmul.lookup (by decide +kernel)
theorem Vn:seqRepeat? (.type "tuple")=pure (some (.builtin "tuple.__mul__")):=by
 unfold seqRepeat?
 rw[PySem.seqSlot_of (T := "tuple") (name := "__mul__") (id := "tuple.__mul__") F.slot_tuple_mul.lookup (by decide +kernel),PySem.seqSlot_of (T := "tuple") (name := "__rmul__") (id := "tuple.__rmul__") F.slot_tuple_rmul.lookup (by decide +kernel)]
 rfl
theorem U4(a:Int)(t:Tok)(l:Ad)(b:Array vL)(n:Nat)(e:Ot Ad)(sl:Array (Ot vL)):Meets (Builtin.«int.__rmul__» ⟨[.int a t,.ref l],[]⟩) (λ_ R s=>s.heap.get? l=some { cls:=.type "tuple",dict:=e,data:=.seq b n,slots:=sl }/\R (.ok (.ret Value.notImplemented)) s):=
 .of_wp λc w A R s h=>by obtain⟨j,g,d,f,i⟩:=s;obtain⟨k,h⟩:=h;wp_walk;exact⟨_,rfl,h⟩
theorem ZbD(l:Ad)(a:Array vL)(n:Nat)(e:Ot Ad)(sl:Array (Ot vL))(u:Tok) :
  Meets (Builtin.«tuple.__mul__» ⟨[.ref l,.int 1 u],[]⟩) (λ_ R s=>s.heap.get? l=some { cls:=.type "tuple",dict:=e,data:=.seq a n,slots:=sl }/\R (.ok (.ret (Value.ref l))) s):=
 .of_wp λb w A R s h=>by
  obtain⟨j,g,d,f,i⟩:=s;obtain⟨c,h⟩:=h;have k:=AutoSeq1.idx_int;wp_walk using wpAny_loadPart' c;exact⟨_,rfl,h⟩
theorem ZbC(l:Ad)(items:Array vL)(n:Nat)(f:Ot Ad)(sl:Array (Ot vL))(k:Int)(u:Tok)(e:¬items.isEmpty=true)(c:k<=0)(q:-1000<=k) :
  Meets (Builtin.«tuple.__mul__» ⟨[.ref l,.int k u],[]⟩) (λ_ R s=>s.heap.get? l=some { cls:=.type "tuple",dict:=f,data:=.seq items n,slots:=sl }/\R (.ok (.ret (Value.ref s.heap.objs.size))) { s with heap:=s.heap.push { cls:=.type "tuple",data:=.seq #[] } }):=
 .of_wp λb w A R s h=>by
  obtain⟨p,g,d,m,o⟩:=s;obtain⟨a,h⟩:=h;have r:=AutoSeq1.idx_int;have j:(decide (k < -(2 ^ 63))||decide (k>=2 ^ 63))=false:=by rw[aE (by omega),aE (by omega)];rfl
  have i:(items.isEmpty||k==1)=false:=by
   have:(k==1)=false:=by rw[cD];omega
   rw[this,dG];simpa using e
  have t:(decide (k<=0)||items.isEmpty)=true:=by rw[aG c];rfl
  wp_walk using wpAny_loadPart' a
  refine wpAny_ite_false (by rw[j];rfl) ?_
  wp_walk using wpAny_loadPart' a
  refine wpAny_ite_false (by rw[i];rfl) ?_
  wp_walk using wpAny_loadPart' a
  exact⟨_,rfl,h⟩
theorem ZbE(l:Ad)(items:Array vL)(n:Nat)(j:Ot Ad)(sl:Array (Ot vL))(k:Int)(u:Tok)(b:items.size=1)(B:2<=k)(y:k<=1000) :
  Meets (Builtin.«tuple.__mul__» ⟨[.ref l,.int k u],[]⟩) (λ_ R s=>s.heap.get? l=some { cls:=.type "tuple",dict:=j,data:=.seq items n,slots:=sl }/\R (.ok (.ret (Value.ref s.heap.objs.size))) { s with heap:=s.heap.push { cls:=.type "tuple",data:=.seq ((List.replicate k.toNat items).foldl (λe c=>e++c) #[]) } }):=
 .of_wp λf w A R s h=>by
  obtain⟨x,g,d,t,v⟩:=s;obtain⟨a,h⟩:=h;have C:=AutoSeq1.idx_int;have r:(decide (k < -(2 ^ 63))||decide (k>=2 ^ 63))=false:=by rw[aE (by omega),aE (by omega)];rfl
  have i:items.isEmpty=false:=by
   rw[Array.isEmpty_eq_false_iff];intro z;rw[z]at b;simp at b
  have q:(items.isEmpty||k==1)=false:=by
   have:(k==1)=false:=by rw[cD];omega
   rw[this,dG];exact i
  have p:(decide (k<=0)||items.isEmpty)=false:=by rw[aE (by omega),i];rfl
  have o:decide ((items.size:Int) * k > (2 ^ 63 - 1) / 8)=false:=by rw[b];exact aE (by omega)
  have m:Tuple.tupleTooMany ((items.size:Int) * k)=false:=by
   unfold Tuple.tupleTooMany;rw[b];exact aE (by have:(sizeLine:Int)>=1000:=(by decide);omega)
  have D:decide (((List.replicate k.toNat items).foldl (λe c=>e++c) #[]).size > sizeLine)=false:=by
   rw[AutoListH.size_joined];refine aE ?_;have:sizeLine>=1000:=by decide
   simp only[b,Array.size_empty];omega
  wp_walk using wpAny_loadPart' a
  refine wpAny_ite_false (by rw[r];rfl) ?_
  wp_walk using wpAny_loadPart' a
  refine wpAny_ite_false (by rw[q];rfl) ?_
  wp_walk using wpAny_loadPart' a
  refine wpAny_ite_false (by rw[p];rfl) ?_
  wp_walk using wpAny_loadPart' a
  refine wpAny_ite_false o ?_
  wp_walk using wpAny_loadPart' a
  refine wpAny_ite_false (by rw[m];rfl) ?_
  wp_walk using wpAny_loadPart' a
  exact⟨_,rfl,h⟩
theorem ZcW{s:sH7}{a:Ad}{v:V}{k:Int}{t:Tok}(I:L2.Inv X pQ O H s)(L:TupAt X.K H a [v])(N:k<=1000)(M:-1000<=k)(G:k=1->Q (.ref a) H)(E:∀ p,H p=none->Q (.ref p) (upd H p (.tup (List.replicate k.toNat v)))):wpAny (model X.prog X.w) X.A (binaryOp .Mult (.ref a) (.int k t)) (EP X pQ O Q) X.xe s:=by
 obtain⟨its,r,J,_⟩:=I.tuple (L.sq);obtain⟨u,rfl,C⟩:=r.one;obtain⟨⟨Y,g,W,sl⟩,d,m,n,l⟩:=id J;simp only at m l;subst m l;have f:∀ c:Li vL,Vals (List.replicate k.toNat v) c->EP X pQ O Q (.ref s.heap.objs.size) { s with heap:=s.heap.push { cls:=.type "tuple",data:=.seq c.toArray } }:=λc D=>
  ⟨.ref s.heap.objs.size,_,I.laid (t':=s.toks) (o:=.tup (List.replicate k.toNat v)) (λb S q=>aQ _ q) (aF _) ⟨by rw[cA];exact aK (show k.toNat<=1000 by omega) (by decide),c,D,IsTup.new _ _⟩,rfl,E _ (I.hok.fresh (aF _))⟩
 refine wpAny_binaryOp_repeat_ref (T := "tuple") (U := "int") (by decide) ⟨_,d,rfl⟩ (λB=>typeIs_int B k t) XQ F.fills_int_mul F.slot_int_rmul Vn F.slot_int_index.lookup
  (call_meets F.slot_int_rmul (typeIs_int s k t) F.entry_int_rmul (F.args_int_rmul_2 _ _) (U4 k t a _ n g sl) ⟨d,rfl,⟨_,d,rfl⟩,?_⟩)
 by_cases P:k=1
 .subst P
  exact call_meets F.slot_tuple_mul ⟨_,d,rfl⟩ F.entry_tuple_mul (F.args_tuple_mul_2 _ _) (ZbD a _ n g sl t) ⟨d,⟨.ref a,H,I,rfl,G rfl⟩⟩
 .by_cases R:k<=0
  .refine call_meets F.slot_tuple_mul ⟨_,d,rfl⟩ F.entry_tuple_mul (F.args_tuple_mul_2 _ _) (ZbC a _ n g sl k t (by simp) R M) ⟨d,?_⟩
   have z:k.toNat=0:=by omega
   exact f [] (by rw[z];exact .nil)
  .refine call_meets F.slot_tuple_mul ⟨_,d,rfl⟩ F.entry_tuple_mul (F.args_tuple_mul_2 _ _) (ZbE a _ n g sl k t (by simp) (by omega) N) ⟨d,?_⟩
   have e:List.foldl (λy x=>y++x) #[] (List.replicate k.toNat [u].toArray)=(List.replicate k.toNat u).toArray:=by
    have i:=foldl_rep [u] k.toNat [];rw[dR]at i;rw[show([]:Li vL).toArray=#[] from rfl]at i;rw[i]
    congr 1
    generalize k.toNat=j
    induction j with
    |zero=>rfl
    |succ j h=>rw[cB,cU,h,cB];rfl
   rw[e];refine f _ ?_;generalize k.toNat=j
   induction j with
   |zero=>exact .nil
   |succ j h=>exact .cons C h
end
theorem ZV:Zn<=sizeLine:=by decide
variable{ys vs:Li V}{op:Operator}{u:vL}{ds:Li D}{ad:Li Ad}{d:D}{st:Za}{lo hi:Ot Int}{prog:Program}{w:World}{A:Around}{E:vL->sH7->Prop}{items:Array vL}{k:Bool}
variable{X:Cx}
theorem US{i:Int}(h:Yi i=true):-(2 ^ 64) < i/\i < 2 ^ 64:=by
 unfold Yi at h;rw[bA7]at h;exact⟨of_decide_eq_true h.1,of_decide_eq_true h.2⟩
theorem Zb1{s:sH7}{a b:Ad}{xs:Li V}(I:Inv X pQ O H s)(o:TupAt X.K H a xs)(m:TupAt X.K H b ys)(z:xs.length+ys.length<=sizeLine)(u:xs=[]->Q (.ref b) H)(t:ys=[]->Q (.ref a) H)(r:∀ p,H p=none->Q (.ref p) (upd H p (.tup (xs++ys)))):wpAny (model X.prog X.w) X.A (binaryOp .Add (.ref a) (.ref b)) (EP X pQ O Q) X.xe s:=by
 by_cases h:xs=[]
 .obtain⟨its,q,x,_⟩:=I.tuple (o.sq)
  obtain⟨c,E,v,_⟩:=I.tuple (m.sq);have B:its=[]:=q.nil_iff.mpr h;subst B;obtain⟨⟨L,D,G,sl⟩,j,l,n,k⟩:=id x;obtain⟨⟨J,i,C,g⟩,d,f,y,e⟩:=id v;simp only at l k f e;subst l k f e;exact concat_meets ⟨_,j,rfl⟩ ⟨_,d,rfl⟩ noFill_tuple_add seq_tuple_add PySem.F.slot_tuple_add PySem.F.entry_tuple_add (PySem.F.args_tuple_add_2 _ _)
   (tuple_addW0 a b #[] c.toArray n y D i sl g rfl) ⟨j,d,⟨.ref b,H,I,rfl,u h⟩⟩
 .exact op_catT pQ s O H (.ref a) (.ref b) _ _ Q I rfl rfl ⟨a,b,xs,ys,rfl,rfl,(o).sq,(m).sq,h,z,t,λ_=>r⟩
theorem QZ{i j:Int}(hi:0<=i)(a:0<=j):Builtin.bitAnd i j=((i.toNat &&& j.toNat:Nat):Int):=by
 unfold Builtin.bitAnd;simp[hi,a]
theorem Q0{i j:Int}(hi:0<=i)(a:j < 0):Builtin.bitAnd i j=i - ((i.toNat &&& (-j - 1).toNat:Nat):Int):=by
 unfold Builtin.bitAnd;rw[aG hi,aE (by omega)]
 rfl
theorem JT{i j:Int}(hi:0<=i)(b:0<=j):Builtin.bitOr i j=((i.toNat ||| j.toNat:Nat):Int):=by
 unfold Builtin.bitOr;have n:∀ {k:Int},0<=k->decide (0<=Builtin.bitNot k)=false:=λ{k} h=>by unfold Builtin.bitNot;exact aE (by omega)
 have a:∀ k:Int,Builtin.bitNot (Builtin.bitNot k)=k:=λk=>by unfold Builtin.bitNot;omega
 have e:Builtin.bitAnd (Builtin.bitNot i) (Builtin.bitNot j)=Builtin.bitNot ((Builtin.bitNot (Builtin.bitNot i)).toNat ||| (Builtin.bitNot (Builtin.bitNot j)).toNat:Nat):=by
  unfold Builtin.bitAnd;rw[n hi,n b]
 rw[e,a,a,a]
theorem ZcP{i j k:Int}{s:sH7}{v:vL}(I:L2.Inv X pQ O H s)(c:RelV (.int i) v)(b:RelV (.int j) u)(e:ZbX op i j=some k)(p:Q (.int k) H) :
  wpAny (model X.prog X.w) X.A (binaryOp op v u) (EP X pQ O Q) X.xe s:=by
 unfold ZbX at e;split at e
 .cases e
  exact op_add pQ s O H _ _ v u Q I c b ⟨_,_,rfl,rfl,p⟩
 .cases e
  exact op_sub pQ s O H _ _ v u Q I c b ⟨_,_,rfl,rfl,p⟩
 .split at e
  .rename_i a
   cases e;refine op_mul pQ s O H _ _ v u Q I c b ⟨_,_,rfl,rfl,?_,p⟩;rw[bX]at a;exact a.elim (λz=>.inl (US z)) λz=>.inr (US z)
  .cases e
 .split at e
  .rename_i a
   cases e;exact op_fdiv pQ s O H _ _ v u Q I c b ⟨_,_,rfl,rfl,a,p⟩
  .split at e
   .rename_i a
    cases e;exact op_fdivN pQ s O H _ _ v u Q I c b ⟨_,_,rfl,rfl,⟨by omega,by omega⟩,p⟩
   .cases e
 .split at e
  .rename_i a
   cases e;exact op_mod pQ s O H _ _ v u Q I c b ⟨_,_,rfl,rfl,a,p⟩
  .split at e
   .rename_i a
    cases e;exact op_modN pQ s O H _ _ v u Q I c b ⟨_,_,rfl,rfl,(by omega),p⟩
   .cases e
 .split at e
  .rename_i a
   cases e;have:=US a.2.2;exact op_shl pQ s O H _ _ v u Q I c b ⟨_,_,rfl,rfl,⟨a.1,by omega,by omega⟩,p⟩
  .cases e
 .split at e
  .rename_i a
   cases e;refine op_and pQ s O H _ _ v u Q I c b ⟨_,_,rfl,rfl,?_⟩;dsimp only;rw[QZ a.1 a.2];exact p
  .split at e
   .rename_i a
    cases e;refine op_and pQ s O H _ _ v u Q I c b ⟨_,_,rfl,rfl,?_⟩;dsimp only;rw[Q0 a.1 a.2];exact p
   .cases e
 .split at e
  .rename_i a
   cases e;refine op_or pQ s O H _ _ v u Q I c b ⟨_,_,rfl,rfl,?_⟩;dsimp only;rw[JT a.1 a.2];exact p
  .cases e
 .cases e
theorem Q6{s:sH7}{a b:Ad}{xs:Li V}(I:L2.Inv X pQ O H s)(B:SqL X.K H a xs)(z:SqL X.K H b ys)(G:xs.length+ys.length<=sizeLine)(q:∀ p,H p=none->Q (.ref p) (upd H p (.lst (xs++ys)))):wpAny (model X.prog X.w) X.A (binaryOp .Add (.ref a) (.ref b)) (EP X pQ O Q) X.xe s:=by
 obtain⟨its,r,x,_⟩:=I.list B;obtain⟨c,k,v,_⟩:=I.list z;obtain⟨⟨cls,C,t,sl⟩,l,o,n,m⟩:=id x.isList;obtain⟨⟨u,i,j,h⟩,d,g,y,f⟩:=id v.isList;simp only at o m g f;subst o m g f;have e:its.toArray++c.toArray=(its++c).toArray:=by simp
 have E:=r.length;have D:=k.length;refine concat_meets ⟨_,l,rfl⟩ ⟨_,d,rfl⟩ noFill_list_add seq_list_add PySem.F.slot_list_add PySem.F.entry_list_add (PySem.F.args_list_add_2 _ _) (list_addW a b its.toArray c.toArray n y C i sl h (by simp;omega)) ⟨l,d,?_⟩
 rw[e];exact⟨.ref _,_,I.lnew (t':=s.toks) (r.append k) (by rw[aI];omega),rfl,q _ I.fresh⟩
theorem UB(h:V3 op=true):op=.Add:=by cases op<;>first|rfl|cases h
theorem Za3(h:ZaM op=true):op=.Mult:=by cases op<;>first|rfl|cases h
theorem ZcO:OpR X (binaryOp op) (rD X.K (VA op)):=by
 intro pQ s O H x y v u Q I r o h;obtain⟨ad,st,R,P,d,st',S,m,l,e,p⟩:=h;unfold VA at e;split at e
 .split at e
  .rename_i k q
   cases e;cases m;cases l
   exact ZcP I r o q (p.at S (.int _))
  .exact Zc e
 .split at e
  .rename_i i
   cases UB i.1
   have g:=i.2;cases e;obtain⟨a,xs,rfl,j,c⟩:=m.ofTup;obtain⟨b,ys,rfl,E,A⟩:=l.ofTup;cases r;cases o
   refine Zb1 I j E (by rw[c.length,A.length];exact aK g ZV) (λz=>?_) (λz=>?_) λq f=>?_
   .subst z;cases c
    exact p.at S l
   .subst z;cases A
    rw[bB]at p;exact p.at S m
   .exact p _ ad _ (Ext.laid f) (S.laid f) (.tup (.inl upd_same) ((c.append A).mono (Ext.laid f)))
  .exact Zc e
 .split at e
  .rename_i i
   cases Za3 i
   obtain⟨a,xs,rfl,j,c⟩:=m.ofTup;cases l;cases r;obtain⟨t,rfl⟩:=o;cases c with
   |nil=>exact Zc e
   |cons B c=>cases c with
    |cons _ _=>exact Zc e
    |nil=>
     have e:(if _/\_ then some (D.tup (List.replicate _ _),st) else none)=some (d,st'):=e
     split at e
     .rename_i g
      cases e;refine ZcW I j g.1 g.2 (λz=>?_) λq f=>p _ ad _ (Ext.laid f) (S.laid f) (.tup (.inl upd_same) ((Dens.rep B _).mono (Ext.laid f)))
      subst z;exact p.at S (.tup j (.cons B .nil))
     .exact Zc e
  .exact Zc e
 .split at e
  .rename_i n
   cases UB n
   unfold Q5 at e;split at e
   .rename_i xs ys C G
    split at e
    .rename_i g
     cases e;obtain⟨a,rfl,j⟩:=m.ofLst;obtain⟨b,rfl,E⟩:=l.ofLst;obtain⟨vs,c,F⟩:=S.list j C;obtain⟨N,A,L⟩:=S.list E G;cases r;cases o
     refine Q6 I F L (by rw[c.length,A.length];exact aK g ZV) λq f=>?_
     refine p _ (ad++[q]) _ (Ext.push f) (S.push f (c.append A)) (.newL ?_);rw[<-S.len];exact Zz
    .exact Zc e
   .exact Zc e
  .exact Zc e
 .split at e
  .rename_i n
   cases Za3 n
   unfold ZcV at e;split at e
   .rename_i z C
    split at e
    .rename_i g
     cases e;obtain⟨a,rfl,j⟩:=m.ofLst;obtain⟨vs,c,F⟩:=S.listM j C;cases l;cases c with
     |cons B c=>
      cases c;rename_i w;refine op_rep pQ s O H _ _ v u Q I r o ⟨a,_,[w],rfl,rfl,F,by omega,by omega,?_,λq f=>?_⟩
      .rw[eD,Nat.one_mul]
       exact aK (show _<=1000 by omega) (by decide)
      .have M:∀ k:Nat,(List.replicate k [w]).flatten=List.replicate k w:=λk=>by
        induction k with
        |zero=>rfl
        |succ k J=>rw[cB,cU,J,cB];rfl
       rw[M];refine p _ (ad++[q]) _ (Ext.push f) (S.push f (Dens.rep B _)) (.newL ?_);rw[<-S.len];exact Zz
    .exact Zc e
   .exact Zc e
  .exact Zc e
 .split at e
  .rename_i g
   cases UB g.1
   cases e;cases m;cases l
   exact op_add_str pQ s O H _ _ v u Q I r o ⟨_,_,rfl,rfl,aK g.2 ZV,p.at S (.str _)⟩
  .exact Zc e
 .exact Zc e
theorem Zdo:UnR X (unaryOp .USub) (rU1 X.K Ze1):=by
 intro pQ s O H x v Q I a h;obtain⟨ad,st,c,d,st',S,b,e,p⟩:=h;unfold Ze1 at e;split at e
 .cases e;cases b
  exact un_neg pQ s O H _ v Q I a ⟨_,rfl,p.at S (.int _)⟩
 .exact Zc e
theorem UF{xs:Li V}{i:Int}(r:Dens X.K ad H xs ds)(e:atD ds i=some d):∃ v,atI xs i=some v/\Den X.K ad H v d:=by
 unfold atD at e;have a:L2.ixN xs.length i=Dp.ixN ds.length i:=by rw[r.length];rfl
 cases q:Dp.ixN ds.length i with
 |none=>rw[q]at e;cases e
 |some j=>
  rw[q]at e;obtain⟨v,c,b⟩:=r.get (i:=j) e;refine⟨v,?_,b⟩;unfold atI;rw[a,q];exact c
theorem Wv{ad:Li Ad}{H:Hp}{k:Str}:∀ {ks:Li Str}{vs:Li V}{ds:Li D},Dens X.K ad H vs ds->ks.length=vs.length->
  (∃ v d,valV ((ks.zip vs).map λp=>((Sum.inr p.1:Key),p.2)) (Sum.inr k)=some v/\Yj ks ds k=some d/\Den X.K ad H v d)\/(valV ((ks.zip vs).map λp=>((Sum.inr p.1:Key),p.2)) (Sum.inr k)=none/\Yj ks ds k=none)
 |[],_,_,.nil,_=>.inr ⟨rfl,rfl⟩
 |[],_,_,.cons _ _,h=>by simp at h
 |_ :: _,_,_,.nil,h=>by simp at h
 |x :: ks,v :: vs,d :: ds,.cons b r,h=>by
  by_cases e:x=k
  .subst e
   exact .inl ⟨v,d,valV_pos rfl,by simp[Yj],b⟩
  .have a:=Wv (k:=k) r (by simpa using h)
   have f:valV (((x :: ks).zip (v :: vs)).map λp=>((Sum.inr p.1:Key),p.2)) (Sum.inr k)=valV ((ks.zip vs).map λp=>((Sum.inr p.1:Key),p.2)) (Sum.inr k):=valV_neg (p:=(Sum.inr x,v)) (by intro z;exact e (Sum.inr.inj z))
   have c:Yj (x :: ks) (d :: ds) k=Yj ks ds k:=by simp[Yj,e]
   rw[f,c];exact a
theorem J5{ks:Li D}{a:Nat}{o:Ot D}(h:dAt ks a st=some o):∃ b xs,st[a]?=some (b,xs)/\(Yh xs=false/\okN 8 (.tup ks)=true)/\o=ZR xs (.tup ks):=by
 unfold dAt at h;split at h
 .rename_i b xs q
  split at h
  .rename_i c
   cases h;exact⟨b,xs,q,c,rfl⟩
  .exact Zc h
 .exact Zc h
theorem Zgh{x:Str}{i:Int}(q:atD ((chS x).map D.str) i=some d):∃ c,atI x.cps.toList i=some c/\d=.str ⟨#[c]⟩:=by
 unfold atD at q;unfold atI;have b:((chS x).map D.str).length=x.cps.toList.length:=by simp[chS]
 rw[b]at q;show ∃ c,(Dp.ixN x.cps.toList.length i).bind (λj=>x.cps.toList[j]?)=some c/\_
 cases e:Dp.ixN x.cps.toList.length i with
 |none=>rw[e]at q;cases q
 |some j=>
  rw[e]at q;have q:((chS x).map D.str)[j]?=some d:=q;unfold chS at q;rw[aS,aS]at q;show ∃ c,x.cps.toList[j]?=some c/\_;cases a:x.cps.toList[j]? with
  |none=>rw[a]at q;cases q
  |some c=>rw[a]at q;cases q;exact⟨c,rfl,rfl⟩
theorem Zhj(hu:X.A.units+64 < cLine):IxR X (rD X.K ixR):=by
 intro f slice pQ s O H x y v u Q I m l h B;obtain⟨ad,st,Z,Y,d,st',S,t,j,e,p⟩:=h;unfold ixR at e;split at e
 .rename_i d' q
  cases e;unfold ixD at q;split at q
  .obtain⟨a,xs,rfl,k,r⟩:=t.ofTup
   cases j;obtain⟨w,i,g⟩:=UF r q;exact ix_tup f slice pQ s O H _ _ v u Q I m l ⟨a,xs,_,w,rfl,rfl,(k).sq,i,p.at S g⟩ B
  .split at q
   .rename_i C
    obtain⟨a,rfl,k⟩:=t.ofLst;cases j;obtain⟨xs,r,sq⟩:=S.list k C;obtain⟨w,i,g⟩:=UF r q;exact ix_list f slice pQ s O H _ _ v u Q I m l ⟨a,xs,_,w,rfl,rfl,sq,i,p.at S g⟩ B
   .exact Zc q
  .obtain⟨a,vs,rfl,k,M,r⟩:=t.ofDct
   cases j;rcases Wv r M with⟨w,W,i,g,E⟩|⟨_,g⟩
   .rw[g]at q
    cases q;exact ix_dct f slice pQ s O H _ _ v u Q I m l ⟨a,_,Sum.inr _,w,rfl,rfl,k,i,p.at S E⟩ B
   .rw[g]at q;cases q
  .obtain⟨a,o,its,n,rfl,V,U,T,R,P⟩:=t.ofKt
   cases j;obtain⟨w,i,g⟩:=UF (WT _) q;exact ix_tup f slice pQ s O H _ _ v u Q I m l ⟨a,_,_,w,rfl,rfl,.inr ⟨o,its,n,V,U.1,T,R,P⟩,i,p.at S g⟩ B
  .refine j_e q λq=>?_
   obtain⟨bb,es,C,D,q⟩:=J5 q;obtain⟨a,rfl,k,L⟩:=t.ofDic;obtain⟨xs,⟨r,G⟩,N,_⟩:=S.dict k L C D.1;obtain⟨b,_,rfl,_,_⟩:=id j.ofTup;rcases r.look D.2 with⟨z,W,F,g,E⟩|⟨_,g⟩
   .rw[g]at q
    cases q;exact Zgz (by omega) f slice pQ s O H _ _ v u Q I m l ⟨a,b,xs,_,_,z,⟨rfl,rfl⟩,⟨N,G,j,D.2,r.keys⟩,F.1,F.2,p.at S E⟩ B
   .rw[g]at q;cases q
  .split at q
   .rename_i J
    cases t;cases j
    obtain⟨c,i,rfl⟩:=Zgh q;exact ix_str f slice pQ s O H _ _ v u Q I m l ⟨_,_,c,rfl,rfl,aK J ZV,i,p.at S (.str _)⟩ B
   .exact Zc q
  .exact Zc q
 .exact Zc e
theorem YQ(n d:Nat)(o:Ot Int):Dp.sIx n d o=HT.sIx n d o:=by cases o<;>rfl
theorem J3{xs:Li V}(r:Dens X.K ad H xs ds):Dens X.K ad H (cutV xs lo hi) (Xw ds lo hi):=by
 unfold cutV Xw;rw[<-r.length,YQ,YQ];exact(r.drop _).take _
theorem WI{s:sH7}{t sl:Ad}{g f:vL}{Q:vL->sH7->Prop}(b:IsTup s.heap t items)(j:s.heap.IsSliceOf sl g f .none)(l:IsPart g lo)(k:IsPart f hi)(i:HT.sIx items.size 0 lo=0/\HT.sIx items.size items.size hi=items.size)(h:Q (.ref t) s):wpAny (model prog w) A (getItem (.ref t) (.ref sl)) Q E s:=by
 obtain⟨m,c,d,n⟩:=id j;have e:s.TypeIs (.ref sl) "slice":=⟨m,c,d⟩;unfold getItem
 try with_reducible refine wpAny_holding ?_
 first|refine aA (aB ?_)|skip
 refine aA (wpAny_sequenceKey b.typeIs (by decide) ?_)
 refine aA (wpAny_callSpecial?_slot (name:=Str.ofString "__getitem__") b.typeIs PyProof.Rows.slot_tuple_getitem
  (wpAny_call_entry PyProof.Rows.slot_tuple_getitem b.typeIs PyProof.Rows.entry_tuple_getitem ?_ (PyProof.Rows.args_tuple_getitem _ _)))
 show wpAny _ _ (Builtin.Tuple.tupleItemsOf (.ref t) >>= _) _ _ s;refine aA (tupleItemsOf_ b ?_);refine aA (wpAny_typeOf e ?_);rw[if_pos (by decide)]
 refine aA (HT.sliceApplied_gen j l k ?_);rw[i.1,i.2];have a:(((0:Nat):Int)==0&&(1:Int)==1&&(items.size - 0)==items.size)=true:=by simp
 show wpAny _ _ (if (((0:Nat):Int)==0&&(1:Int)==1&&(items.size - 0)==items.size)=true then _ else _) _ _ s
 rw[if_pos a];unfold Builtin.Tuple.tupleIsExact
 wp_walk using wpAny_typeOf b.typeIs
 exact⟨_,rfl,aB h⟩
theorem Zbx:SlR X (λx lo hi H Q=>∃ a xs,x=.ref a/\SqT X.K H a xs/\(HT.sIx xs.length 0 lo=0/\HT.sIx xs.length xs.length hi=xs.length)/\Q (.ref a) H):=by
 intro pQ s O H x v l k lo hi sl Q I d j f e h;obtain⟨a,xs,rfl,g,i,q⟩:=h;cases d;obtain⟨its,r,c,m⟩:=I.tuple g;have b:its.toArray.size=xs.length:=by rw[aM];exact r.length.symm
 refine⟨"tuple",_,PyProof.Rows.slot_tuple_getitem.lookup,c.typeIs,?_⟩;exact WI c j f e (by rw[b];exact i) ⟨.ref a,H,I,rfl,q⟩
theorem Zh9:SlR X (rSl X.K):=by
 intro pQ s O H x v i g lo hi sl Q I j n l k h;obtain⟨ad,st,t,d,st',S,f,e,p⟩:=h;unfold Yf at e;split at e
 .rename_i ds
  split at e
  .rename_i m
   cases e;obtain⟨a,xs,rfl,c,r⟩:=f.ofTup;refine Zbx pQ s O H _ v i g lo hi sl Q I j n l k ⟨a,xs,rfl,c.sq,?_,p.at S f⟩;rw[r.length,<-YQ,<-YQ];exact m
  .rename_i m
   cases e;obtain⟨a,xs,rfl,c,r⟩:=f.ofTup;refine sl_tup pQ s O H _ v i g lo hi sl Q I j n l k ⟨a,xs,rfl,(c).sq,?_,λq b=>p _ ad _ (Ext.laid b) (S.laid b) (.tup (.inl upd_same) ((J3 r).mono (Ext.laid b)))⟩
   rw[r.length,<-YQ,<-YQ];exact m
 .split at e
  .rename_i o
   cases e;obtain⟨a,rfl,c⟩:=f.ofLst;obtain⟨xs,r,sq⟩:=S.list c o;refine sl_list pQ s O H _ v i g lo hi sl Q I j n l k ⟨a,xs,rfl,sq,λq b=>p _ (ad++[q]) _ (Ext.push b) (S.push b (J3 r)) (.newL ?_)⟩
   rw[<-S.len];exact Zz
  .exact Zc e
 .exact Zc e
theorem VJ(h:Dens X.K ad H vs [d]):∃ v,vs=[v]/\Den X.K ad H v d:=by
 cases h with
 |cons h r=>cases r;exact⟨_,rfl,h⟩
theorem ZdC{e:D}(h:Dens X.K ad H vs [d,e]):∃ v w,vs=[v,w]/\Den X.K ad H v d/\Den X.K ad H w e:=by
 cases h with
 |cons h r=>
  cases r with
  |cons a r=>cases r;exact⟨_,_,rfl,h,a⟩
theorem Xc{g:D->Za->Res}{r:D×Za}(h:on1 g ds st=some r):∃ d,ds=[d]/\g d st=some r:=by
 unfold on1 at h;split at h
 .exact⟨_,rfl,h⟩
 .exact Zc h
theorem WP{g:D->D->Za->Res}{r:D×Za}(h:on2 g ds st=some r):∃ d e,ds=[d,e]/\g d e st=some r:=by
 unfold on2 at h;split at h
 .exact⟨_,_,rfl,h⟩
 .exact Zc h
theorem Q2:CallR X (.builtin "len") (rC X.K (on1 V6)):=by
 intro pQ s O H xs c Q I r h;obtain⟨ad,st,ds,d,st',S,t,e,p⟩:=h;obtain⟨x,rfl,B⟩:=Xc e;have e:=B;obtain⟨v,rfl,f⟩:=VJ t;unfold V6 at e;split at e
 .rename_i n q
  cases e;unfold ZcC at q;split at q
  .cases q
   obtain⟨a,ys,rfl,j,b⟩:=f.ofTup;refine call_len_seq pQ s O H _ c Q I r ⟨a,ys,rfl,.inr ((j).sq),?_⟩;rw[b.length];exact p.at S (.int _)
  .split at q
   .rename_i i
    cases q;obtain⟨a,rfl,j⟩:=f.ofLst;obtain⟨ys,b,sq⟩:=S.list j i;refine call_len_seq pQ s O H _ c Q I r ⟨a,ys,rfl,.inl sq,?_⟩;rw[b.length];exact p.at S (.int _)
   .cases q
  .cases q
   obtain⟨a,o,its,n,rfl,A,z,y,w,u⟩:=f.ofKt;refine call_len_seq pQ s O H _ c Q I r ⟨a,_,rfl,.inr (.inr ⟨o,its,n,A,z.1,y,w,u⟩),?_⟩;rw[aD];exact p.at S (.int _)
  .split at q
   .rename_i g
    cases q;cases f
    exact call_len pQ s O H _ c Q I r ⟨_,_,rfl,⟨aK g ZV,rfl⟩,p.at S (.int _)⟩
   .cases q
  .split at q
   .rename_i i
    split at q
    .rename_i g
     cases q;obtain⟨l,rfl,m,n⟩:=f.ofDic;obtain⟨ys,⟨b,_⟩,k,_⟩:=S.dict m n i g.1;refine VE pQ s O H _ c Q I r ⟨l,ys,rfl,k,by rw[b.length];exact aK g.2 ZV,?_⟩
     rw[b.length];exact p.at S (.int _)
    .cases q
   .cases q
  .cases q
 .exact Zc e
theorem VF:CallR X (.type "tuple") (rC X.K (on1 Vx)):=by
 intro pQ s O H xs g Q I r h;obtain⟨ad,st,ds,d,st',S,k,e,p⟩:=h;obtain⟨x,rfl,m⟩:=Xc e;have e:=m;obtain⟨v,rfl,b⟩:=VJ k;unfold Vx at e;split at e
 .cases e
  obtain⟨a,ys,rfl,f,i⟩:=b.ofTup;exact call_tuple_of pQ s O H _ g Q I r ⟨a,ys,rfl,.inr ⟨(f).sq,p.at S b⟩⟩
 .split at e
  .rename_i j
   cases e;obtain⟨a,rfl,f⟩:=b.ofLst;obtain⟨ys,i,sq⟩:=S.list f j;exact call_tuple_of pQ s O H _ g Q I r ⟨a,ys,rfl,.inl ⟨sq,λl c=>p _ ad _ (Ext.laid c) (S.laid c) (.tup (.inl upd_same) (i.mono (Ext.laid c)))⟩⟩
  .cases e
 .cases e
theorem UI:CallR X (.type "list") (rC X.K (on1 QF)):=by
 intro pQ s O H xs g Q I r h;obtain⟨ad,st,ds,d,st',S,k,e,p⟩:=h;obtain⟨x,rfl,m⟩:=Xc e;have e:=m;obtain⟨v,rfl,i⟩:=VJ k;unfold QF at e;split at e
 .cases e
  obtain⟨a,ys,rfl,f,c⟩:=i.ofTup;refine call_list_of pQ s O H _ g Q I r ⟨a,ys,rfl,.inr ((f).sq),λl b=>p _ (ad++[l]) _ (Ext.push b) (S.push b c) (.newL ?_)⟩
  rw[<-S.len];exact Zz
 .split at e
  .rename_i j
   cases e;obtain⟨a,rfl,f⟩:=i.ofLst;obtain⟨ys,c,sq⟩:=S.list f j;refine call_list_of pQ s O H _ g Q I r ⟨a,ys,rfl,.inl sq,λl b=>p _ (ad++[l]) _ (Ext.push b) (S.push b c) (.newL ?_)⟩
   rw[<-S.len];exact Zz
  .cases e
 .cases e
theorem Q4(g:X.calm=true):CallR X (.builtin "min") (rC X.K (on2 ZeZ)):=by
 intro pQ s O H xs a Q I r h;obtain⟨ad,st,ds,d,st',S,f,e,p⟩:=h;obtain⟨x,y,rfl,i⟩:=WP e;have e:=i;obtain⟨v,w,rfl,c,b⟩:=ZdC f;unfold ZeZ at e;split at e
 .cases e;cases c;cases b
  exact call_min2 g pQ s O H _ a Q I r ⟨_,_,rfl,p.at S (.int _)⟩
 .exact Zc e
theorem Q3(g:X.calm=true):CallR X (.builtin "max") (rC X.K (on2 ZeY)):=by
 intro pQ s O H xs a Q I r h;obtain⟨ad,st,ds,d,st',S,f,e,p⟩:=h;obtain⟨x,y,rfl,i⟩:=WP e;have e:=i;obtain⟨v,w,rfl,c,b⟩:=ZdC f;unfold ZeY at e;split at e
 .cases e;cases c;cases b
  exact call_max2 g pQ s O H _ a Q I r ⟨_,_,rfl,p.at S (.int _)⟩
 .exact Zc e
noncomputable def tyN:Ty->String
 |.int => "int"
 |.bool => "bool"
 |.str => "str"
 |.tuple => "tuple"
noncomputable def ZaT:D->String
 |.int _ => "int"
 |.bl _ => "bool"
 |.str _ => "str"
 |.tup _ => "tuple"
 |.non => "NoneType"
 |_ => "list"
theorem ZaU(K:fG7){T:Ty}(h:ZeQ T d=some k):W.kitOne K (.type (ZaT d)) (.type (tyN T))=some k:=by
 cases d<;>first | (cases h;done) | (cases T<;>(cases h;rfl))
theorem ZgX{K:fG7}{v:V}{T:Ty}(h:ZeQ T d=some k)(c:Den K ad H v d):TyOf K H v (.type (ZaT d))\/∃ a xs,v=.ref a/\SqT K H a xs/\ZaT d = "tuple":=by
 cases c with
 |non=>exact .inl .non
 |bl b=>exact .inl (.bl b)
 |int i=>exact .inl (.int i)
 |str x=>exact .inl (.str x)
 |tup e r=>exact .inr ⟨_,_,rfl,e.sq,rfl⟩
 |lst e=>exact Zc h
 |dic _ _=>exact Zc h
 |obj _ _=>exact Zc h
 |kt _ _ _ _ _ _=>exact Zc h
theorem JZ{T:Ty}:CallR X (.builtin "isinstance") (λvs H Q=>∃ v,vs=[v,.ty (tyN T)]/\rC X.K (on1 (ZaP T)) [v] H Q):=by
 intro pQ s O H xs C Q I r h;obtain⟨v,rfl,ad,st,ds,d,st',S,t,e,p⟩:=h;obtain⟨x,rfl,A⟩:=Xc e;have e:=A;obtain⟨w,m,n⟩:=VJ t;cases m;unfold ZaP at e;split at e
 .rename_i k q
  cases e;cases r with
  |cons b i=>
   cases i with
   |cons g f=>
    cases f;cases g;rcases ZgX q n with ty|⟨a,B,rfl,sq,l⟩
    .exact isinst_ok I b ty (ZaU X.K q) λc=>⟨.bl k,H,I.tok _,rfl,p.at S (.bl k)⟩
    .have kt:=ZaU X.K q
     rw[l]at kt;cases b;obtain⟨its,_,j,_⟩:=I.tuple sq;obtain⟨o,y,u,_⟩:=j;exact W.kia_one W.kitx_tuple I.kIn ⟨o,y,u⟩ kt (λz=>nomatch z) λc=>⟨.bl k,H,I.tok _,rfl,p.at S (.bl k)⟩
 .exact Zc e
variable [ClsTab]
section
open PySem.SeqAt PySem.MeetsSeq PySem.MeetsSeq2 PySem.MeetsSeq3 PySem.SeqRoads2
open AutoSeq1 (wpAny_loadPart')
end
variable{dx dy:D}{n:Nat}
section
theorem ZaI{ad:Li Ad}{H:Hp}{k:Int}:∀ {xs:Li V}{ds:Li D}{b:Bool},Dens X.K ad H xs ds->Ys k ds=some b->xs.all flatV=true/\inV (.int k) xs=b
 |_,_,_,.nil,e=>by cases e;exact⟨rfl,rfl⟩
 |_,_,b,.cons (d:=d) h r,e=>by
  cases d with
  |int i=>
   cases h;unfold Ys at e;cases q:Ys k _ with
   |none=>rw[q]at e;cases e
   |some b'=>
    rw[q]at e;cases e;obtain⟨c,a⟩:=ZaI r q;refine⟨by rw[aY,c];rfl,?_⟩
    show((i==k)||inV (.int k) _)=(decide (i=k)||b');rw[a];rfl
  |_=>simp[Ys]at e
theorem UN{ad:Li Ad}{H:Hp}{k:Str}:∀ {xs:Li V}{ds:Li D}{b:Bool},Dens X.K ad H xs ds->YC k ds=some b->xs.all flatV=true/\inV (.str k) xs=b
 |_,_,_,.nil,e=>by cases e;exact⟨rfl,rfl⟩
 |_,_,b,.cons (d:=d) h r,e=>by
  cases d with
  |str i=>
   cases h;unfold YC at e;cases q:YC k _ with
   |none=>rw[q]at e;cases e
   |some b'=>
    rw[q]at e;cases e;obtain⟨c,a⟩:=UN r q;refine⟨by rw[aY,c];rfl,?_⟩
    show((i==k)||inV (.str k) _)=(decide (i=k)||b');rw[a]
    congr 1
  |_=>simp[YC]at e
def CW(X:Cx)(pQ:Li (Ad×Obj))(O:L2.St)(Q:VK)(s:sH7)(op:CmpOp)(v u:vL):Prop:=wpAny (model X.prog X.w) X.A (compareOp op v u) (EP X pQ O Q) X.xe s
def CW2(X:Cx)(pQ:Li (Ad×Obj))(O:L2.St)(Q:VK)(s:sH7)(H:Hp)(op a:CmpOp)(v u:vL)(k:Bool):Prop:=(Q (.bl k) H->CW X pQ O Q s op v u)/\(Q (.bl (!k)) H->CW X pQ O Q s a v u)
noncomputable def vSc:Sc->V
 |.non=>.non
 |.bl b=>.bl b
 |.int i=>.int i
 |.str x=>.str x
theorem Den.vSc{K:fG7}{ad:Li Ad}{H:Hp}{x:V}{d:D}{a:Sc}(h:Den K ad H x d)(e:scD d=some a):x=vSc a:=by
 cases h<;>cases e<;>rfl
theorem Zca{a b:Sc}(h:Zgn a b=some k):scal (vSc a) (vSc b)=true/\decide (vSc a=vSc b)=k:=by
 cases a<;>cases b<;>first
  | (cases h;done)
  | (cases h;exact⟨rfl,rfl⟩)
  | (cases h;exact⟨rfl,dec_bl⟩)
  | (cases h;exact⟨rfl,by simp[vSc]⟩)
inductive EqD(x y:V):D->D->Bool->Prop
 |sc {dx dy:D}{k:Bool} (h3:scal x y=true) (h4:decide (x=y)=k):EqD x y dx dy k
 |tup {xs ys:List D} (h:(okD 8 (.tup xs)&&okD 8 (.tup ys))=true):EqD x y (.tup xs) (.tup ys) (Zy xs ys)
theorem Zb9{K:fG7}{x y:V}(i:Den K ad H x dx)(g:Den K ad H y dy)(e:eqD dx dy=some k):EqD x y dx dy k:=by
 unfold eqD at e;split at e
 .unfold eqT at e
  split at e
  .split at e
   .rename_i c
    cases e;exact .tup c
   .exact Zc e
  .exact Zc e
 .refine j_e e λe=>ZY (P:=λo=>o=some k->EqD x y dx dy k) e (λa b l j h=>?_) rfl
  obtain⟨f,d⟩:=Zca h;rw[<-i.vSc l,<-g.vSc j]at f d;exact .sc f d
theorem Zgp(hu:X.A.units+64 < cLine){s:sH7}{x y:V}{v:vL}(I:Inv X pQ O H s)(f:RelV x v)(d:RelV y u)(S:StOk X.K ad H st)(h:Den X.K ad H x dx)(g:Den X.K ad H y dy)(e:eqD dx dy=some k):CW2 X pQ O Q s H .Eq .NotEq v u k:=by
 cases Zb9 h g e with
 |sc i p=>
  subst p;exact⟨λq=>op_eq pQ s O H x y v u Q I f d ⟨i,q⟩,λq=>op_ne pQ s O H x y v u Q I f d ⟨i,q⟩⟩
 |tup c=>
  rw[bA7]at c;obtain⟨a,xs,rfl,o,l⟩:=h.ofTup;obtain⟨b,ys,rfl,m,j⟩:=g.ofTup;cases f;cases d
  obtain⟨g1,g2⟩:=ZcU (ad:=ad) (A:=X.A) I (n:=7) c.1 c.2 (by omega) o l m j
  exact⟨λq=>g1 X.prog X.w X.xe _ ⟨.bl _,H,I,rfl,q⟩,λq=>g2 X.prog X.w X.xe _ ⟨.bl _,H,I,rfl,q⟩⟩
open PySem.SeqAt in
theorem ZcT{s:sH7}(I:Inv X pQ O H s){a b:Ad}{xs:Li V}{es:Li D}{its c:Li vL}(v:ZZ n ds=true)(u:ZZ n es=true)(hu:A.units+n+1 < cLine)(r:Dens X.K ad H xs ds)(m:Dens X.K ad H ys es)(l:Vals xs its)(d:Vals ys c)(p:s.heap.IsList a its.toArray)(g:s.heap.IsList b c.toArray):RcAt A s (.ref a) (.ref b) (Zy ds es)/\RcNeAt A s (.ref a) (.ref b) (!Zy ds es):=by
 have k:its.toArray.size=ds.length:=by rw[aM,<-l.length,r.length]
 have t:c.toArray.size=es.length:=by rw[aM,<-d.length,m.length]
 by_cases h:ds.length=es.length
 .have o:=λj x w=>UP (a:=a) (b:=b) I v u hu r m l d j x w
  have q:=RcAt.lists (A:=A) (s:=s) (e:=λi=>Zr ((ds[i]?).getD .non) ((es[i]?).getD .non)) p g (by omega) (by omega) o
  have f:=RcNeAt.lists (A:=A) (s:=s) (e:=λi=>Zr ((ds[i]?).getD .non) ((es[i]?).getD .non)) p g (by omega) (by omega) o
  rw[k]at q f;rw[YJ,show min ds.length es.length=ds.length by omega,show(ds.length==es.length)=true by simpa using h,dL]
  exact⟨q,f⟩
 .have q:=RcAt.lists_lengths (A:=A) (s:=s) p g (by rw[k,t];simpa using h) (by omega)
  have f:=RcNeAt.lists_lengths (A:=A) (s:=s) p g (by rw[k,t];simpa using h) (by omega)
  rw[YJ,show(ds.length==es.length)=false by simpa using h,cK]
  exact⟨q,f⟩
open PySem.SeqAt in
theorem Zhf(hu:X.A.units+64 < cLine){s:sH7}{x y:V}{v:vL}{es:Li D}(I:Inv X pQ O H s)(b:RelV x v)(a:RelV y u)(S:StOk X.K ad H st)(d:Den X.K ad H x (.tup ds))(c:Den X.K ad H y (.tup es))(e:QN st ds es=some k):CW2 X pQ O Q s H .Eq .NotEq v u k:=by cases e
theorem Zgr(hu:X.A.units+64 < cLine){s:sH7}{x y:V}{v:vL}(I:Inv X pQ O H s)(n:RelV x v)(m:RelV y u)(S:StOk X.K ad H st)(J:Den X.K ad H x dx)(G:Den X.K ad H y dy)(e:eqS st dx dy=some k):CW2 X pQ O Q s H .Eq .NotEq v u k:=by
 have sc:scal x y=true->(decide (x=y))=k->CW2 X pQ O Q s H .Eq .NotEq v u k:=λt h2=>by
  subst h2;exact⟨λq=>op_eq pQ s O H x y v u Q I n m ⟨t,q⟩,λq=>op_ne pQ s O H x y v u Q I n m ⟨t,q⟩⟩
 unfold eqS at e;split at e
 .unfold ZeB at e
  split at e
  case h_2=>exact Zc e
  obtain⟨a,rfl,ha⟩:=J.ofLst;obtain⟨b,rfl,hb⟩:=G.ofLst;cases n;cases m
  have two:∀ {ba bb:Bool}{xs ys:Li D},st[_]?=some (ba,xs)->st[_]?=some (bb,ys)->(xs=[]\/ys=[])->(xs.isEmpty&&ys.isEmpty)=k->CW2 X pQ O Q s H .Eq .NotEq (.ref a) (.ref b) k:=λ{ba bb xs ys} F E B hk=>by
   obtain⟨vs,T,M⟩:=S.list ha F;obtain⟨ws,R,L⟩:=S.list hb E;obtain⟨its,N,r,_⟩:=I.list M;obtain⟨g,h,p,_⟩:=I.list L;have Z:its.toArray.size=xs.length:=by rw[aM,<-N.length,T.length]
   have Y:g.toArray.size=ys.length:=by rw[aM,<-h.length,R.length]
   by_cases l:xs.length=ys.length
   .have W:xs=[]:=by
     rcases B with z|z
     .exact z
     .rw[z]at l;exact dU.mp l
    have z2:ys=[]:=by rw[W]at l;exact dU.mp l.symm
    subst W z2;cases hk;have f:its=[]:=dU.mp (by simpa using Z)
    have f':g=[]:=dU.mp (by simpa using Y)
    subst f f';refine⟨λq=>SeqAt.RcAt.lists (e:=λ_=>true) r.isList p.isList rfl (by omega) (λj t _=>absurd t (by simp)) X.prog X.w X.xe _ ⟨.bl true,H,I,rfl,q⟩,λq=>SeqAt.RcNeAt.lists (e:=λ_=>true) r.isList p.isList rfl (by omega) (λj t _=>absurd t (by simp)) X.prog X.w X.xe _ ⟨.bl false,H,I,rfl,q⟩⟩
   .have U:k=false:=by
     rw[<-hk];rcases B with z|z
     .subst z
      cases ys with
      |nil=>exact absurd rfl l
      |cons _ _=>rfl
     .subst z
      cases xs with
      |nil=>exact absurd rfl l
      |cons _ _=>rfl
    subst U;have C:(its.toArray.size != g.toArray.size)=true:=by rw[Z,Y];simpa using l
    exact⟨λq=>SeqAt.RcAt.lists_lengths r.isList p.isList C (by omega) X.prog X.w X.xe _ ⟨.bl false,H,I,rfl,q⟩,λq=>SeqAt.RcNeAt.lists_lengths r.isList p.isList C (by omega) X.prog X.w X.xe _ ⟨.bl true,H,I,rfl,q⟩⟩
  refine j_e e λe=>ZY (P:=λo=>o=some k->CW2 X pQ O Q s H .Eq .NotEq (.ref a) (.ref b) k) e (λc d F E e=>?_) rfl
  obtain⟨c1,c2⟩:=c;obtain⟨d1,d2⟩:=d;unfold WH at e;split at e
  .rename_i B
   cases e;rw[bX]at B;exact two F E (B.imp List.isEmpty_iff.mp List.isEmpty_iff.mp) rfl
  .split at e
   .rename_i i
    cases e;rw[bA7]at i;obtain⟨vs,T,M⟩:=S.list ha F;obtain⟨ws,R,L⟩:=S.list hb E;obtain⟨its,N,r,_⟩:=I.list M;obtain⟨g,h,p,_⟩:=I.list L;obtain⟨g1,g2⟩:=ZcT (ad:=ad) (A:=X.A) I i.1 i.2 (by omega) T R N h r.isList p.isList
    exact⟨λq=>g1 X.prog X.w X.xe _ ⟨.bl _,H,I,rfl,q⟩,λq=>g2 X.prog X.w X.xe _ ⟨.bl _,H,I,rfl,q⟩⟩
   .exact Zc e
 .unfold Zgo at e
  split at e
  .split at e
   .rename_i k' q
    cases e;exact Zgp hu I n m S J G (show eqD (.tup _) (.tup _)=some _ from q)
   .exact Zhf hu I n m S J G e
  .exact Zc e
 .exact Zgp hu I n m S J G e
theorem Zbl{x y:V}(r:RelV x u)(a:RelV y u):x=y:=by
 cases x<;>cases y<;>simp only[L2.RelV]at r a<;>first
  |rfl
  | (subst r;cases a;rfl)
  | (obtain⟨t,rfl⟩:=r;obtain⟨b,e⟩:=a;cases e;rfl)
  | (obtain⟨t,rfl⟩:=r;obtain⟨b,e⟩:=a;cases e)
  | (obtain⟨t,rfl⟩:=r;cases a)
  | (subst r;obtain⟨b,e⟩:=a;cases e)
  | (subst r;cases a)
open Classical in
noncomputable def V7(K:fG7)(ad:Li Ad)(H:Hp)(d:D)(u:vL):Bool:=decide (∃ y e,RelV y u/\Den K ad H y e/\okD 8 e=true/\Zr e d=true)
theorem ZcE{s:sH7}(I:Inv X pQ O H s){e:D}{y:V}(r:RelV y u)(h:Den X.K ad H y e)(ok:okD 8 e=true):V7 X.K ad H d u=Zr e d:=by
 classical
 unfold V7;cases q:Zr e d with
 |true=>exact aG ⟨y,e,r,h,ok,q⟩
 |false=>
  refine aE λ⟨j,k,f,i,c,g⟩=>?_
  cases Zbl r f
  have z:=Den.inj (λ_ _ _ a b=>I.tuple_inj a.sq b.sq) (n:=8) (m:=8) ok c h i
  rw[z,g]at q;cases q
theorem V8{pQ:Li (Ad×Obj)}{O:L2.St}{H:Hp}{s:sH7}{ad:Li Ad}(I:Inv X pQ O H s){A:Around}(hu:A.units+8 < cLine){d:D}{x:V}{v:vL}(b:RelV x v)(f:Den X.K ad H x d)(c:okD 8 d=true):∀ {xs:Li V}{ds:Li D}{a:Li vL},Dens X.K ad H xs ds->Vals xs a->ZZ 8 ds=true->(∀ u∈a,SeqAt.EqAt A s u v (V7 X.K ad H d u))/\a.any (V7 X.K ad H d)=ds.any λe=>Zr e d
 |_,_,_,.nil,.nil,_=>⟨λu hu=>(nomatch hu),rfl⟩
 |_,e :: ds,u :: a,.cons h t,.cons r rt,ok=>by
  have ok:(okD 8 e&&ZZ 8 ds)=true:=ok;rw[bA7]at ok;obtain⟨j,i⟩:=V8 I hu b f c t rt ok.2;have z:=ZcE (ad:=ad) I (d:=d) r h ok.1;refine⟨λg hu'=>?_,by rw[cJ,cJ,z,i]⟩
  rcases aH.mp hu' with rfl|hu'
  .rw[z]
   exact Zad I 8 e d A _ _ _ _ ok.1 c hu h f r b
  .exact j g hu'
section
variable{pQ:Li (Ad×Obj)}{s:sH7}{O:L2.St}{H:Hp}{x y:V}{v u:vL}{Q:VK}{ad:Li Ad}{st:Za}{dx dy:D}{k:Bool}
theorem Va{a:Ad}{xs:Li V}(I:Inv X pQ O H s)(d:RelV x v)(c:RelV y u)(g:y=.ref a)(sq:SqL X.K H a xs\/SqT X.K H a xs)(f:flatV x=true)(h:xs.all flatV=true/\inV x xs=k):CW2 X pQ O Q s H .In .NotIn v u k:=by
 obtain⟨e,i⟩:=h;subst i;exact⟨λb=>op_in_seq pQ s O H _ _ v u Q I d c ⟨a,xs,g,sq,f,e,b⟩,λb=>op_notIn_seq pQ s O H _ _ v u Q I d c ⟨a,xs,g,sq,f,e,b⟩⟩
def InW(X:Cx)(pQ:Li (Ad×Obj))(O:L2.St)(Q:VK)(s:sH7)(H:Hp)(v u:vL)(dy:D)(k:Bool):Prop:=(Q (.bl k) H->CW X pQ O Q s .In v u)/\((∀ ks vs,dy≠.dct ks vs)->Q (.bl (!k)) H->CW X pQ O Q s .NotIn v u)
theorem CW2.inW(h:CW2 X pQ O Q s H .In .NotIn v u k):InW X pQ O Q s H v u dy k:=⟨h.1,λ_=>h.2⟩
theorem Zgw(hu:X.A.units+64 < cLine)(I:Inv X pQ O H s)(i:RelV x v)(h:RelV y u)(S:StOk X.K ad H st)(g:Den X.K ad H x dx)(j:Den X.K ad H y dy)(q:inS st dx dy=some k):InW X pQ O Q s H v u dy k:=by
 unfold inS at q;split at q
 .split at q
  .rename_i l
   obtain⟨a,e,c⟩:=j.ofLst;obtain⟨xs,r,sq⟩:=S.list c l;cases g;exact(Va I i h e (.inl sq) rfl (ZaI r q)).inW
  .cases q
 .split at q
  .rename_i l
   obtain⟨a,e,c⟩:=j.ofLst;obtain⟨xs,r,sq⟩:=S.list c l;cases g;exact(Va I i h e (.inl sq) rfl (UN r q)).inW
  .cases q
 .split at q
  .rename_i l
   split at q
   .rename_i m
    cases q;rw[bA7]at m;obtain⟨a,rfl,c⟩:=j.ofLst;obtain⟨xs,r,sq⟩:=S.list c l;cases h;obtain⟨its,M,D,U⟩:=I.list sq;obtain⟨B,G⟩:=V8 (A:=X.A.in1) I (by have:X.A.in1.units=X.A.units+1:=rfl;omega) i g m.1 r M m.2
    generalize V:V7 X.K ad H _=f at B G;have F:its.toArray.any f=_:=(show its.toArray.any f=its.any f by simp).trans G
    exact⟨λd=>SeqAt.in_listAt f D.isList (λw C=>B w (by simpa using C)) ⟨.bl _,H,I,rfl,by rw[F];exact d⟩,λ_ d=>SeqAt.notIn_listAt f D.isList (λw C=>B w (by simpa using C)) ⟨.bl _,H,I,rfl,by rw[F];exact d⟩⟩
   .cases q
  .cases q
 .obtain⟨a,xs,e,c,r⟩:=j.ofTup
  cases g;exact(Va I i h e (.inr c.sq) rfl (ZaI r q)).inW
 .obtain⟨a,xs,e,c,r⟩:=j.ofTup
  cases g;exact(Va I i h e (.inr c.sq) rfl (UN r q)).inW
 .obtain⟨a,vs,rfl,c,R,r⟩:=j.ofDct
  cases g;cases q;refine⟨λd=>op_in_dct pQ s O H _ _ v u Q I i h ⟨a,_,Sum.inr _,rfl,rfl,c,?_⟩,λz=>absurd rfl (z _ _)⟩
  rcases Wv r R with⟨w,T,p,n,W⟩|⟨p,n⟩
  .rw[p];rw[n]at d;exact d
  .rw[p];rw[n]at d;exact d
 .obtain⟨o,N,rfl⟩:=dM.mp q
  obtain⟨bb,es,l,t,rfl⟩:=J5 N;obtain⟨a,rfl,c,P⟩:=j.ofDic;obtain⟨xs,⟨r,E⟩,J,_⟩:=S.dict c P l t.1;obtain⟨b,_,rfl,_,_⟩:=id g.ofTup;cases i;cases h
  rcases r.look t.2 with⟨z,T,L,n,_⟩|⟨p,n⟩
  .rw[n]
   have w:=ZdI (X:=X) (Q:=Q) (bb:=true) (by omega) I ⟨J,E,g,t.2,r.keys⟩ ⟨z,L.1,L.2⟩
   exact⟨w.1,λ_=>w.2⟩
  .rw[n]
   have w:=ZdI (X:=X) (Q:=Q) (bb:=false) (by omega) I ⟨J,E,g,t.2,r.keys⟩ p
   exact⟨w.1,λ_=>w.2⟩
 .cases g;cases j;cases q
  exact⟨λd=>op_in_str pQ s O H _ _ v u Q I i h ⟨_,_,rfl,rfl,d⟩,λ_ d=>op_notIn_str pQ s O H _ _ v u Q I i h ⟨_,_,rfl,rfl,d⟩⟩
 .cases q
theorem Zcv(a:Den X.K ad H x dx)(q:isN dx=some k):decide (x=V.non)=k:=by
 cases a<;>cases q<;>rfl
theorem Zgy(I:Inv X pQ O H s)(f:RelV x v)(d:RelV y u)(h:Den X.K ad H x dx)(g:Den X.K ad H y dy)(q:isD dx dy=some k):CW2 X pQ O Q s H .Is .IsNot v u k:=by
 unfold isD at q;split at q
 .cases g
  have z:=Zcv h q;subst z;exact⟨λc=>op_isN pQ s O H _ _ v u Q I f d ⟨rfl,c⟩,λc=>op_notN pQ s O H _ _ v u Q I f d ⟨rfl,c⟩⟩
 .unfold isB at q
  split at q
  .cases q
   cases h;cases g
   cases f;cases d
   have e:∀ a b:Bool,(Value.bool a==Value.bool b)=(a==b):=λa b=>by cases a<;>cases b<;>rfl
   exact⟨λc=>wpAny_is_plain rfl (by rw[e];exact⟨.bl _,H,I,rfl,c⟩),λc=>wpAny_isNot_plain rfl (by rw[e];exact⟨.bl _,H,I,rfl,c⟩)⟩
  .cases q
 .cases q
theorem Wa{f:Int->Int->Bool}(b:Den X.K ad H x dx)(a:Den X.K ad H y dy)(q:Jt f dx dy=some k):∃ i j,x=.int i/\y=.int j/\f i j=k:=by
 unfold Jt at q;split at q
 .cases q;cases b;cases a;exact⟨_,_,rfl,rfl,rfl⟩
 .exact Zc q
theorem Zhn(hu:X.A.units+64 < cLine)(I:Inv X pQ O H s)(b:RelV x v)(a:RelV y u)(S:StOk X.K ad H st)(e:Den X.K ad H x dx)(d:Den X.K ad H y dy)(q:ltS st dx dy=some k)(c:Q (.bl k) H):CW X pQ O Q s .Lt v u:=by
   have q:ltD dx dy=some k:=q;obtain⟨i,j,rfl,rfl,z⟩:=Wa e d q;exact op_lt pQ s O H _ _ v u Q I b a ⟨_,_,rfl,rfl,by cases z;exact c⟩
theorem Vh{o:Ot Bool}(q:o.map not=some k):o=some (!k):=by
 cases o with
 |none=>exact Zc q
 |some a=>cases q;rw[Bool.not_not]
theorem Za8{op a:CmpOp}(h:CW2 X pQ O Q s H op a v u (!k))(b:Q (.bl k) H):CW X pQ O Q s a v u:=h.2 (by rw[Bool.not_not];exact b)
end
theorem QM(hu:X.A.units+64 < cLine){op:CmpOp}:OpR X (compareOp op) (rD X.K (Z3 op)):=by
 intro pQ s O H x y v u Q I b a h;obtain⟨ad,st,dx,dy,d,st',S,g,f,e,p⟩:=h
 change CW X pQ O Q s op v u;unfold Z3 at e;cases q:Xf op dx dy st with
 |none=>rw[q]at e;cases e
 |some k=>
  rw[q]at e;cases e;have c:=p.at S (.bl k);clear p;cases op with
  |Lt=>exact Zhn hu I b a S g f q c
  |LtE=>
   obtain⟨i,j,rfl,rfl,z⟩:=Wa g f q;exact op_le pQ s O H _ _ v u Q I b a ⟨_,_,rfl,rfl,by cases z;exact c⟩
  |Gt=>
   obtain⟨i,j,rfl,rfl,z⟩:=Wa g f q;exact op_gt pQ s O H _ _ v u Q I b a ⟨_,_,rfl,rfl,by cases z;exact c⟩
  |GtE=>
   obtain⟨i,j,rfl,rfl,z⟩:=Wa g f q;exact op_ge pQ s O H _ _ v u Q I b a ⟨_,_,rfl,rfl,by cases z;exact c⟩
  |Eq=>exact(Zgr hu I b a S g f q).1 c
  |NotEq=>exact Za8 (Zgr hu I b a S g f (Vh q)) c
  |In=>exact(Zgw hu I b a S g f q).1 c
  |NotIn=>
   have q:niS st dx dy=some k:=q;unfold niS at q;split at q
   .exact Zc q
   .rename_i l
    exact(Zgw hu I b a S g f (Vh q)).2 l (by rw[Bool.not_not];exact c)
  |Is=>exact(Zgy I b a g f q).1 c
  |IsNot=>exact Za8 (Zgy I b a g f (Vh q)) c
end
variable [ClsTab]
noncomputable def Zj:Expr->Bool
 |.Starred ..=>false
 |.Set ..=>false
 |.Slice ..=>false
 |_=>true
variable{sc:Scope}{N:Li Str}{e:Expr}
theorem Zg{G:Gs}{c:CE}(h:cE G n sc N e=some c):Zj e=true:=by
 cases n with
 |zero=>exact nomatch (show(none:Ot CE)=some c from h)
 |succ n=>cases e<;>first|rfl|exact nomatch (show(none:Ot CE)=some c from h)
variable{env:PySem.Env}
theorem Zf{es:Li Expr}(h:Zj e=true):starEach (e :: es) env=(false,eval e env) :: starEach es env:=by
 cases e<;>first|rfl|cases h
variable{b:Expr}
theorem XW{op:CmpOp}(h:Zj b=true):behindInMarks op b=false:=by
 cases b<;>first|rfl|cases h
theorem V5(h:Zj b=true):PlainIx b:=by
 cases b<;>first | (intro o i;rfl)|cases h
theorem Yr{pos:Pos}{env:PySem.Env}:∀ {es:Li Expr},es.all Zj=true->(backTo pos (starEach es env)).any (·.1)=false
 |[],_=>rfl
 |e :: es,h=>by
  rw[aY,bA7]at h;rw[Zf h.1];show(false||(backTo pos (starEach es env)).any (·.1))=false;rw[Yr h.2];rfl
inductive EsOk(Pm:Params)(K:fG7):List DictEntry->List Str->List D->Prop where
 |nil:EsOk Pm K [] [] []
 |cons {e:DictEntry}{es:List DictEntry}{k:Str}{ks:List Str}{d:D}{ds:List D}{v:V}{t:Tok} (h1:e.hash=PyData.keyHash Pm k) (h2:e.key=.str k t) (h3:RelV v e.val) (h4:∀ ad H,Den K ad H v d) (r:EsOk Pm K es ks ds):EsOk Pm K (e :: es) (k :: ks) (d :: ds)
def Qh(b:Params)(K:fG7)(mg:Str->Ot vL)(x:Str)(ks:Li Str)(ds:Li D):Prop:=
 ∃ A o es a,mg x=some (.ref A)/\K.lookup A=some o/\o.ExactDict/\o.data=.dict es a/\(A==sysModules)=false/\ks.Nodup/\EsOk b K es.toList ks ds
theorem EsOk.open{P:Program}{K:fG7}:∀ {es:Li DictEntry}{ks:Li Str}{ds:Li D},EsOk w.params K es ks ds->∃ kvs:Li (Key×vL),Pairs (mixKind P w) es kvs/\kvs.map (·.1)=ks.map Sum.inr/\(∀ e∈es,∃ k,(mixKind P w).is k e.key=true/\e.hash=(mixKind P w).hash k) /\
  ∀ k d,Yj ks ds k=some d->∃ u v,valueAt kvs (Sum.inr k)=some u/\RelV v u/\∀ ad H,Den K ad H v d
 |_,_,_,.nil=>⟨[],.nil,rfl,(λ_ h=>nomatch h),λk d h=>by simp[Yj]at h⟩
 |e :: es,a :: ks,n :: ds,.cons (v:=v) (t:=t) m l j i r=>by
  obtain⟨kvs,B,A,y,s⟩:=EsOk.open (P:=P) r;have b:(mixKind P w).is (Sum.inr a) e.key=true:=by rw[l];exact mixKind_str P w a t
  refine⟨(Sum.inr a,e.val) :: kvs,.cons b rfl B,by rw[aJ,aJ,A],λx hx=>?_,λk d h=>?_⟩
  .rcases aH.mp hx with rfl|hx
   .exact⟨Sum.inr a,b,m⟩
   .exact y x hx
  .unfold valueAt
   by_cases c:a=k
   .subst c
    have h:Yj (a :: ks) (n :: ds) a=some d:=h;simp only[Yj,if_pos]at h;cases h;exact⟨e.val,v,by simp,j,i⟩
   .have h:Yj ks ds k=some d:=by
     simp only[Yj,if_neg c]at h;exact h
    obtain⟨u,f,q,p,o⟩:=s k d h;refine⟨u,f,?_,p,o⟩;have g:¬(Sum.inr a:Key)=Sum.inr k:=λz=>c (Sum.inr.inj z)
    rw[eG (by simpa using g)]
    exact q
structure SubOk(K:fG7)(C B:Addr):Prop where
 cl:Cls K C
 ha:W.findIn K (.ref C) "__class__"=some (some (.builtin "object.__class__"))
 hn:W.specialIn K (.builtin "object.__class__") "__get__"=some (some (.builtin "getset_descriptor.__get__"))
 ht:W.takesIn K (.builtin "object.__class__")=some true
 hm:W.mroIn K C (.type "object")=some true
 kit:W.kitOne K (.ref C) (.ref B)=some true
structure NewOk(K:fG7)(C:Addr):Prop where
 makes:W.makesIn K C=true
 kp:W.keepIn K (.ref C)=true
 cl:Cls K C
def GOk(P:Program)(w:World)(K:fG7)(mg:Str->Ot vL)(base:Heap)(A:Around)(F:Nat->Fn)(x:Str):GV->Prop
 |.c d=>∃ v u,mg x=some u/\RelV v u/\∀ ad H,Den K ad H v d
 |.blt=>mg x=none
 |.dct ks ds=>Qh w.params K mg x ks ds
 |.cls i h e ds=>mg x=some (.ref (ClsTab.ca i))/\NewOk K (ClsTab.ca i)/\(∀ l,e.contains l=true->SubOk K (ClsTab.ca l) (ClsTab.ca i)) /\
   (∀ m j g,h.lookup m=some (j,g)->∃ (k:Nat) (f:Ad) (fd:FuncData) (pn:Li Str),FnOk P w K mg base CX0 k f fd pn (spD K (F j))/\Room (k+1) A/\Meth K (ClsTab.ca i) m f/\Binds K fd pn [] /\
    (m = "__init__"->ObC K (ClsTab.ca i)/\∀ n,n<=ds.length->∃ a b,(∀ ad H,Dens K ad H a (ds.drop n))/\Vals a b/\Binds K fd pn b)) /\
   (h.lookup ("__init__":Str)=none->W.findIn K (.ref (ClsTab.ca i)) "__init__"=some (some (.builtin "object.__init__")))
 |.fn i g ds=>∃ (k:Nat) (f:Ad) (fd:FuncData) (pn:Li Str),FnOk P w K mg base CX0 k f fd pn (spD K (F i))/\Room k A/\mg x=some (.ref f)/\W.keepIn K (.ref f)=true /\
   ∀ m,m<=ds.length->∃ a b,(∀ ad H,Dens K ad H a (ds.drop m))/\Vals a b/\Binds K fd pn b
structure Cxt(X:Cx)(G:Gs)(F:Nat->Fn)(sc:Scope)(N:List Str):Prop where
 hN:X.N=N
 vis:∀ x,Y2 sc x=true->Vis X.env.scope x
 glb:∀ x,ZA sc x=true->Gl X x
 calm:X.calm=true
 hu:X.A.units+64 < cLine
 gl:∀ x g,G.lookup x=some g->GOk X.prog X.w X.K X.mg X.base X.A F x g
 cel:∀ x,Ws sc x=true->X.env.scope.names.lookup x=some .cell\/X.env.scope.names.lookup x=some .free
 nx:X.xe=λ_ _=>False
variable{i:Nat}
theorem Xo{x:Str}(h:N.idxOf? x=some i):N[i]?=some x:=by
 unfold List.idxOf? at h
 rw[List.findIdx?_eq_some_iff_getElem]at h;obtain⟨hi,a,_⟩:=h;rw[lG7 hi];rw[beq_iff_eq.mp a]
theorem Ve{x:Str}(h:Y2 sc x=true):(x==("__debug__":Str))=false/\(x==("__classdict__":Str))=false:=by
 unfold Y2 at h;rw[bA7,bA7,cY,cY]at h;exact h.1
theorem YM{x:Str}(h:ZA sc x=true):(x==("__debug__":Str))=false:=by
 unfold ZA at h;rw[bA7,cY]at h;exact h.1
variable{a:Expr}{fa:Ev}{pos:Pos}{U:Env}{st':Za}
variable{F:Nat->Fn}
theorem ZgK{f:Ev}(h:PE X e (tE X.K f))(b:∀ a,isTrue e X.env a=(do let v <-a;standAt e.pos;holding [v] (truthy v)):=by intro _;rfl):PT X e (tT X.K f):=WC (pt_val h b) ZaG
theorem Ze9{c:Expr}{v w:Ev}(z:PT X c (tT X.K v))(B:PT X a (tT X.K fa))(A:PT X b (tT X.K w)):PT X (.IfExp c a b pos) (tT X.K (YB v fa w)):=by
 intro pQ s O H Q I h;obtain⟨ad,U,st,d,st',E,S,e,p⟩:=h;obtain⟨k,g,q,e⟩:=Ye e;show wpAny _ _ (isTrue c X.env (eval c X.env) >>= λt=>if t then isTrue a X.env (eval a X.env) else isTrue b X.env (eval b X.env)) _ _ s
 refine aA (thn (z pQ s O H (λy l=>y=k/\∃ f,Ext ad H f l/\StOk X.K f l g) I ⟨ad,U,st,k,g,E,S,q,λf l j m=>⟨rfl,f,j,m⟩⟩) λt u ⟨l,x,C,f,j,m⟩=>?_)
 subst C;cases t with
 |true=>
  rw[if_pos rfl]at e ⊢;exact B pQ u O l Q x ⟨f,U,g,d,st',E.mono j,m,e,λi r n o=>p i r (j.trans n) o⟩
 |false=>
  rw[if_neg bF7]at e ⊢;exact A pQ u O l Q x ⟨f,U,g,d,st',E.mono j,m,e,λi r n o=>p i r (j.trans n) o⟩
def Uy:CE->Prop
 |.aN=>True
 |.aC _ _=>True
 |_=>False
theorem WZ{c:CE}(h:Uy c)(e:ev F c U st=some (d,st')):∃ ds,d=.tup ds/\ds.length<=1000:=by
 cases c with
 |aN=>cases e;exact⟨[],rfl,by decide⟩
 |aC a r=>
  have e:Zw (ev F a) (ev F r) Xg U st=some (d,st'):=e;unfold Zw at e;split at e
  .split at e
   .rename_i y b _
    cases y with
    |tup f=>
     have e:(if f.length < 1000 then some (D.tup (_ :: f),b) else none)=some (d,st'):=e
     split at e
     .rename_i g
      cases e;exact⟨_,rfl,g⟩
     .exact Zc e
    |_=>simp[Xg]at e
   .exact Zc e
  .exact Zc e
 |_=>exact False.elim h
structure SE(X:Cx)(F:Nat->Fn)(e:Expr)(c:CE):Prop where
 pe:PE X e (tE X.K (ev F c))
 pt:PT X e (tT X.K (ev F c))
theorem SE.of{c:CE}(h:PE X e (tE X.K (ev F c)))(b:∀ a,isTrue e X.env a=(do let v <-a;standAt e.pos;holding [v] (truthy v)):=by intro _;rfl):SE X F e c:=⟨h,ZgK h b⟩
theorem Ul{op:BoolOp}{es:Li Expr}{t:TT}(h:PT X (.BoolOp op es pos) t):PW X (.BoolOp op es pos) t:=λ_ pQ s O H Q I q=>h pQ s O H Q I q
variable [ClsTab]
theorem VD:bootBuiltins "tuple"=some (.type "tuple"):=by decide +kernel
theorem Qp:bootBuiltins "list"=some (.type "list"):=by decide +kernel
theorem Zen:bootBuiltins "int"=some (.type "int"):=by decide +kernel
theorem ZbZ:bootBuiltins "bool"=some (.type "bool"):=by decide +kernel
theorem Zer:bootBuiltins "str"=some (.type "str"):=by decide +kernel
theorem Zeq:bootBuiltins "min"=some (.builtin "min"):=by decide +kernel
theorem Zep:bootBuiltins "max"=some (.builtin "max"):=by decide +kernel
theorem WF:bootBuiltins "isinstance"=some (.builtin "isinstance"):=by decide +kernel
theorem Zeo:bootBuiltins "len"=some (.builtin "len"):=by decide +kernel
variable{f m:Str}{as:Li Expr}{cs:CE}{es:Array DictEntry}{ap cp:Pos}{ms:Li (Str×Nat×Nat)}{subs:Li Nat}{o ob:Expr}{j:Nat}
variable{G:Gs}
section
def Zo(G:Gs)(F:Nat->Fn)(n:Nat):Prop:=∀ X sc N,Cxt X G F sc N->∀ e c,cE G n sc N e=some c->SE X F e c
def Yz(G:Gs)(F:Nat->Fn)(n:Nat):Prop:=∀ X sc N,Cxt X G F sc N->∀ es c,cEs G n sc N es=some c->PA X es (tA X.K (ev F c))/\Uy c/\es.all Zj=true/\(es=[]->c=.aN)
def WY(G:Gs)(F:Nat->Fn)(n:Nat):Prop:=∀ X sc N,Cxt X G F sc N->∀ e c,cO G n sc N e=some c->PO X e (tO X.K (ev F c))
theorem Zbr{v:Const}{k:Nat}{c:CE}(h:CE.ofConst v=some c):SE X F (.Constant v k pos) c:=by
 cases v with
 |none=>cases h;exact .of (Zs pe_non (VW λ_ _=>.non))
 |bool b=>cases h;exact .of (Zs pe_bl (VW λ_ _=>.bl b))
 |int i=>cases h;exact .of (Zs pe_int (VW λ_ _=>.int i))
 |str x=>cases h;exact .of (Zs pe_str (VW λ_ _=>.str x))
 |_=>exact Zc h
theorem Zc5{x:Str}{c:CE}(K:Cxt X G F sc N)(h:Za4 G sc N x=some c):SE X F (.Name x pos) c:=by
 unfold Za4 at h;split at h
 .rename_i a
  cases q:N.idxOf? x with
  |none=>rw[q]at h;cases h
  |some i=>
   rw[q]at h;cases h;obtain⟨j,g⟩:=Ve a;exact .of (Zs (pe_var (i:=i) (by rw[K.hN];exact Xo q) (K.vis x a) j g) QB)
 .split at h
  .rename_i b
   split at h
   .rename_i d q
    cases h;obtain⟨v,u,e,r,f⟩:=K.gl x _ q;exact .of (Zs (pe_glob (K.glb x b) e r (YM b)) (VW f))
   .exact Zc h
  .exact Zc h
theorem pa1{t:TE}(b:Zj a=true)(c:PE X a t):PA X [a] (tCons t tNil):=pa_cons c pa_nil (Zf b)
theorem pa2{t u:TE}(d:Zj a=true)(c:Zj b=true)(f:PE X a t)(e:PE X b u):PA X [a,b] (tCons t (tCons u tNil)):=pa_cons f (pa1 c e) (Zf d)
theorem ZcY{x c:CE}{p:Pos}(K:Cxt X G F sc N)(i:ZA sc f=true)(d:X.mg f=none)(b:Zj a=true)(A:PE X a (tE X.K (ev F x)))(h:Zel f x=some c) :
  PE X (.Call (.Name f p) [a] [] pos) (tE X.K (ev F c)):=by 
 have g:=K.glb f i;unfold Zel at h;split at h
 .rename_i e;subst e;cases h
  exact Zs (pe_callB Q2 g d Zeo (pa1 b A) (by decide) (by decide) (Zf b) rfl) Wq
 .split at h
  .rename_i e;subst e;cases h
   exact Zs (pe_callTy VF g d VD (pa1 b A) (by decide) (by decide) (Zf b) rfl) Wq
  .split at h
   .rename_i e;subst e;cases h
    exact Zs (pe_callTy UI g d Qp (pa1 b A) (by decide) (by decide) (Zf b) rfl) Wq
   .exact Zc h
theorem ZbW(a:Zj b=true):(backTo pos (starEach [b] X.env)).any (·.1)=false:=Yr (by rw[aY,a];rfl)
theorem ZcZ{x y c:CE}{p:Pos}(K:Cxt X G F sc N)(k:ZA sc f=true)(i:X.mg f=none)(g:Zj a=true)(d:Zj b=true)(A:PE X a (tE X.K (ev F x)))(B:PE X b (tE X.K (ev F y)))(h:Zem f x y=some c):PE X (.Call (.Name f p) [a,b] [] pos) (tE X.K (ev F c)):=by
 have j:=K.glb f k;unfold Zem at h;split at h
 .rename_i e;subst e;cases h
  exact Zs (pe_callB (Q4 K.calm) j i Zeq (pa2 g d A B) (by decide) (by decide) (Zf g) (ZbW d)) VV
 .split at h
  .rename_i e;subst e;cases h
   exact Zs (pe_callB (Q3 K.calm) j i Zep (pa2 g d A B) (by decide) (by decide) (Zf g) (ZbW d)) VV
  .exact Zc h
theorem Zck{K:fG7}{T:Ty}(O:L2.St)(H:Hp)(Q:VK)(h:tE K (Zq fa (ZaP T)) O H Q) :
  tCB (λvs H Q=>∃ v,vs=[v,.ty (tyN T)]/\rC K (on1 (ZaP T)) [v] H Q) (tCons (tE K fa) (tCons (tC (.ty (tyN T))) tNil)) O H Q:=by
 obtain⟨ad,U,st,d,st',E,S,e,p⟩:=h;unfold Zq at e;split at e
 .rename_i x a g
  exact⟨ad,U,st,x,a,E,S,g,λf b k c j i=>⟨f,rfl,b,a,[x],d,st',j,.cons i .nil,e,p.later c⟩⟩
 .exact Zc e
theorem ZbH{T:Ty}(K:Cxt X G F sc N)(h:QU G sc b=some T):Zj b=true/\PE X b (tC (.ty (tyN T))):=by
 cases b with
 |Name t p=>
  have a:ZfX G sc t=some T:=h;clear h;unfold ZfX at a;split at a
  .rename_i f
   rw[bA7]at f;have c:X.mg t=none:=by
    have z:=f.2;unfold QE at z;split at z
    .rename_i q;exact K.gl t _ q
    .cases z
   have d:=K.glb t f.1;refine⟨rfl,?_⟩;unfold ZgW at a;split at a
   .rename_i e;subst e;cases a
    exact pe_bltn d c Zen rfl
   .split at a
    .rename_i e;subst e;cases a
     exact pe_bltn d c ZbZ rfl
    .split at a
     .rename_i e;subst e;cases a
      exact pe_bltn d c Zer rfl
     .split at a
      .rename_i e;subst e;cases a
       exact pe_bltn d c VD rfl
      .exact Zc a
  .exact Zc a
 |_=>simp[QU]at h
theorem ZfF{x:CE}{T:Ty}{p:Pos}(K:Cxt X G F sc N)(f:ZA sc "isinstance"=true)(e:X.mg "isinstance"=none)(d:Zj a=true)(A:PE X a (tE X.K (ev F x)))(g:QU G sc b=some T) :
  PE X (.Call (.Name "isinstance" p) [a,b] [] pos) (tE X.K (ev F (.isi T x))):=by
 obtain⟨c,B⟩:=ZbH K g;exact Zs (pe_callB (JZ (T:=T)) (K.glb _ f) e WF (pa2 d c A B) (by decide) (by decide) (Zf d) (ZbW c)) Zck
theorem Zc1{a:Nat}{p:Pos}(K:Cxt X G F sc N)(c:ZA sc f=true)(t:G.lookup f=some (.fn i a ds))(hl:as.length<=a/\a<=as.length+ds.length)(A:PA X as (tA X.K (ev F cs))/\Uy cs/\as.all Zj=true/\(as=[]->cs=.aN)):PE X (.Call (.Name f p) as [] pos) (tE X.K (ev F (.call i cs (ds.drop (as.length+ds.length - a))))):=by
 obtain⟨k,fa,fd,w,q,l,m,n,s⟩:=K.gl f _ t;obtain⟨u,v,o,j,b⟩:=s (as.length+ds.length - a) (by omega)
 obtain⟨g,_,d,r⟩:=A;cases as with
 |nil=>
  refine Zs (pe_call0 (E:=E0) q l (K.glb f c) m n b j pass0 (YM c)) λO H Q h=>?_
  rw[r rfl]at h;exact VU O H _ (VX (E:=E0) o O H Q h)
 |cons e es=>
  rw[aY,bA7]at d;exact Zs (pe_call (E:=E0) q l (K.glb f c) m n b j pass0 g (YM c) (Zf d.1) (Yr d.2)) (VX o)
theorem W5{nm:Str}(K:Cxt X G F sc N)(h:fnA G sc nm b=some as):∃ p pos,b=.Call (.Name nm p) as [] pos/\Gl X nm/\X.mg nm=none:=by
 obtain⟨q,a,g⟩:=cP.mp h;refine Yq g λe f=>?_
 obtain⟨rfl,d,c⟩:=e;cases f;unfold ZdA at a;split at a
 .cases a
  refine⟨_,_,rfl,K.glb _ d,?_⟩;unfold QE at c;split at c
  .rename_i q;exact K.gl _ _ q
  .cases c
 .cases a
theorem QL(h:Ze5 as=some a):as=[a]:=by
 cases as with
 |nil=>exact Zc h
 |cons x as=>cases as with
  |nil=>cases h;rfl
  |cons _ _=>exact Zc h
theorem WJ(K:Cxt X G F sc N)(h:ZU G sc b=some e):∃ p pos,b=.Call (.Name "range" p) [e] [] pos/\Gl X "range"/\X.mg "range"=none:=by
 obtain⟨as,a,c⟩:=cP.mp h;rw[QL c]at a;exact W5 K a
theorem ZfD{x y:CE}{op:CmpOp}{c:Bool}(K:Cxt X G F sc N)(g:ZU G sc b=some e)(d:ZeN op=some c)(f:Zj e=true)(A:PE X a (tE X.K (ev F x)))(B:PE X e (tE X.K (ev F y))):SE X F (.Compare a [op] [b] pos) (.inR c x y):=by cases d
theorem ZfJ{o:Ot CE}{c:CE}{p:Pos}(K:Cxt X G F sc N)(g:ZA sc f=true)(d:X.mg f=none)(b:Qa G sc f a=some e)(B:∀ c,o=some c->Zj e=true/\PE X e (tE X.K (ev F c)))(h:o.map CE.tupR=some c):SE X F (.Call (.Name f p) [a] [] pos) c:=by cases b
def rLk(K:fG7)(A:Ad)(ks:Li Str)(ds:Li D):R2:=λx y H Q=>x=.ref A/\∃ k d,y=.str k/\Yj ks ds k=some d/\∀ v,(∀ ad H,Den K ad H v d)->Q v H
theorem ZgA{A:Ad}{o:Obj}{f:Nat}{ks:Li Str}(m:X.K.lookup A=some o)(ex:o.ExactDict)(hd:o.data=.dict es f)(D:(A==sysModules)=false)(nd:ks.Nodup)(B:EsOk X.w.params X.K es.toList ks ds):IxR X (rLk X.K A ks ds):=by
 intro a slice pQ s O H x y v u Q I j i h t;obtain⟨rfl,k,d,rfl,c,q⟩:=h;cases j;obtain⟨kvs,l,n,p,val⟩:=B.open (P:=X.prog);have g:s.heap.DictOf (mixKind X.prog X.w) A kvs:=by
  refine⟨o,es,f,I.kIn A o m,ex,hd,λe c=>p e (by simpa using c),l,?_⟩
  rw[n];exact List.pairwise_map.mpr (nd.imp λh z=>h (Sum.inr.inj z))
 obtain⟨w,z,r,b,C⟩:=val k d c;exact tail_any g.typeIs PySem.F.slot_dict_getitem.lookup (wpAny_getItem_of (kV_is (k:=Sum.inr k) i) g.mapOf r ⟨z,H,I.tok _,b,q z C⟩) t
theorem ZaB{K:fG7}{A:Ad}{ks:Li Str}(O:L2.St)(H:Hp)(Q:VK)(h:tE K (Zq fa (ZaZ ks ds)) O H Q):tOp (rLk K A ks ds) (tC (.ref A)) (tE K fa) O H Q:=by
 obtain⟨ad,U,st,d,st',E,S,e,p⟩:=h;unfold Zq at e;split at e
 .rename_i x f g
  unfold ZaZ at e;split at e
  .rename_i k
   split at e
   .rename_i n i
    cases e;exact⟨ad,U,st,.str k,_,E,S,g,λv a b c m l=>⟨rfl,k,d,l.ofStr,i,λw j=>p w a b c m (j a b)⟩⟩
   .exact Zc e
  .exact Zc e
 .exact Zc e
theorem EntN.ks{K:fG7}{xs:Li (D×Ad×Ad)}(r:EntN K ad H xs ds):Dens K ad H (xs.map λx=>V.ref x.2.1) (ds.filterMap ZeS):=by
 induction r with
 |nil=>exact .nil
 |cons h _ _ _ a=>exact .cons h a
theorem WR:∀ {xs:Li (D×Ad×Ad)}{b:Li vL},b.length=xs.length->(∀ (i:Nat) (v:vL),b[i]?=some v->∃ x:D×Ad×Ad,xs[i]?=some x/\v=.ref x.2.1)->Vals (xs.map λx=>V.ref x.2.1) b
 |[],[],_,_=>.nil
 |x :: xs,u :: b,a,h=>by
  refine .cons ?_ (WR (Nat.succ.inj a) λi v e=>h (i+1) v e)
  obtain⟨y,e,rfl⟩:=h 0 u rfl;cases e;rfl
 |[],_ :: _,a,_=>nomatch a
 |_ :: _,[],a,_=>nomatch a
theorem Zc2{q:Expr}{x:CE}{p:Pos}(K:Cxt X G F sc N)(hg:ZA sc f=true)(hm:X.mg f=none)(u:X8 f a=some q)(A:PE X q (tE X.K (ev F x))):PE X (.Call (.Name f p) [a] [] pos) (tE X.K (ev F (.srt x))):=by
 unfold X8 at u;split at u
 .rename_i L
  subst L;unfold ZdK at u;split at u
  .rename_i y Z m ap cp
   refine Yq u λhc T=>?_
   obtain⟨rfl,t⟩:=hc;cases Option.some.inj T
   intro pQ s O H Q I h;obtain⟨ad,U,st,d,st',En,S,e,pq⟩:=h;have e:Zq (ev F x) Zbz U st=some (d,st'):=e;unfold Zq at e;split at e
   .rename_i d1 B q1
    unfold Zbz at e;split at e
    .rename_i l0
     split at e
     .rename_i b0 ds q2
      split at e
      .rename_i P
       cases e;have hs:starEach [.Call (.Attribute (.Name y Z) "keys" ap) [] [] cp] X.env=[(false,eval (.Call (.Attribute (.Name y Z) "keys" ap) [] [] cp) X.env)]:=Zf rfl;refine Call_ (ld_blt I (K.glb _ hg) hm Qp (PyProof.Rows.callWith_type1 ?_ hs rfl));rw[hs];refine Calls.spliced_cons (wpAny_Call_method0_late rfl t (thn (A pQ s O H (λv j=>∃ c l xs,v=.ref l/\Ext ad H c j/\StOk X.K c j B/\EntN X.K c j xs ds/\j l=some (.dN (Z4 xs))) I ⟨ad,U,st,_,B,En,S,q1,λv1 c j M J d1=>?_⟩) λv r ⟨z,j,I1,r1,c,l,xs,ez,M,J,C,R⟩=>?_))
       .obtain⟨l,rfl,hl,n⟩:=d1.ofDic
        obtain⟨xs,⟨C,_⟩,R,_⟩:=J.dict hl n q2 P.1;exact⟨c,l,xs,rfl,M,J,C,R⟩
       .subst ez
        cases r1;obtain⟨hd,o,es,h1,h2,h3,he⟩:=(show ObjOk X.prog X.w j r.heap l (.dN (Z4 xs)) from I1.hok l _ R);have g:Raw r.heap l es es.size:=⟨o,h1,h2,h3⟩;have D:es.size=xs.length:=by rw[<-cF,he];unfold Z4;rw[aD]
        refine⟨"dict", "dict.keys",PySem.F.plainAttrs_dict,PySem.F.slot_dict_keys,PySem.F.type_dict_keys,g.typeIs,λb z=>by cases z;exact⟨o,h1,h2.2.1⟩,Calls.callWith_builtin rfl (PySem.evalArgs_none ?_)⟩
        refine call_meetsIn PySem.F.slot_dict_keys g.typeIs PySem.F.entry_dict_keys (PySem.F.args_dict_keys_1 _) (UV (es:=es) (ep:=es.size) hd) ⟨g,?_⟩;have Y:L2.Inv X pQ O j { r with heap:=r.heap.push { cls:=.type "dict_keys",data:=.fields #[.ref l] } }:=I1.kept (t':=r.toks) λb o e=>aQ _ e
        refine Calls.spliced_nil (W.kdl_call (s:={ r with heap:=r.heap.push { cls:=.type "dict_keys",data:=.fields #[.ref l] } }) (Zby (d:=l) (es:=es) (ep:=es.size)) (Y.ok.hd K.calm) ⟨⟨_,aW _ rfl,rfl,rfl⟩,g.at λo e=>aQ _ e⟩ (by rw[D,C.length];exact aK P.2 ZV) λh' tk E c' hk hS k=>?_)
        have hv:Vals (xs.map λx=>V.ref x.2.1) E.toList:=by
         refine WR (by rw[cF,k.1,D]) λi v e=>?_
         obtain⟨en,e1,e2⟩:=k.2 i v (by rw[<-e];simp)
         have z:es.toList[i]?=some en:=by rw[Array.getElem?_toList];exact e1
         rw[he]at z;unfold Z4 at z;rw[aS]at z;obtain⟨w,hw,ew⟩:=dM.mp z;exact⟨w,hw,by rw[e2,<-ew]⟩
        have L:=Y.hok.fresh (aF _);refine⟨.ref _,upd j _ (.lst (xs.map λx=>V.ref x.2.1)),Y.laid (t':=tk) hk (aF _) (show ObjOk X.prog X.w _ _ _ (.lst _) from⟨?_,E.toList,c',hv,?_⟩),rfl,pq _ (c++[_]) _ (M.trans (Ext.push L)) (J.push L C.ks) (.newL ?_)⟩
        .rw[aD,C.length];exact aK P.2 ZV
        .rw[Array.toArray_toList]
         exact hS
        .rw[<-J.len]
         exact Zz
      .exact Zc e
     .exact Zc e
    .exact Zc e
   .exact Zc e
  .exact Zc u
 .exact Zc u
theorem Zc4{u v:Expr}{x y:CE}{p:Pos}(K:Cxt X G F sc N)(e:ZA sc f=true)(d:X.mg f=none)(b:UT G sc f a=some (u,v))(hu:Zj u=true)(c:Zj v=true)(A:PE X u (tE X.K (ev F x)))(B:PE X v (tE X.K (ev F y))):PE X (.Call (.Name f p) [a] [] pos) (tE X.K (ev F (.lstR x y))):=by cases b
theorem Zc3{y:CE}{ks:Li Str}(K:Cxt X G F sc N)(c:QG G sc a=some (ks,ds))(h:Zj b=true)(B:PE X b (tE X.K (ev F y))):PE X (.Subscript a b pos) (tE X.K (ev F (.look ks ds y))):=by
 unfold QG at c;split at c
 .split at c
  .rename_i d
   split at c
   .rename_i q
    cases c;obtain⟨A,o,es,l,i,f,ex,j,g,e,k⟩:=K.gl _ _ q;exact Zs (pe_ix (ZgA f ex j g e k) (pe_glob (K.glb _ d) i (show RelV (.ref A) (.ref A) from rfl) (YM d)) B (V5 h)) ZaB
   .exact Zc c
  .exact Zc c
 .exact Zc c
theorem ZgU{a:Nat}{ks:Li D}{z:D}(h:sdD a ks z st=some (d,st')):∃ b ds,(st[a]?=some (b,ds)/\Yh ds=false/\okN 8 (.tup ks)=true/\Xp z=true)/\((ZR ds (.tup ks)=some d/\st'=st)\/(ZR ds (.tup ks)=none/\d=z/\dput a (.tup ks) z st=some st')):=by
 unfold sdD at h;have m:∀ {o},dAt ks a st=some o->∃ b ds,(st[a]?=some (b,ds)/\Yh ds=false/\okN 8 (.tup ks)=true)/\ZR ds (.tup ks)=o:=λ{o} q=>by
  unfold dAt at q;split at q
  .rename_i b ds c
   split at q
   .rename_i l
    cases q;exact⟨b,ds,⟨c,l.1,l.2⟩,rfl⟩
   .exact Zc q
  .exact Zc q
 split at h
 .rename_i v q
  obtain⟨b,ds,⟨j,i,g⟩,f⟩:=m q;split at h
  .rename_i e
   cases h;exact⟨b,ds,⟨j,i,g,e⟩,.inl ⟨f,rfl⟩⟩
  .exact Zc h
 .rename_i q
  obtain⟨b,ds,⟨j,i,g⟩,f⟩:=m q;split at h
  .rename_i n k
   cases h;obtain⟨_,_,⟨⟨_,e⟩,_⟩,_⟩:=W3 k;exact⟨b,ds,⟨j,i,g,e⟩,.inr ⟨f,rfl,k⟩⟩
  .exact Zc h
 .exact Zc h
theorem ZeL{K:fG7}{fk fd:Ev}(O:L2.St)(H:Hp)(Q:VK)(h:tE K (sdV fa fk fd) O H Q):tBM K "dict" (rSd K) (tE K fa) (tCons (tE K fk) (tCons (tE K fd) tNil)) O H Q:=by
 obtain⟨ad,U,st,d,st',E,S,e,p⟩:=h;unfold sdV at e;split at e
 .rename_i a o q1
  split at e
  .rename_i b1 ds1 c1
   split at e
   .rename_i v
    split at e
    .rename_i ks m q2
     split at e
     .rename_i z u q3
      obtain⟨b3,ds,⟨I,ob,ok,tp⟩,hq⟩:=ZgU e;refine⟨ad,U,st,_,o,E,S,q1,λv1 L H1 s Y d1=>?_⟩
      obtain⟨l,rfl,F,n⟩:=d1.ofDic;obtain⟨Z,_,B,_⟩:=Y.dict F n c1 v;refine⟨.inr (.inr (.inl ⟨rfl,.inr ⟨_,B⟩⟩)),L,U,o,_,m,E.mono s,Y,q2,λv2 J H2 T S2 d2=>⟨J,U,m,_,u,E.mono (s.trans T),S2,q3,λv3 c N R M t=>?_⟩⟩
      have k:=d2.mono R;obtain⟨b,_,rfl,_,_⟩:=k.ofTup;obtain⟨g,rfl⟩:∃ g,v3=.ref g:=by
       cases z with
       |tup es=>obtain⟨g,_,z,_,_⟩:=t.ofTup;exact⟨g,z⟩
       |lst i=>obtain⟨g,z,_⟩:=t.ofLst;exact⟨g,z⟩
       |_=>cases tp
      have f:=T.trans R;have j:=f.pre _ _ F;obtain⟨xs,⟨r,W⟩,C,_⟩:=M.dict j ((f.kd _ _ F).mp n) I ob;refine⟨l,b,g,xs,.tup ks,c,⟨rfl,rfl⟩,⟨C,W,k,ok,r.keys⟩,?_⟩;rcases hq with⟨G,rfl⟩|⟨G,rfl,e2⟩
      .rcases r.look ok with⟨y,d',⟨A,ey⟩,q,dv⟩|⟨_,q⟩
       .rw[G]at q;cases q
        exact .inl ⟨y,A,ey,p _ c N (s.trans f) M dv⟩
       .rw[G]at q;cases q
      .obtain⟨ds',V,⟨_,hz,hn⟩,rfl⟩:=W3 e2
       rw[I]at V;cases V
       have X:=r.any ok hn;have P:∀ fs,Ext c N c (upd N l (.dN fs)):=λfs=>Ext.writeM C rfl rfl (aU j)
       refine .inr ⟨X,by rw[r.length];exact aT hz (by decide),?_⟩
       refine p _ c _ (s.trans (f.trans (P _))) (M.writeD j I C (r.snoc k ok t) ?_) (t.mono (P _));rw[aX,cM];refine⟨W,bO.mpr ⟨(λh=>nomatch h),cW⟩,λx hx y A e=>?_⟩
       rw[aO.mp (show y∈[Dp.D.tup ks] from A)]at e;obtain⟨z,w,rfl⟩:=aR.mp hx;exact X z w e
     .exact Zc e
    .exact Zc e
   .exact Zc e
  .exact Zc e
 .exact Zc e
theorem ZgR{u:Str}{x y z:CE}{up:Pos}(K:Cxt X G F sc N)(c:(ap.endLine==cp.line)=true)(e:Zj a=true)(d:Zj b=true)(D:PE X (.Name u up) (tE X.K (ev F x)))(A:PE X a (tE X.K (ev F y)))(B:PE X b (tE X.K (ev F z))) :
  PE X (.Call (.Attribute (.Name u up) "setdefault" ap) [a,b] [] cp) (tE X.K (ev F (.dget x y z))):=by
 refine Zs (pe_bm PySem.F.plainAttrs_dict PySem.F.slot_dict_setdefault PySem.F.type_dict_setdefault (ZgF (by have:=K.hu;omega)) D (pa2 e d A B) rfl ?_ c (Zf e) (ZbW d)) ZeL
 rw[Zf e,Zf d];rfl
theorem Za2{K:fG7}{C:Ad}{s:sH7}{R:Result->sH7->Prop}(X:K.In s.heap)(k:W.makesIn K C=true)(hi:W.findIn K (.ref C) "__init__"=some (some (.builtin "object.__init__")))(h:R (.ok (.ret (.ref (s.heap.objs.size+1)))) { s with heap:=(s.heap.push W.emptyDict).push (W.instObj C s.heap.objs.size) }):codeAny (model prog w) A (.call (.ref C) ⟨[],[]⟩) R s:=by
 obtain⟨a,g,d,t,l⟩:=s;have Y:=W.makes_of (M:=model prog w) X k;have j:((a.push W.emptyDict).push (W.instObj C a.objs.size)).get? (a.objs.size+1)=some (W.instObj C a.objs.size):=by
  have:=aW (a.push W.emptyDict) (o:=W.instObj C a.objs.size) rfl
  rwa [Heap.size_push]at this
 refine W.make_core Y (W.looks_findIn X hi) (λc=>W.Looks.of_pure (W.oi_bind c)) (.inr ⟨rfl,rfl⟩) ?_
 have i:W.Looks (model prog w) ((a.push W.emptyDict).push (W.instObj C a.objs.size)) (typeOf (.ref (a.objs.size+1))) (.ref C):=(W.Looks.ld j).andThen .now;have f:W.Looks (model prog w) ((a.push W.emptyDict).push (W.instObj C a.objs.size)) (isInstance (.ref (a.objs.size+1)) (.type "object")) true:=i.andThen (Y.top.keeps λb o e=>aQ _ (aQ _ e))
 refine codeAny_call_builtin W.oi_plain W.entry_oi (@W.check_slot (model prog w) _ _ _ "object.__init__" "object" "__init__" (.ref (a.objs.size+1)) [] [] _ W.oi_kind W.oi_split f (W.oi_args (.ref (a.objs.size+1))) ?_);rw[W.oi_run];exact aB (And.intro rfl h)
theorem Wp{s:sH7}(I:L2.Inv X pQ O H s)(S:StOk X.K ad H st){a:Ad}(h:s.heap.objs.size<=a):a∉ad:=λb=>by
 obtain⟨i,hi⟩:=List.getElem?_of_mem b;rcases S.has hi with⟨o,q⟩|⟨o,q⟩
 .rw[I.hok.fresh h]at q;cases q
 .exact absurd (aL (I.kIn a o q)) (Nat.not_lt.mpr h)
theorem ZfG{p:Pos}(K:Cxt X G F sc N)(c:ZA sc f=true)(l:G.lookup f=some (.cls i ms subs ds))(hi:ms.lookup ("__init__":Str)=none):PE X (.Call (.Name f p) [] [] pos) (tE X.K (ev F (.new i))):=by
 obtain⟨k,b,_,_,a⟩:=K.gl f _ l;intro pQ s O H Q I h;obtain⟨ad,U,st,d,st',E,S,e,q⟩:=h;have e:some (D.obj i,st)=some (d,st'):=e;cases e;refine wpAny_Call_Name_kw (ld_glob I (K.glb f c) k ?_ (YM c));refine W.callWith_K0 I.kIn b.kp (wpAny_call (Za2 I.kIn b.makes (a hi) ?_));have j:H s.heap.objs.size=none:=I.hok.fresh (aF _);have g:upd H s.heap.objs.size (.own (s.heap.objs.size+1)) (s.heap.objs.size+1)=none:=by
  rw[upd_ne (dD (bN _))];exact I.hok.fresh (cH _)
 exact⟨.ref (s.heap.objs.size+1),_,I.made,rfl,q _ ad _ ((Ext.laid j).trans (Ext.laidN g (Wp I S (cH _)))) ((S.laid j).laidN g (Wp I S (cH _))) (.obj upd_same (Wp I S (cH _)))⟩
theorem ZfE{x:CE}{l:Li Nat}{p:Pos}(K:Cxt X G F sc N)(f:ZA sc "isinstance"=true)(e:X.mg "isinstance"=none)(d:Zj a=true)(A:PE X a (tE X.K (ev F x)))(c:UK G sc b=some l) :
  PE X (.Call (.Name "isinstance" p) [a,b] [] pos) (tE X.K (ev F (.isc l x))):=by cases c
theorem ZgC{α:Type}:∀ {us:Li α},us.length=1->∃ a,us=[a]
 |[a],_=>⟨a,rfl⟩
theorem WO(h:as.all Zj=true)(hl:as.length < 20):((backTo pos (starEach as env)).all (λx=>!x.1)&&(backToKw pos (keywordEach [] env)).all (λx=>x.1.isSome)
  &&decide (as.length+([]:Li Keyword).length+(if ([]:Li Keyword).isEmpty then 0 else 1) < 30))=true:=by
 have a:=Yr (pos:=pos) (env:=env) h;have b:(backTo pos (starEach as env)).all (λx=>!x.1)=true:=by
  rw[bU];intro x c;have:=List.any_eq_false.mp a x c;simpa using this
 rw[b,aG (show as.length+([]:Li Keyword).length+(if ([]:Li Keyword).isEmpty then 0 else 1) < 30 by simp;omega)]
 rfl
theorem ZcI{a:Str}{b:Pos}{args:Li Expr}{Q:vL->sH7->Prop}{s:sH7}(i:attributeBase o a X.env (eval o X.env)=eval o X.env)(m:((backTo pos (starEach args X.env)).all (λx=>!x.1)&&(backToKw pos (keywordEach [] X.env)).all (λx=>x.1.isSome)&&decide (args.length+([]:Li Keyword).length+(if ([]:Li Keyword).isEmpty then 0 else 1) < 30))=true)(f:(b.endLine==pos.line)=true)(h:wpAny (model X.prog X.w) X.A (eval o X.env) (λp d=>∀ q,wpAny (model X.prog X.w) X.A (getMethod p a q) (λn c=>wpAny (model X.prog X.w) X.A (callWith pos n.1 n.2 (backTo pos (starEach args X.env)) (backToKw pos (keywordEach [] X.env))) Q X.xe c) X.xe d) X.xe s) :
  wpAny (model X.prog X.w) X.A (eval (.Call (.Attribute o a b) args [] pos) X.env) Q X.xe s:=by
 rw[arm_eval_Call,i];refine aA (bJ h (λp d k=>?_) λ_ _ e=>e)
 refine aA (wpAny_standAt ?_);have g:methodCallForm (args.length+([]:Li Keyword).length) (backTo pos (starEach args X.env)) (backToKw pos (keywordEach [] X.env))=true:=m;have l:methodCallPos true o X.env b pos=pure pos:=by unfold methodCallPos;simp[f]
 unfold methodCall;rw[g];refine aA (wpAny_holding ?_);exact bJ (k _) (λn c j=>aA (wpAny_of_eq l j)) λ_ _ e=>e
theorem ZfV{k:Nat}(h:(Yw m k G).lookup i=some j):∃ x ms subs ds,G.lookup x=some (.cls i ms subs ds)/\ms.lookup m=some (j,k+1):=by
 have g:(i,j)∈Yw m k G:=by
  generalize Yw m k G=l at h
  induction l with
  |nil=>exact Zc h
  |cons p l f=>
   obtain⟨a,b⟩:=p;rw[bQ]at h;split at h
   .rename_i z
    cases h;rw[beq_iff_eq.mp z];exact lQ7
   .exact lM7 _ (f h)
 obtain⟨x,_,c⟩:=List.mem_filterMap.mp g;unfold ZdL at c;split at c
 .rename_i r ms subs ds q
  split at c
  .rename_i o n d
   split at c
   .rename_i e
    subst e;cases c;exact⟨x,ms,subs,ds,q,d⟩
   .exact Zc c
  .exact Zc c
 .exact Zc c
section
open PySem.SeqAt PySem.MeetsSeq PySem.MeetsSeq2 PySem.MeetsSeq3 PySem.SeqRoads2
theorem VT{prog:Program}{w:World}{A:Around}{E:vL->sH7->Prop}{s:sH7}{items:Array vL}{x:vL}{e:vL->Bool}{j:Nat}(h:j < items.size)(c:e items[j]=true)(b:∀ m (o:m < items.size),m < j->e items[m]=false)(f:∀ y,y∈items->EqAt A s y x (e y)):∀ (k i:Nat) (Q:Ot Fin×Unit->sH7->Prop),i<=j->i+k=items.size->Q (some (.done (.ret (.int j s.toks))),()) { s with toks:=s.toks+1 }->
  wpAny (model prog w) A (forIn (List.range' i k) ((none,()):Ot Fin×Unit) λ(i:Nat) __s=>
      match items[i]? with
      |some y=>do
       let __do_lift <-eqBool y x
       if __do_lift=true then do
         let __do_lift <-retInt (i:Int)
         pure (ForInStep.done (some __do_lift,()))
        else pure (ForInStep.yield (none,()))
      |x=>pure (ForInStep.yield (none,()))) Q E s
 |0,i,Q,n,l,_=>by omega
 |k+1,i,Q,n,l,g=>by
  have a:i < items.size:=by omega
  rw[dO,List.forIn_cons];refine aA ?_;rw[dJ a];refine aA (f _ (Array.getElem_mem a) prog w _ _ ?_);by_cases d:i=j
  .subst d
   rw[c]
   wp_walk
   exact g
  .rw[b i a (by omega)]
   wp_walk
   exact VT h c b f k (i+1) Q (by omega) (by omega) g
theorem WK(l:Ad)(items:Array vL)(n:Nat)(o:Obj)(x:vL)(e:vL->Bool)(j:Nat)(i:j < items.size)(b:e items[j]=true)(a:∀ m (u:m < items.size),m < j->e items[m]=false)(hd:o.data=.seq items n) :
  Meets (Builtin.«tuple.index» ⟨[.ref l,x],[]⟩)
   (λA R s=>s.heap.get? l=some o/\(∀ y,y∈items->EqAt A.in1 s y x (e y))/\R (.ok (.ret (.int j s.toks))) { s with toks:=s.toks+1 }):=by
 refine .of_wp λprog w A R s h=>?_
 obtain⟨t,g,d,p,q⟩:=s;obtain⟨f,k,h⟩:=h;obtain⟨oc,r,v,c⟩:=o;cases hd;unfold Builtin.«tuple.index»
 simp only[Std.Legacy.Range.forIn_eq_forIn_range',Std.Legacy.Range.size,Nat.sub_zero,Nat.add_sub_cancel,Nat.div_one]
 wp_walk using wpAny_loadPart' f
 refine VT i b a k (min items.size items.size - 0) 0 _ (aV _) (by simp) ?_
 exact aB ⟨_,rfl,h⟩
end
theorem Zam{k:Str}{tk:Tok}{i:Nat}:∀ {ks:Li Str}{b:Li vL},Vals (ks.map V.str) b->Zal k ks=some i->∃ h:i < b.length,(λy:vL=>match y with
   |.str a _=>a==k
   |_=>false) b[i]=true/\∀ m (c:m < b.length),m < i->(λy:vL=>match y with
   |.str a _=>a==k
   |_=>false) b[m]=false:=by
 intro ks
 induction ks generalizing i with
 |nil=>intro b _ h;cases h
 |cons a ks l=>
  intro b r h;cases r with
  |@cons v u vs f j g=>
   obtain⟨t,rfl⟩:=j;have h:(if a=k then some 0 else (Zal k ks).map (·+1))=some i:=h
   split at h
   .rename_i e
    cases h;refine⟨by simp,by simpa using e,λm _ c=>absurd c (Nat.not_lt_zero m)⟩
   .rename_i e
    cases q:Zal k ks with
    |none=>rw[q]at h;cases h
    |some n=>
     rw[q]at h;cases h;obtain⟨s,p,o⟩:=l g q;refine⟨by simpa using s,by simpa using p,λm c d=>?_⟩
     cases m with
     |zero=>simpa using e
     |succ m=>
      have d:m+1 < n+1:=d;simpa using o m (by simpa using c) (by omega)
theorem JO{ks:Li Str}{b:Li vL}(r:Vals (ks.map V.str) b):∀ y∈b,∃ a t,y=.str a t:=by
 induction ks generalizing b with
 |nil=>cases r;intro y hy;exact nomatch hy
 |cons a ks f=>
  cases r with
  |@cons v u vs c e d=>
   intro y hy;rcases aH.mp hy with rfl|hy
   .obtain⟨t,rfl⟩:=e;exact⟨a,t,rfl⟩
   .exact f d y hy
theorem ZfI{y:Str}{yp:Pos}{x:CE}(K:Cxt X G F sc N)(j:(ap.endLine==cp.line)=true)(r:as.length=1)(B:PE X (.Name y yp) (tE X.K (ev F x)))(A:PA X as (tA X.K (ev F cs))/\Uy cs/\as.all Zj=true/\(as=[]->cs=.aN)):PE X (.Call (.Attribute (.Name y yp) "index" ap) as [] cp) (tE X.K (ev F (.tix x cs))):=by
 obtain⟨PAs,_,M,_⟩:=A;obtain⟨e0,rfl⟩:=ZgC r;intro pQ s O H Q I h;obtain⟨ad,U,st,d,st',E,S,e,p⟩:=h;replace e:Zw (ev F x) (ev F cs) ZfW U st=some (d,st'):=e;unfold Zw at e;split at e
 .rename_i dx g q1
  split at e
  .rename_i dy st2 q2
   unfold ZfW at e;split at e
   .rename_i ks k
    split at e
    .rename_i i hi
     cases e;rw[aY,bA7]at M;refine wpAny_Call_method_late rfl (WO (by rw[aY,M.1];rfl) (by simp)) j rfl (thn (B pQ s O H (λv q=>∃ c,Ext ad H c q/\StOk X.K c q g/\Den X.K c q v (.kt ks)) I ⟨ad,U,st,.kt ks,g,E,S,q1,λv c q D Z W=>⟨c,D,Z,W⟩⟩) λu s1 ⟨v,q,I1,rv,c,D,Z,W⟩=>?_)
     obtain⟨a,o,its,n,rfl,h1,T,h3,h4,h5⟩:=W.ofKt;cases (show u=Value.ref a from rv)
     have ga:s1.heap.get? a=some o:=I1.kIn a o h1;refine⟨"tuple", "tuple.index",PySem.F.plainAttrs_tuple,PySem.F.slot_tuple_index,PySem.F.type_tuple_index,⟨o,ga,T.1⟩,λb eb=>by cases eb;exact⟨o,ga,T.2⟩,?_⟩
     have hA:=PAs cp pQ s1 O q (λvs l=>∃ f,Ext c q f l/\StOk X.K f l st'/\Dens X.K f l vs [.str k]) I1 ⟨c,U,g,[.str k],st',E.mono D,Z,q2,λvs f l J Y V=>⟨f,J,Y,V⟩⟩
     rw[Zf M.1]at hA ⊢;refine Calls.callWith_builtin rfl (Calls.evalArgs_plain (thn hA λus s2 ⟨vs,l,I2,r2,f,J,Y,V⟩=>?_))
     obtain⟨w,rfl,dw⟩:=VJ V;cases dw;obtain⟨u1,rfl,L,rfl⟩:=r2.one;have C:s2.heap.get? a=some o:=I2.kIn a o h1;obtain⟨hj,R,P⟩:=Zam (k:=k) (tk:=L) h5 hi;have sz:its.toList.length=its.size:=cF;refine call_meets PySem.F.slot_tuple_index ⟨o,C,T.1⟩ PySem.F.entry_tuple_index (PySem.F.args_tuple_index_2 _ _) (WK a its n o (.str k L) (λy:vL=>match y with
      |.str a _=>a==k
      |_=>false) i (by rw[<-sz];exact hj) (by simpa using R) (λm hm hl=>by
      have z:=P m (by rw[sz];exact hm) hl
      simp only[Array.getElem_toList]at z;exact z) h3) ⟨C,λy hy=>?_,?_⟩
     .obtain⟨b,t,rfl⟩:=JO h5 y (by simpa using hy)
      exact PySem.SeqAt.EqAt.str_str b t k L
     .exact⟨.int (i:Int),l,I2.tok _,⟨_,rfl⟩,p.later (D.trans J) _ f l (Ext.refl _ _) Y (.int _)⟩
    .exact Zc e
   .exact Zc e
  .exact Zc e
 .exact Zc e
theorem Vo{x:CE}(K:Cxt X G F sc N)(C:(ap.endLine==cp.line)=true)(P:as.length < 20)(hba:attributeBase ob m X.env (eval ob X.env)=eval ob X.env)(B:PE X ob (tE X.K (ev F x)))(A:PA X as (tA X.K (ev F cs))/\Uy cs/\as.all Zj=true/\(as=[]->cs=.aN)):PE X (.Call (.Attribute ob m ap) as [] cp) (tE X.K (ev F (.meth (Yw m as.length G) x cs))):=by
 obtain⟨PAs,_,Z,hn⟩:=A;intro pQ s O H Q I h;obtain⟨ad,U,st,d,st',E,S,e,p⟩:=h;replace e:Wy F (Yw m as.length G) (ev F x) (ev F cs) U st=some (d,st'):=e;unfold Wy at e;split at e
 .rename_i o n q1
  split at e
  .rename_i j hj
   split at e
   .rename_i xs t V
    obtain⟨c,w,hj⟩:=cP.mp hj;obtain⟨cx,ms,subs,ds,hG,hl⟩:=ZfV hj;obtain⟨_,nw,_,hms,_⟩:=K.gl cx _ hG;obtain⟨k,f,fd,pn,Fk,Y,q,hb,_⟩:=hms m j _ hl;have Y:=Y.mono (cH k);refine ZcI hba (WO Z P) C (thn (B pQ s O H (λv y=>∃ g,Ext ad H g y/\StOk X.K g y n/\Den X.K g y v o) I ⟨ad,U,st,o,n,E,S,q1,λv g y M R J=>⟨g,M,R,J⟩⟩) λu s1 ⟨v,y,I1,rv,g,M,R,J⟩ pl=>?_)
    obtain⟨a,dx,kvs,rfl,ho,nf⟩:∃ a dx kvs,v=.ref a/\y a=some (.ins (ClsTab.ca c) dx kvs)/\kvs.lookup m=none:=by
     cases o with
     |obj i=>cases w;obtain⟨a,dx,rfl,ha⟩:=J.ofObj;exact⟨a,dx,[],rfl,ha,rfl⟩
     |dic i=>
      have w:(match n[i]? with
       |some (_,.int c :: _)=>some c.toNat
       |_=>none)=some c:=w
      split at w
      .rename_i b c' es q0
       cases w;obtain⟨a,rfl,hl1,n1⟩:=J.ofDic;obtain⟨jc,dx,kvs,rfl,r,ho,_,oc,nf⟩:=R.obj hl1 n1 q0;rw[aZ]at q ⊢;have hmf:fldNames.contains m=false:=by
        cases z:fldNames.contains m with
        |false=>rfl
        |true=>have z1:=oc.na m z;have z2:=q.at_;unfold NoAttr at z1;rw[z1]at z2;cases z2
       exact⟨a,dx,kvs,rfl,ho,nf m hmf⟩
      .exact Zc w
     |_=>exact Zc w
    cases (show u=Value.ref a from rv)
    refine getmeth_ok I1 ho nw.cl q nf ?_;cases as with
    |nil=>
     have w:=hn rfl;subst w;have V:some (D.tup [],n)=some (.tup xs,t):=V;cases V;exact W.callWith_K0 (first:=[.ref a]) I1.kIn q.kp (run_fn (us:=[.ref a]) (vs:=[.ref a]) (E:=E0) Fk Y hb .nil pass0 I1 (.cons rfl .nil) ⟨g,[o],n,d,st',R,.cons J .nil,e,p.later M⟩)
    |cons e0 es=>
     rw[aY,bA7]at Z;refine W.callWith_K (first:=[.ref a]) (h₀:=X.base) I.ok.mod.kin q.kp (thn (PAs cp pQ s1 O y _ I1 ⟨g,U,n,xs,t,E.mono M,R,V,λvs l L T S2 d2=>(show(λvs L=>∃ l,Ext g y l L/\StOk X.K l L t/\Dens X.K l L vs xs) vs L from⟨l,T,S2,d2⟩)⟩) λus s2 ⟨vs,L,I2,r,l,T,S2,d2⟩=>⟨I2.kIn,?_⟩) (Zf Z.1) (Yr Z.2)
     refine run_fn (us:=.ref a :: us) (vs:=.ref a :: vs) (E:=E0) Fk Y hb .nil pass0 I2 (.cons rfl r) ?_;rw[bB];exact⟨l,o :: xs,t,d,st',S2,.cons (J.mono T) d2,e,p.later (M.trans T)⟩
   .exact Zc e
  .exact Zc e
 .exact Zc e
theorem ZgQ{m:Nat}{p:Pos}(K:Cxt X G F sc N)(hg:ZA sc f=true)(hG:G.lookup f=some (.cls i ms subs ds))(hl:ms.lookup ("__init__":Str)=some (j,m))(hle:as.length+1<=m/\m<=as.length+1+ds.length)(A:PA X as (tA X.K (ev F cs))/\Uy cs/\as.all Zj=true/\(as=[]->cs=.aN)):PE X (.Call (.Name f p) as [] pos) (tE X.K (ev F (.mk i j cs (ds.drop (as.length+1+ds.length - m))))):=by
 obtain⟨hm,u,_,R,_⟩:=K.gl f _ hG;obtain⟨k,fa,fd,pn,Fk,hr,l,_,T⟩:=R _ j m hl;obtain⟨oc,hb⟩:=T rfl;obtain⟨Z,dus,hd,hv,B⟩:=hb (as.length+1+ds.length - m) (by omega)
 obtain⟨PAs,_,M,hn⟩:=A;intro pQ s O H Q I h;obtain⟨ad,U,st,d,st',E,S,e,q⟩:=h;replace e:Zq (ev F cs) (mkR F i j (ds.drop (as.length+1+ds.length - m))) U st=some (d,st'):=e;generalize ds.drop (as.length+1+ds.length - m)=dd at e hd;unfold Zq at e;split at e
 .rename_i x c L
  unfold mkR at e;split at e
  .rename_i xs
   split at e
   .rename_i st2 q2
    cases e;refine wpAny_Call_Name_kw (ld_glob I (K.glb f hg) hm ?_ (YM hg));have C:∀ {vs:Li V}{n:Hp}{b:Li Ad},Ext ad H b n->StOk X.K b n c->Dens X.K b n vs xs->∀ x dx,n x=none->n dx=none->dx≠x->(∀ o,X.K.lookup x≠some o)->spD X.K (F j) (.ref x :: (vs++Z)) (upd (upd n dx (.own x)) x (.ins (ClsTab.ca i) dx [])) (λv g=>v=.non/\Q (.ref x) g) E0:=λ{vs n b} x1 S1 d1 x dx hx z P hk=>by
     have y:upd n dx (.own x) x=none:=by rw[upd_ne P.symm];exact hx
     have w:=S1.laid (o:=.own x) z;have xt:=(Ext.laid (ad:=b) (o:=.own x) z).trans (w.extD (o:=.ins (ClsTab.ca i) dx []) y hk);have Y:(b++[x])[c.length]?=some x:=by rw[<-S1.len];exact Zz
     exact⟨b++[x],.dic c.length :: (xs++dd),_,.non,_,w.pushO y hk oc,.cons (.dic Y ⟨_,upd_same,rfl⟩) ((d1.mono xt).append (hd _ _)),q2,λv a g t S3 J=>⟨J.ofNon,q _ a g (x1.trans (xt.trans t)) S3 (.dic (t.pre _ _ Y) ((t.kd _ _ Y).mp ⟨_,upd_same,rfl⟩))⟩⟩
    cases as with
    |nil=>
     have hc:=hn rfl;subst hc;have L:some (D.tup [],st)=some (.tup xs,c):=L;cases L;exact W.callWith_K0 I.kIn u.kp (run_make (us:=[]) (vs:=[]) (E:=E0) ⟨u.makes,l.at_,l.fn,u.kp⟩ Fk hr B hv pass0 I .nil (C (.refl _ _) S .nil))
    |cons e0 es=>
     rw[aY,bA7]at M;refine W.callWith_K (h₀:=X.base) I.ok.mod.kin u.kp (thn (PAs pos pQ s O H _ I ⟨ad,U,st,xs,c,E,S,L,λvs a g t w J=>(show(λvs g=>∃ a,Ext ad H a g/\StOk X.K a g c/\Dens X.K a g vs xs) vs g from⟨a,t,w,J⟩)⟩) λus s2 ⟨vs,g,I2,r,a,t,w,J⟩=>⟨I2.kIn,?_⟩) (Zf M.1) (Yr M.2)
     exact run_make (E:=E0) ⟨u.makes,l.at_,l.fn,u.kp⟩ Fk hr B hv pass0 I2 r (C t w J)
   .exact Zc e
  .exact Zc e
 .exact Zc e
theorem Zcj{K:fG7}(y:fldNames.contains f=true)(O:L2.St)(H:Hp)(Q:VK)(h:tE K (Zq fa (ZeI f)) O H Q):tFld K (tE K fa) f O H Q:=by
 obtain⟨ad,U,st,d,st',E,S,e,p⟩:=h;unfold Zq at e;split at e
 .rename_i x k q
  unfold ZeI at e;split at e
  .rename_i a
   split at e
   .rename_i b c es o
    split at e
    .rename_i w m
     cases e;refine⟨ad,U,st,.dic a,_,E,S,q,λv C F i g B=>?_⟩
     obtain⟨l,rfl,t,n⟩:=B.ofDic;obtain⟨j,dx,kvs,rfl,r,s,_,oc,D⟩:=g.obj t n o;obtain⟨u,A,z⟩:=Jf r m;exact⟨l,_,dx,kvs,u,rfl,s,oc.cl,oc.na f y,A,(p.later i).at g z⟩
    .exact Zc e
   .exact Zc e
  .exact Zc e
 .exact Zc e
theorem ZfC{c:Ot CE}{r:CE}(A:∀ x,c=some x->PE X o (tE X.K (ev F x)))(h:Zgt o f c=some r):PE X (.Attribute o f pos) (tE X.K (ev F r)):=by
 cases o with
 |Name y d=>exact Yq h λb h=>X4 (P:=λr=>PE X _ (tE X.K (ev F r))) h λx a=>Zs (pe_fld (A x a) rfl) (Zcj b)
 |_=>exact Zc h
theorem U6{p:Ot Expr×Ot Expr}(q:Wb b=some p):∃ a,b=.Slice p.1 p.2 none a:=by
 unfold Wb at q;split at q
 .cases q;exact⟨_,rfl⟩
 .exact Zc q
theorem ZgS{op:UnaryOp}{o:Ot CE}{c:CE}(A:∀ x,o=some x->SE X F a x)(h:unC op o=some c):SE X F (.UnaryOp op a pos) c:=by
 cases op with
 |Not=>exact X4 (P:=SE X F _) (show o.map CE.not=some c from h) λx b=>⟨Zs (pe_not (A x b).pe) ZaD,WC (pt_not (A x b).pt) ZaC⟩
 |USub=>exact X4 (P:=SE X F _) (show o.map CE.neg=some c from h) λx b=>.of (Zs (pe_un Zdo (A x b).pe) ZeM)
 |_=>exact Zc h
section
variable {X:Cx}{sc:Scope}{N:Li Str}{n:Nat}{c:CE} (K:Cxt X G F sc N) (hf:∀ e c,cE G n sc N e=some c->SE X F e c)
include K hf
theorem ZfB{d:Li CmpOp}{bs:Li Expr}(h:Zgj G sc (cE G n sc N) (cE G n sc N a) d bs=some c):SE X F (.Compare a d bs pos) c:=by
 cases d with
 |nil=>exact Zc h
 |cons op d=>cases bs with
  |nil=>cases d with
   |nil=>exact Zc h
   |cons _ r=>cases r<;>cases h
  |cons b bs=>cases d with
   |nil=>cases bs with
    |cons _ _=>exact Zc h
    |nil=>
     replace h:(match ZU G sc b with
      |some e=>o3 CE.inR (ZeN op) (cE G n sc N a) (cE G n sc N e)
      |none=>o2 (CE.cmp op) (cE G n sc N a) (cE G n sc N b))=some c:=h
     cases i:ZU G sc b with
     |some e=>
      rw[i]at h;exact Xr (P:=SE X F _) h λl x y k g f=>ZfD K i k (Zg f) (hf a x g).pe (hf e y f).pe
     |none=>
      rw[i]at h;exact ZY (P:=SE X F _) h λx y g f=>⟨Zs (pe_cmpR (QM K.hu) (hf a x g).pe (hf b y f).pe (XW (Zg f))) W8,WC (pt_cmpR (QM K.hu) (hf a x g).pe (hf b y f).pe (XW (Zg f))) λO H Q q=>W8 O H _ (ZaG O H Q q)⟩
   |cons j d=>exact Zc h
omit K in
theorem Zc0{op:BoolOp}{vs:Li Expr}{pos:Pos}(h:Zdz (cE G n sc N) op pos vs=some c):SE X F (.BoolOp op vs pos) c:=by
 cases vs with
 |nil=>exact Zc h
 |cons a r=>cases r with
  |nil=>
   have A:=hf a c h;refine⟨pe_one A.pe,?_⟩;cases op with
   |And=>exact(pw_and1 A.pt).pt
   |Or=>exact(pw_or1 A.pt).pt
  |cons b r=>cases op with
   |And=>exact ZY (P:=SE X F _) (show o2 CE.and (cE G n sc N a) (cE G n sc N (.BoolOp .And (b :: r) pos))=some c from h) λx y e d=>⟨Zs (pe_and (hf a x e).pe (hf _ y d).pe) Zao,WC (pw_and (hf a x e).pt (Ul (hf _ y d).pt)).pt Zan⟩
   |Or=>exact ZY (P:=SE X F _) (show o2 CE.or (cE G n sc N a) (cE G n sc N (.BoolOp .Or (b :: r) pos))=some c from h) λx y e d=>⟨Zs (pe_or (hf a x e).pe (hf _ y d).pe) Zcp,WC (pw_or (hf a x e).pt (Ul (hf _ y d).pt)).pt Zco⟩
theorem ZfH(d:WY G F n)(h:ZfU G sc (cE G n sc N) (cO G n sc N) a b=some c):SE X F (.Subscript a b pos) c:=by
 unfold ZfU at h;cases q:Wb b with
 |some p=>
  obtain⟨lo,hi⟩:=p;rw[q]at h;obtain⟨m,rfl⟩:=U6 q;exact Xr (P:=SE X F _) h λx l u f k j=>.of (Zs (pe_slice Zh9 (hf a x f).pe (d X sc N K lo l k) (d X sc N K hi u j)) Jm)
 |none=>
  rw[q]at h;dsimp only at h;cases i:ZdU b with
  |some s=>
   cases i
  |none=>
   rw[i]at h;dsimp only at h;cases g:QG G sc a with
   |some p=>
    obtain⟨ks,ds⟩:=p;rw[g]at h;exact X4 (P:=SE X F _) h λy e=>.of (Zc3 K g (Zg e) (hf b y e).pe)
   |none=>
    rw[g]at h;exact ZY (P:=SE X F _) h λx y f e=>.of (Zs (pe_ix (Zhj K.hu) (hf a x f).pe (hf b y e).pe (V5 (Zg e))) W8)
theorem Zbo{p:Pos}(g:ZA sc f=true)(d:X.mg f=none)(h:JV G sc f a (cE G n sc N)=some c):SE X F (.Call (.Name f p) [a] [] pos) c:=by
 unfold JV at h;cases i:X8 f a with
 |some q=>
  rw[i]at h;exact X4 (P:=SE X F _) h λx b=>.of (Zc2 K g d i (hf _ x b).pe)
 |none=>
  rw[i]at h;dsimp only at h;cases k:Qa G sc f a with
  |some e=>
   rw[k]at h;exact ZfJ K g d k (λc m=>⟨Zg m,(hf e c m).pe⟩) h
  |none=>
   rw[k]at h;dsimp only at h;cases j:UT G sc f a with
   |some q=>
    obtain⟨u,v⟩:=q;rw[j]at h;exact ZY (P:=SE X F _) h λx y b l=>.of (Zc4 K g d j (Zg b) (Zg l) (hf u x b).pe (hf v y l).pe)
   |none=>
    rw[j]at h;exact j_e h λh=>X4 (P:=λo=>o=some c->SE X F _ c) h (λx b h=>.of (ZcY K g d (Zg b) (hf a x b).pe h)) rfl
theorem Zbp{p:Pos}(i:ZA sc f=true)(e:X.mg f=none)(h:JW G sc f a b (cE G n sc N)=some c):SE X F (.Call (.Name f p) [a,b] [] pos) c:=by
 unfold JW at h;by_cases k:f = "isinstance"
 .subst k
  rw[if_pos rfl]at h;cases g:UK G sc b with
  |some l=>
   rw[g]at h;exact X4 (P:=SE X F _) h λx q=>.of (ZfE K i e (Zg q) (hf a x q).pe g)
  |none=>
   rw[g]at h;exact ZY (P:=SE X F _) h λx T d m=>.of (ZfF K i e (Zg d) (hf a x d).pe m)
 .rw[if_neg k]at h
  exact j_e h λh=>ZY (P:=λo=>o=some c->SE X F _ c) h (λx y d j h=>.of (ZcZ K i e (Zg d) (Zg j) (hf a x d).pe (hf b y j).pe h)) rfl
theorem Zbq(k:Yz G F n){p:Pos}(h:JY G sc f as (cEs G n sc N as) (cE G n sc N)=some c):SE X F (.Call (.Name f p) as [] pos) c:=by
 unfold JY at h;cases d:ZA sc f with
 |false=>rw[d]at h;cases h
 |true=>
 rw[d,if_pos rfl]at h;cases j:G.lookup f with
 |none=>rw[j]at h;cases h
 |some g=>
  rw[j]at h;cases g with
  |fn i r ds=>exact Yq h λm h=>X4 (P:=SE X F _) h λcs e=>.of (Zc1 K d j m (k X sc N K as cs e))
  |blt=>
   have l:X.mg f=none:=K.gl f _ j;cases as with
   |nil=>exact Zc h
   |cons a as=>cases as with
    |nil=>exact Zbo K hf d l h
    |cons b as=>cases as with
     |nil=>exact Zbp K hf d l h
     |cons _ _=>exact Zc h
  |cls i ms subs ds=>
   dsimp only at h;cases hi:ms.lookup ("__init__":Str) with
   |some q=>
    rw[hi]at h;exact Yq h λo h=>X4 (P:=SE X F _) h λcs e=>.of (ZgQ K d j hi o (k X sc N K as cs e))
   |none=>
    rw[hi]at h;cases as with
    |cons _ _=>exact Zc h
    |nil=>cases h;exact .of (ZfG K d j hi)
  |_=>exact Zc h
theorem ZcX(f:Yz G F n)(h:Zdy G ob m ap as pos (cEs G n sc N as) (cE G n sc N)=some c):SE X F (.Call (.Attribute ob m ap) as [] pos) c:=by
 cases ob with
 |Name y s=>
  refine Yq h λe h=>?_
  by_cases o:m = "index"
  .subst o
   rw[if_pos rfl]at h;exact Yq h λq h=>ZY (P:=SE X F _) h λx cs g d=>.of (ZfI K e.1 q (hf _ x g).pe (f X sc N K as cs d))
  .rw[if_neg o]at h
   by_cases i:m = "setdefault"
   .subst i
    rw[if_pos rfl]at h;cases as with
    |nil=>exact Zc h
    |cons a as=>cases as with
     |nil=>exact Zc h
     |cons b as=>cases as with
      |cons _ _=>exact Zc h
      |nil=>exact Xr (P:=SE X F _) h λx y z g l k=>.of (ZgR K e.1 (Zg l) (Zg k) (hf _ x g).pe (hf a y l).pe (hf b z k).pe)
   .rw[if_neg i]at h
    exact ZY (P:=SE X F _) h λx cs g d=>.of (Vo K e.1 e.2 rfl (hf _ x g).pe (f X sc N K as cs d))
 |Subscript _ _ _=>exact Yq h λe h=>ZY (P:=SE X F _) h λx cs g d=>.of (Vo K e.1 e.2 rfl (hf _ x g).pe (f X sc N K as cs d))
 |Call r j p t=>cases r with
  |Name _ _=>cases j with
   |nil=>exact Zc h
   |cons _ _=>exact Yq h λe h=>ZY (P:=SE X F _) h λx cs g d=>.of (Vo K e.1 e.2 rfl (hf _ x g).pe (f X sc N K as cs d))
  |_=>exact Zc h
 |_=>exact Zc h
end
theorem U7(I:Zo G F n)(j:Yz G F n)(H:WY G F n)(s:∀ X sc N,Cxt X G F sc N->∀ l gens i pos c,cE G (n+1) sc N (.ListComp l gens i pos)=some c->SE X F (.ListComp l gens i pos) c):Zo G F (n+1):=by
 intro X sc N K e c h;have g:=I X sc N K;have no:∀ {P:Prop},(none:Ot CE)=some c->P:=λz=>nomatch z
 cases e with
 |Constant v k pos=>exact Zbr h
 |Name x pos=>exact Zc5 K h
 |BinOp a op b pos=>exact ZY (P:=SE X F _) (show o2 (CE.bin op) (cE G n sc N a) (cE G n sc N b)=some c from h) λx y w C=>.of (Zs (pe_op ZcO (g a x w).pe (g b y C).pe) W8)
 |UnaryOp op a pos=>exact ZgS (g a) h
 |Compare a J bs pos=>exact ZfB K g h
 |BoolOp op vs pos=>exact Zc0 g h
 |IfExp t a b pos=>exact Xr (P:=SE X F _) (show o3 CE.ife (cE G n sc N t) (cE G n sc N a) (cE G n sc N b)=some c from h) λz x y r w C=>⟨Zs (pe_ifExp (g t z r).pt (g a x w).pe (g b y C).pe) ZeK,Ze9 (g t z r).pt (g a x w).pt (g b y C).pt⟩
 |Tuple es k pos=>
  refine X4 (P:=SE X F _) (show(cEs G n sc N es).map CE.tupE=some c from h) λx q=>?_
  obtain⟨A,D,_,_⟩:=j X sc N K es x q;exact .of (Zs (pe_tup A) (Zct (λU st ds st' e=>by obtain⟨u,z,r⟩:=WZ D e;cases z;exact r) λU st d st' e=>by obtain⟨u,z,r⟩:=WZ D e;exact⟨u,z⟩))
 |List es pos=>
  refine X4 (P:=SE X F _) (show(cEs G n sc N es).map CE.lstE=some c from h) λx q=>?_
  obtain⟨A,D,_,_⟩:=j X sc N K es x q;exact .of (Zs (pe_lst A) (Zcm λU st ds st' e=>by obtain⟨u,z,r⟩:=WZ D e;cases z;exact r))
 |Dict keys B pos=>cases keys with
  |nil=>cases B with
   |nil=>cases h;exact .of (Zs Zbh Zar)
   |cons _ _=>exact Zc h
  |cons L keys=>exact Zc h
 |Attribute o f pos=>exact .of (ZfC (λx w=>(g o x w).pe) h)
 |Subscript a b pos=>exact ZfH K g H h
 |Call f as E pos=>cases E with
  |cons _ _=>exact no h
  |nil=>cases f with
   |Attribute ob m ap=>exact ZcX K g j h
   |Name f p=>exact Zbq K g j h
   |_=>exact no h
 |ListComp l gens i pos=>exact s X sc N K l gens i pos c h
 |_=>exact no h
theorem Uq(a:Zo G F n)(b:Yz G F n):Yz G F (n+1):=by
 intro X sc N K es c h;cases es with
 |nil=>
  simp only[cEs]at h;cases h;exact⟨Zbg pa_nil VU,trivial,rfl,λ_=>rfl⟩
 |cons e es=>
  refine ZY (P:=λc=>PA X _ (tA X.K (ev F c))/\Uy c/\_/\(_->c=.aN)) (show o2 CE.aC (cE G n sc N e) (cEs G n sc N es)=some c from h) λx r d f=>?_
  obtain⟨A,i,g,_⟩:=b X sc N K es r f;exact⟨Zbg (pa_cons (a X sc N K e x d).pe A (Zf (Zg d))) Jk,trivial,by rw[aY,g,Zg d];rfl,λz=>nomatch z⟩
theorem Ur(b:Zo G F n):WY G F (n+1):=by
 intro X sc N K e c h;cases e with
 |none=>
  simp only[cO]at h;cases h;exact Zbi po_none Zcn
 |some e=>
  simp only[cO]at h;cases q:cE G n sc N e with
  |none=>rw[q]at h;cases h
  |some x=>
   rw[q]at h;cases h;refine Zbi (po_some (b X sc N K e x q).pe) λO H Q k=>?_
   obtain⟨ad,U,st,d,st',E,S,a,p⟩:=k;have a:Zq (ev F x) Uj U st=some (d,st'):=a;unfold Zq at a;split at a
   .rename_i y f g
    cases y with
    |int i=>
     cases a;rcases p with⟨z,_⟩|⟨j,z,p⟩
     .cases z
     .cases z
      exact⟨ad,U,st,.int i,_,E,S,g,λv ad' H' x m l=>⟨i,l.ofInt,p ad' H' x m⟩⟩
    |_=>simp[Uj]at a
   .exact Zc a
end
variable [ClsTab]
variable{α β:Type}
theorem b_e{P:Prop}{o:Ot α}{f:α->Ot β}{c:β}(h:o.bind f=some c)(k:∀ x,o=some x->f x=some c->P):P:=by
 cases o with
 |none=>exact Zc h
 |some x=>exact k x rfl h
theorem Zbk{s:Stmt}{t u:TS}(b:PS X s t)(a:PS X s u):PS X s (λD O H=>t D O H\/u D O H):=λpQ s O H D I q=>q.elim (b pQ s O H D I) (a pQ s O H D I)
variable{l:Nat}
theorem Y7{a:Ot Expr}(h:Yl e=false):swapsWith e a l env=pure false:=by
 cases e<;>first|rfl|cases h
variable{tg:Expr}
theorem Yu(h:Yl e=false):swapsWithSole [tg] e l env=pure false:=Y7 h
theorem Xk{k:Expr}{p:Pos}(h:Zj k=true):∀ v,assign (.Subscript o k p) env v=(do
   let a <-holding [v] (eval o env)
   let b <-holding [v,a] (eval k env)
   standAt p
   holding [v,a,b] (setItem a b v)
   release [v,a,b] []):=by
 cases k<;>first | (intro _;rfl)|cases h
theorem Xt{k:Expr}{p:Pos}:swappedStores [.Subscript o k p] e env=pure none:=by
 cases e<;>rfl
theorem ZH(h:Zj e=true):∀ x,foldedSetIterable e env x=pure x:=by
 cases e<;>first | (intro _;rfl)|cases h
structure CxtS(X:Cx)(G:Gs)(F:Nat->Fn)(sc:Scope)(N:List Str):Prop extends Cxt X G F sc N where
 nd:N.Nodup
 loc:∀ x∈N,Loc X.env.scope x
 fn:∀ x,X.fn x=true
variable{it elt:Expr}{gens:Li Comprehension}{sc2:Scope}{tp p2 p3 q:Pos}{ctx tk t' kk:Nat}{z:Str}{ta:TA}{h' h:Heap}{i1 i2:Ad}{elts:Li Expr}{fi:Ev}
section
def Uz(G:Gs)(F:Nat->Fn)(n:Nat):Prop:=∀ X sc N,CxtS X G F sc N->∀ s c,cS G n sc N s=some c->PS X s (tS X.K (ex F c))
def ZQ(G:Gs)(F:Nat->Fn)(n:Nat):Prop:=∀ X sc N,CxtS X G F sc N->∀ s c,cSs G n sc N s=some c->PSs X s (tS X.K (ex F c))
theorem W7{x:Str}(h:N.idxOf? x=some i):x∈N:=aU (Xo h)
theorem Yc{x:Str}{p:Pos}(K:CxtS X G F sc N)(h:N.idxOf? x=some i):PG X (.Name x p) (gName i):=
 pg_name (by rw[K.hN];exact K.nd) (by rw[K.hN];exact Xo h) (K.loc x (W7 h)) (.inl (K.fn x))
theorem YE(K:CxtS X G F sc N):PassesOwn (model X.prog X.w) X.A X.env X.xe:=by
 rw[K.nx];exact PassesOwn.never
theorem Uk{x:Str}{p:Pos}(K:Cxt X G F sc N)(hl:Y2 sc x=true)(hi:N.idxOf? x=some i):PE X (.Name x p) (tVar i):=
 pe_var (by rw[K.hN];exact Xo hi) (K.vis _ hl) (Ve hl).1 (Ve hl).2
theorem XY{x:CE}(K:Cxt X G F sc N)(h:ZU G sc it=some a)(b:Zj a=true)(A:PE X a (tE X.K (ev F x))):Zj it=true/\PI X tg it (iRng1 (tCons (tE X.K (ev F x)) tNil)):=by
 obtain⟨_,_,rfl,d,c⟩:=WJ K h;exact⟨rfl,pi_range1 d c (pa1 b A) (Zf b)⟩
def We(G:Gs)(F:Nat->Fn)(n:Nat):Prop:=∀ X sc N,CxtS X G F sc N->∀ (x:Str) (i:Nat) (p:Pos) elt gens sc2 epos (pos:Pos) c,N.idxOf? x=some i->cE G n sc N (.ListComp elt gens sc2 epos)=some c->
 swapsWith (.ListComp elt gens sc2 epos) (some (.Name x p)) pos.line X.env=pure true->PS X (.Assign [.Name x p] (.ListComp elt gens sc2 epos) pos) (tAsg (tE X.K (ev F c)) (gName i))
theorem U8{epos p:Pos}{x:Str}:∃ b:Bool,swapsWith (.ListComp elt gens sc2 epos) (some (.Name x p)) l env=pure b:=⟨_,rfl⟩
theorem Za9{c:CE}(h:cE G n sc N e=some c):Yl e=false\/∃ elt gens sc2 a,e=.ListComp elt gens sc2 a:=by
 cases n with
 |zero=>exact nomatch (show(none:Ot CE)=some c from h)
 |succ n=>cases e<;>first|exact .inl rfl|exact .inr ⟨_,_,_,_,rfl⟩|exact nomatch (show(none:Ot CE)=some c from h)
theorem ZfM(a:Zo G F n)(m:We G F n)(K:CxtS X G F sc N){c:CS}{x:Str}{p:Pos}(h:o2 CS.set (N.idxOf? x) (cE G n sc N e)=some c):PS X (.Assign [.Name x p] e pos) (tS X.K (ex F c)):=by
 refine ZY (P:=λc=>PS X _ (tS X.K (ex F c))) h λi y hi d=>?_
 have f:∀ g,PS X (.Assign [.Name x p] e pos) (tAsg (tE X.K (ev F y)) (gName i)):=λg=>ps_set (by rw[K.hN];exact K.nd) (by rw[K.hN];exact Xo hi) (K.loc _ (W7 hi)) (a X sc N K.toCxt _ y d).pe g (.inl (K.fn _))
 rcases Za9 d with k|⟨elt,gens,sc2,epos,rfl⟩
 .exact Zv (f (Y7 k)) W9
 .obtain⟨b,j⟩:=U8 (elt:=elt) (gens:=gens) (sc2:=sc2) (epos:=epos) (p:=p) (x:=x) (l:=pos.line) (env:=X.env)
  cases b with
  |false=>exact Zv (f j) W9
  |true=>exact Zv (m X sc N K _ i p elt gens sc2 epos pos y hi d j) W9
theorem WE{a:Li Expr}{k:Nat}(h:V4 e=false):swappedStores [.Tuple a k tp] e env=pure none:=by
 cases e with
 |Tuple=>cases h
 |_=>rfl
theorem Zdj(a:Zo G F n)(K:CxtS X G F sc N){c:CS}{x y:Str}{p:Pos}(h:og ((Yl e||V4 e)=false) (o3 (λi j c=>og (i≠j) (some (CS.set2 i j c))) (N.idxOf? x) (N.idxOf? y) (cE G n sc N e)).join=some c):PS X (.Assign [.Tuple [.Name x p,.Name y p2] ctx tp] e pos) (tS X.K (ex F c)):=by
 refine Yq h λb h=>j_e h λh=>Xr (P:=λo=>o=some c->PS X _ (tS X.K (ex F c))) h (λi j g hi f d h=>Yq h λ_ h=>?_) rfl
 cases h;rw[Bool.or_eq_false_iff]at b;exact Zv (ps_asg (a X sc N K.toCxt _ g d).pe (pg_tup K.calm (pgs_cons (Yc K hi) (pgs_cons (Yc K f) pgs_nil))) (Yu b.1) (WE b.2)) ZaE
theorem Zdk(a:Zo G F n)(K:CxtS X G F sc N){c:CS}{x y:Str}{p:Pos}(h:og ((Yl e||V4 e)=false) (o3 (λi j (p:Nat×CE)=>CS.set3 i j p.1 p.2) (N.idxOf? x) (N.idxOf? y) (o2 Prod.mk (N.idxOf? z) (cE G n sc N e)))=some c):PS X (.Assign [.Tuple [.Name x p,.Name y p2,.Name z p3] ctx tp] e pos) (tS X.K (ex F c)):=by
 refine Yq h λb h=>Xr (P:=λc=>PS X _ (tS X.K (ex F c))) h λi j q hi k f=>ZY (P:=λq=>PS X _ (tS X.K (ex F (.set3 i j q.1 q.2)))) f λl m g d=>?_
 rw[Bool.or_eq_false_iff]at b;exact Zv (ps_asg (a X sc N K.toCxt _ m d).pe (pg_tup K.calm (pgs_cons (Yc K hi) (pgs_cons (Yc K k) (pgs_cons (Yc K g) pgs_nil)))) (Yu b.1) (WE b.2)) ZaF
theorem ZfK(a:Zo G F n)(K:CxtS X G F sc N){c:CS}{d:Pos}{b:Li Keyword}(h:(cE G n sc N (.Call (.Name f d) as b cp)).map CS.act=some c):PS X (.Expr (.Call (.Name f d) as b cp) pos) (tS X.K (ex F c)):=by
 obtain⟨g,e,rfl⟩:=dM.mp h;exact Zv (ps_expr (a X sc N K.toCxt _ g e).pe rfl) QA
theorem ZfN(a:Zo G F n)(K:CxtS X G F sc N){c:CS}{x:Str}{k:Expr}{p:Pos}(h:ZgL sc N x k e (cE G n sc N)=some c):PS X (.Assign [.Subscript (.Name x p) k q] e pos) (tS X.K (ex F c)):=
 Yq h λd h=>by
 exact Xr (P:=λc=>PS X _ (tS X.K (ex F c))) h λ_ g y hi b f=>Zv (Zbk (ps_asg (a X sc N K.toCxt _ y f).pe (pg_sub (Uk K.toCxt d.2.2 hi) (a X sc N K.toCxt _ g b).pe set_list (Xk (Zg b))) (Yu d.1) Xt) (Zv (ps_asg (a X sc N K.toCxt _ y f).pe (pg_sub (Zs (Uk K.toCxt d.2.2 hi) QB) (a X sc N K.toCxt _ g b).pe (Zbw (by have:=K.toCxt.hu;omega)) (Xk (Zg b))) (Yu d.1) Xt) VY)) Zcq
theorem Zc9(a:Zo G F n)(K:CxtS X G F sc N){c:CS}{k:Expr}(h:og (Yl e=false/\ZeP k=false) (o3 (CS.dput 0) (cE G n sc N o) (cE G n sc N k) (cE G n sc N e))=some c):PS X (.Assign [.Subscript o k q] e pos) (tS X.K (ex F c)):=
 Yq h λg h=>Xr (P:=λc=>PS X _ (tS X.K (ex F c))) h λi j l d b f=>Zv (ps_asg (a X sc N K.toCxt _ l f).pe (pg_sub (a X sc N K.toCxt _ i d).pe (a X sc N K.toCxt _ j b).pe (Zbw (by have:=K.toCxt.hu;omega)) (Xk (Zg b))) (Yu g.1) Xt) VY
theorem Zdi(a:Zo G F n)(K:CxtS X G F sc N){c:CS}{x:Str}{p:Pos}(h:og (Yl e=false/\Y2 sc x=true/\fldNames.contains f=true) (o2 (λi c=>CS.fset i f c) (N.idxOf? x) (cE G n sc N e))=some c):PS X (.Assign [.Attribute (.Name x p) f q] e pos) (tS X.K (ex F c)):=
 Yq h λb h=>ZY (P:=λc=>PS X _ (tS X.K (ex F c))) h λi g hi d=>Zv (ps_fld (Uk K.toCxt b.2.1 hi) (a X sc N K.toCxt _ g d).pe (Y7 b.1)) (ZaA b.2.2)
theorem ZfO(a:Zo G F n)(K:CxtS X G F sc N){c:CS}(h:(cE G n sc N e).map CS.ret=some c):PS X (.Return (some e) pos) (tS X.K (ex F c)):=
 X4 (P:=λc=>PS X _ (tS X.K (ex F c))) h λx q=>Zv (ps_ret (a X sc N K.toCxt _ x q).pe) Zcr
theorem ZgT(f:Zo G F n)(d:ZQ G F n)(K:CxtS X G F sc N){c:CS}{a b:Li Stmt}(h:o3 CS.ite (cE G n sc N e) (cSs G n sc N a) (cSs G n sc N b)=some c):PS X (.If e a b pos) (tS X.K (ex F c)):=
 Xr (P:=λc=>PS X _ (tS X.K (ex F c))) h λk m l g j i=>Zv (ps_if (f X sc N K.toCxt _ k g).pt (d X sc N K _ m j) (d X sc N K _ l i)) Zcl
theorem Jx{P:Program}{K:fG7}(it:Ad)(lo c:Int)(n:Nat):Turn P w K tg (Its lo c n) [it] it (λi h=>IsRangeIter h it (lo+(i:Nat) * c) ((n:Int) - (i:Nat)) c) where
 mem:=by simp
 obj:=λi h st b a=>by
  have e:b=it:=by simpa using a
  subst e;exact⟨_,st,λv z=>by
   have y:Data.fields _=Data.cell v:=z;cases y⟩
 keep:=λi h h' st k=>k it (by simp) _ st
 item:=by
  intro X l f m j i pQ s O H E I d st g;subst l f m;obtain⟨x,u,B,r,q,p⟩:=d it (by simp)
  have W:=Walks.range (prog:=X.prog) (w:=X.w) (I.ok.hd j) it lo c n;refine W.item i s _ _ g st λv h' tk A st' kk=>?_
  obtain⟨t,rfl⟩:=A;have D:L2.Inv X pQ O H { s with heap:=h',toks:=tk }:=I.turned (λb o a e=>kk b o (by simpa using a) e) x u r q p
  exact⟨_,rfl,go_of (s:={ s with heap:=h',toks:=tk }) (n := "range_iterator") st' rfl rfl (by decide) ⟨.int (lo+i * c),H,D,⟨t,rfl⟩,⟨rfl,rfl⟩,st',λb a=>(d b a).1⟩⟩
 done:=by
  intro X l f m j i pQ s O H E I d st g;subst l f m;obtain⟨x,u,B,r,q,p⟩:=d it (by simp)
  exact wpAny_pyNext_range_end (I.ok.hd j) st (by have:n<=i:=g;omega) λh' C=>⟨rfl,I.turned (t':=s.toks) (λb o a e=>C b o a e) x u r q p⟩
 self:=λ_ _ _ _ _ st h=>wpAny_pyIter_rangeiter st h
theorem XZ{a b c:Int}(h:Yg a b c=true):((Z2 a b c:Nat):Int)=Builtin.Range.rangeSize a b c/\Builtin.Range.small a b c=true/\c≠0/\c.natAbs < 1073741824:=by
 have h:=of_decide_eq_true h;obtain⟨⟨i,g⟩,⟨f,e⟩,d⟩:=h;unfold Z2 Builtin.Range.small Builtin.Range.rangeSize;rcases d with rfl|rfl|rfl|rfl|rfl
 all_goals
  simp only[Builtin.Range.rangeFitsLong,bA7,bX,decide_eq_true_eq,beq_iff_eq,gt_iff_lt,Int.neg_neg,Int.ediv_one];refine⟨?_,?_,by decide,by decide⟩
  .split
   .split<;>omega
   .split<;>omega
  .refine⟨⟨by omega,?_⟩,.inr ?_⟩
   .constructor
    .repeat' split
     all_goals omega
    .repeat' split
     all_goals omega
   .simp
    omega
theorem WQ{s:sH7}{R:It->Hp->Prop}{lo hi c:Int}{t u v:Tok}(I:L2.Inv X pQ O H s)(ok:Yg lo hi c=true)(q:R (Its lo c (Z2 lo hi c)) H):wpAny (model X.prog X.w) X.A (pyIter (.ref s.heap.objs.size)) (PIE X pQ O tg R) E { s with heap:=s.heap.push { cls:=.type "range",data:=.fields #[.int lo t,.int hi u,.int c v] },toks:=tk }:=by
 obtain⟨f,d,_,_⟩:=XZ ok;refine wpAny_pyIter_range (IsRange.new ..) d ?_;have a:L2.Inv X pQ O H { s with heap:=s.heap.push { cls:=.type "range",data:=.fields #[.int lo t,.int hi u,.int c v] },toks:=tk }:=I.kept λb o e=>aQ _ e
 refine⟨(s.heap.push { cls:=.type "range",data:=.fields #[.int lo t,.int hi u,.int c v] }).objs.size,[(s.heap.push { cls:=.type "range",data:=.fields #[.int lo t,.int hi u,.int c v] }).objs.size],_,_,H,rfl,
  a.kept (t':=tk) λb o e=>aQ _ e,Jx _ lo c (Z2 lo hi c),?_,λb g=>?_,q⟩
 .have i:lo+((0:Nat):Int) * c=lo:=by simp
  have h:((Z2 lo hi c:Nat):Int) - ((0:Nat):Int)=Builtin.Range.rangeSize lo hi c:=by rw[f];simp
  show IsRangeIter _ _ (lo+((0:Nat):Int) * c) (((Z2 lo hi c:Nat):Int) - ((0:Nat):Int)) c;rw[i,h];exact aW _ rfl
 .have e:b=(s.heap.push { cls:=.type "range",data:=.fields #[.int lo t,.int hi u,.int c v] }).objs.size:=by simpa using g
  subst e;exact a.fpOk (aF _) (a.hok.fresh (aF _))
theorem Ju{p:Pos}(D:Gl X "range")(C:X.mg "range"=none)(E:PA X as ta)(g:as.all Zj=true)(hl:(∃ a b,as=[a,b])\/∃ a b c,as=[a,b,c]):PI X tg (.Call (.Name "range" p) as [] pos) (ZdH ta):=by
 intro pQ s O H R I h;have u:∀ {m:Li vL}{n:sH7}{vs:Li V}{x:Hp},L2.Inv X pQ O x n->Vals vs m->(∃ (i j c:Int),(vs=[.int i,.int j]/\c=1\/vs=[.int i,.int j,.int c])/\Yg i j c=true/\R (Its i c (Z2 i j c)) x)->
   wpAny (model X.prog X.w) X.A (call (.type "range") m) (λv J=>wpAny (model X.prog X.w) X.A (pyIter v) (PIE X pQ O tg R) X.xe J) X.xe n:=λ{m n vs x} l k o=>by
  obtain⟨i,j,c,e,ok,q⟩:=o;rcases e with⟨rfl,rfl⟩|rfl
  .cases k with
   |cons r f=>
    cases f with
    |cons y f=>
     cases f;obtain⟨t,rfl⟩:=r;obtain⟨t',rfl⟩:=y;exact call_range_2 (WQ l ok q)
  .cases k with
   |cons r f=>
    cases f with
    |cons y f=>
     cases f with
     |cons K f=>
      cases f;obtain⟨t,rfl⟩:=r;obtain⟨t',rfl⟩:=y;obtain⟨L,rfl⟩:=K;obtain⟨_,_,G,F⟩:=XZ ok;exact call_range_3 G (WQ l ok q) (.inl (PyProof.noPylong_small F))
 rcases hl with⟨a,b,rfl⟩|⟨a,b,c,rfl⟩
 .rw[aY,aY,bA7,bA7]at g
  have d:starEach [b] X.env=[(false,eval b X.env)]:=Zf g.2.1;have B:starEach [a,b] X.env=[(false,eval a X.env),(false,eval b X.env)]:=by rw[Zf g.1,d]
  exact Call_ (ld_blt I D C boot_range (PyProof.Rows.callWith_type1 (thn (E pos pQ s O H _ I h) λm n ⟨vs,x,l,k,o⟩=>u l k o) (by rw[B,d]) (by rw[d];rfl)))
 .rw[aY,aY,aY,bA7,bA7,bA7]at g
  have z:starEach [c] X.env=[(false,eval c X.env)]:=Zf g.2.2.1;have d:starEach [b,c] X.env=[(false,eval b X.env),(false,eval c X.env)]:=by rw[Zf g.2.1,z]
  have B:starEach [a,b,c] X.env=[(false,eval a X.env),(false,eval b X.env),(false,eval c X.env)]:=by rw[Zf g.1,d]
  exact Call_ (ld_blt I D C boot_range (PyProof.Rows.callWith_type1 (thn (E pos pQ s O H _ I h) λm n ⟨vs,x,l,k,o⟩=>u l k o) (by rw[B,d]) (by rw[d];rfl)))
theorem X5(K:Cxt X G F sc N)(h:Xd G sc it=some as):∃ p pos,it=.Call (.Name "range" p) as [] pos/\Gl X "range"/\X.mg "range"=none/\((∃ a b,as=[a,b])\/∃ a b c,as=[a,b,c]):=by
 obtain⟨bs,i,g⟩:=cP.mp h;obtain⟨p,pos,rfl,e,d⟩:=W5 K i;refine Yq g λhl f=>?_
 cases f;refine⟨p,pos,rfl,e,d,?_⟩;cases as with
 |nil=>rcases hl with hl|hl<;>cases hl
 |cons a as=>cases as with
  |nil=>rcases hl with hl|hl<;>cases hl
  |cons b as=>cases as with
   |nil=>exact .inl ⟨_,_,rfl⟩
   |cons c as=>cases as with
    |nil=>exact .inr ⟨_,_,_,rfl⟩
    |cons _ _=>rcases hl with hl|hl<;>cases hl
theorem Zdc(d:Yz G F n)(a:ZQ G F n)(K:CxtS X G F sc N){c:CS}{x:Str}{b:Li Stmt}{p:Pos}(f:Xd G sc it=some as)(h:o3 CS.for3 (N.idxOf? x) (cEs G n sc N as) (cSs G n sc N b)=some c):PS X (.For (.Name x p) it b [] pos) (tS X.K (ex F c)):=by
 refine Xr (P:=λc=>PS X _ (tS X.K (ex F c))) h λi o q hi l m=>?_
 obtain⟨r,p2,rfl,k,g,j⟩:=X5 K.toCxt f;obtain⟨A,_,e,_⟩:=d X sc N K.toCxt as o l;exact Zv (ps_for (YE K) K.calm (Ju k g A e j) (Yc K hi) (a X sc N K _ q m) (ZH rfl)) Zat
theorem Zda(e:Zo G F n)(d:ZQ G F n)(K:CxtS X G F sc N){c:CS}{x:Str}{b:Li Stmt}{p:Pos}(h:(match ZU G sc it with
   |some a=>o3 (λi c b=>CS.for1 i true c b) (N.idxOf? x) (cE G n sc N a) (cSs G n sc N b)
   |none=>o3 (λi c b=>CS.for1 i false c b) (N.idxOf? x) (cE G n sc N it) (cSs G n sc N b))=some c):PS X (.For (.Name x p) it b [] pos) (tS X.K (ex F c)):=by
 cases j:ZU G sc it with
 |some a=>
  rw[j]at h;refine Xr (P:=λc=>PS X _ (tS X.K (ex F c))) h λi o g hi q f=>?_
  obtain⟨m,l⟩:=XY K.toCxt j (Zg q) (e X sc N K.toCxt a _ q).pe;exact Zv (ps_for (YE K) K.calm l (Yc K hi) (d X sc N K _ g f) (ZH m)) Zay
 |none=>
  rw[j]at h;refine Xr (P:=λc=>PS X _ (tS X.K (ex F c))) h λi o g hi q f=>?_
  have A:=(e X sc N K.toCxt _ _ q).pe;have k:=ZH (env:=X.env) (Zg q);exact Zv (Zbk (ps_for (YE K) K.calm (pi_tup A) (Yc K hi) (d X sc N K _ g f) k) (ps_for (YE K) K.calm (pi_list A) (Yc K hi) (d X sc N K _ g f) k)) Zaw
theorem Y1{s:sH7}{wr:Li Ad}(I:L2.Inv X pQ O H s)(d:∀ b∈wr,FpOk X pQ H b)(k:∀ b o,b∉wr->s.heap.get? b=some o->h'.get? b=some o):L2.Inv X pQ O H { s with heap:=h',toks:=t' }:=by
 have g:∀ b u,H b=some u->b∉wr:=λb u e f=>by have:=(d b f).1;rw[e]at this;cases this
 refine I.step (g':=s.gens) (d':=s.drawn) (ch:=wr) (λb f=>⟨(d b f).2.2.2.1,(d b f).2.1,(d b f).2.2.2.2.1,(d b f).2.2.2.2.2⟩) (λb o _ _ a e _=>k b o a e) (λb o _ _ a e _=>⟨o.slots,k b o a e⟩)
  (λb o _ e n=>n) (λb o a e=>⟨o,k b o a e⟩) (λb ys e=>e) (λb o u e=>e) (λb l e=>⟨#[],by rw[e];simp⟩) (λm i=>?_) (λb u e=>?_) I.bare
 .obtain⟨o,es,j,h,r⟩:=i
  exact⟨o,es,j,k _ o (λz=>(d _ z).2.1 rfl) h,r⟩
 .refine(I.hok b u e).stay (λc v a q=>k c v ?_ q) (λc q=>q) λc ys q=>q
  rcases a with z|z
  .rw[z];exact g b u e
  .exact g c _ z
theorem YD{s:sH7}{wr:Li Ad}{T:Ad}{xs:Li V}(I:L2.Inv X pQ O H s)(f:∀ b∈wr,FpOk X pQ H b)(k:∀ b o,b∉wr->s.heap.get? b=some o->h'.get? b=some o)(i:s.heap.objs.size<=T)(new:ObjOk X.prog X.w (upd H T (.tup xs)) h' T (.tup xs)):L2.Inv X pQ O (upd H T (.tup xs)) { s with heap:=h',toks:=t' }:=by
 have g:H T=none:=I.hok.fresh i;have j:∀ b u,s.heap.get? b=some u->b≠T:=λb u e=>bA (aT (aL e) i)
 have h:∀ b u,H b=some u->b∉wr:=λb u e a=>by have:=(f b a).1;rw[e]at this;cases this
 refine I.step (g':=s.gens) (d':=s.drawn) (ch:=wr) (λb a=>⟨(f b a).2.2.2.1,(f b a).2.1,(f b a).2.2.2.2.1,(f b a).2.2.2.2.2⟩) (λb o _ _ d e _=>k b o d e) (λb o _ _ d e _=>⟨o.slots,k b o d e⟩)
  (λb o _ e n=>by rw[upd_ne (j b o e)];exact n) (λb o d e=>⟨o,k b o d e⟩) (λb ys e=>by rw[upd_ne (ne_of_none e g)];exact e) (λb o u e=>by rw[upd_ne (ne_of_none e g)];exact e) (λb x e=>⟨#[],by rw[upd_ne (ne_of_none e g),e];simp⟩) (λm p=>?_) (λb u e=>?_) I.bare
 .obtain⟨o,es,t,l,r⟩:=p
  exact⟨o,es,t,k _ o (λz=>(f _ z).2.1 rfl) l,r⟩
 .by_cases a:b=T
  .subst a;rw[upd_same]at e;cases e;exact new
  .rw[upd_ne a]at e
   refine(I.hok b u e).stay (λc v d q=>k c v ?_ q) (λc q=>by rw[upd_ne (ne_of_none q g)];exact q) λc ys q=>by rw[upd_ne (ne_of_none q g)];exact q
   rcases d with z|z
   .rw[z];exact h b u e
   .exact h c _ z
theorem Vu{s:sH7}{a:Ad}{xs:Li V}(I:L2.Inv X pQ O H s)(g:SqL X.K H a xs)(f:SqL X.K H a ys):ys=xs:=by
 obtain⟨i1,d,⟨i,k,g1,_,_,h⟩,_⟩:=I.list g;obtain⟨i2,c,⟨o2,j,g2,_,_,b⟩,_⟩:=I.list f;rw[g1]at g2;cases g2;rw[h]at b;have e:i1.toArray=i2.toArray:=by injection b
 have e:i1=i2:=by simpa using e
 subst e;exact Vals.inj c d
theorem XR{a b:String}{p:Prop}(h:Value.type a=Value.type b)(n:¬a=b):p:=by
 injection h with h
 exact absurd h n
structure ZD(z TI TO i1 i2:Addr):Prop where
 a:TI≠z
 b:TO≠z
 c:i1≠z
 d:i2≠z
 e:TI≠TO
 f:TI≠i1
 g:TI≠i2
 h:TO≠i1
 i:TO≠i2
 j:i1≠i2
structure ZSt(z TI TO i1 i2 a b:Addr)(i:Nat)(h:Heap):Prop where
 hz:IsZip h z TI TO .none
 hI:IsPair h TI (.ref i1) (.ref i2)
 hO:∃ u v,IsPair h TO u v
 h1:h.IsListIter i1 a i
 h2:h.IsListIter i2 b i
theorem Yx{z TI TO a b l c:Ad}{its:Array vL}(st:ZSt z TI TO i1 i2 a b i h)(hl:h.IsList l its)(k:c∈[z,TO,i1,i2]):l≠c:=by
 rintro rfl
 obtain⟨o,g,f,_⟩:=hl;simp only[aH,bD,or_false]at k;rcases k with rfl|rfl|rfl|rfl
 .have j:h.get? l=some _:=st.hz
  rw[g]at j;cases j;exact XR f (by decide)
 .obtain⟨u,v,e⟩:=st.hO
  have e:h.get? l=some _:=e;rw[g]at e;cases e;exact XR f (by decide)
 .obtain⟨m,g1,d,_⟩:=st.h1
  rw[g]at g1;cases g1;rw[f]at d;exact XR d (by decide)
 .obtain⟨m,g1,d,_⟩:=st.h2
  rw[g]at g1;cases g1;rw[f]at d;exact XR d (by decide)
theorem WW{z TI TO a b:Ad}{its k:Array vL}(d:ZD z TI TO i1 i2)(st:ZSt z TI TO i1 i2 a b i h)(l:h.IsList a its)(p2:h.IsList b k):ZipApart z TI TO i1 i2 a b:=
 have m:z∈[z,TO,i1,i2]/\TO∈[z,TO,i1,i2]/\i1∈[z,TO,i1,i2]/\i2∈[z,TO,i1,i2]:=⟨.head _,.tail _ (.head _),.tail _ (.tail _ (.head _)),.tail _ (.tail _ (.tail _ (.head _)))⟩
 ⟨d.a,d.b,d.c,d.d,d.e,d.f,d.g,d.h,d.i,d.j,Yx st l m.1,Yx st l m.2.1,Yx st l m.2.2.1,Yx st l m.2.2.2,Yx st p2 m.1,Yx st p2 m.2.1,Yx st p2 m.2.2.1,Yx st p2 m.2.2.2⟩
theorem QV{z TI TO c:Ad}(h:c∈[z,TO,i1,i2]):c∈[z,TI,TO,i1,i2]:=by
 rcases aH.mp h with rfl|h
 .exact .head _
 .exact .tail _ (.tail _ h)
theorem QW{z TI TO a b c:Ad}(st:ZSt z TI TO i1 i2 a b i h)(d:c∈[z,TI,TO,i1,i2]):∃ o,h.get? c=some o/\∀ v,o.data≠.cell v:=by
 obtain⟨e,g,⟨u,v,f⟩,⟨l,g1,_,k⟩,⟨o2,g2,_,j⟩⟩:=st;simp only[aH,bD,or_false]at d;rcases d with rfl|rfl|rfl|rfl|rfl
 .exact⟨_,e,λv q=>by cases (show Data.fields _=Data.cell v from q)⟩
 .exact⟨_,g,λv q=>by cases (show Data.seq _ _=Data.cell v from q)⟩
 .exact⟨_,f,λv q=>by cases (show Data.seq _ _=Data.cell v from q)⟩
 .exact⟨_,g1,λv q=>by rw[k]at q;cases q⟩
 .exact⟨_,g2,λv q=>by rw[j]at q;cases q⟩
theorem Zbm{xs:Li V}{its:Li vL}{x:V}(r:Vals xs its)(ex:xs[i]?=some x)(a:its.toArray[i]?=some u):RelV x u:=by
 obtain⟨d,c,b⟩:=r.get ex;rw[eH,c]at a;cases a;exact b
theorem ZbL{z TI TO a b:Ad}(d:ZD z TI TO i1 i2)(V:X.calm=true){s:sH7}(I:L2.Inv X pQ O H s)(M:∀ c∈[z,TI,TO,i1,i2],FpOk X pQ H c)(st:ZSt z TI TO i1 i2 a b i s.heap)(U:(Itz X.K a b).go i H) :
  wpAny (model X.prog X.w) X.A (pyNext (.ref z)) (λr Q=>∃ u,r=some u/\wpAny (model X.prog X.w) X.A (letOwnedTupleGo (.Tuple elts kk pos) (.ref z) u) (λ_ D=>∃ x H',L2.Inv X pQ O H' D/\RelV x u/\(Itz X.K a b).yld i H x H'/\ZSt z TI TO i1 i2 a b (i+1) D.heap/\∀ c∈[z,TI,TO,i1,i2],H' c=none) E Q) E s:=by
 obtain⟨xs,ys,x,y,j,h,ex,B⟩:=U;obtain⟨m,G,J,_⟩:=I.list j;obtain⟨l,F,p2,_⟩:=I.list h;have W:=WalksT.zip2 (prog:=X.prog) (w:=X.w) (A:=X.A) (I.ok.hd V) z TI TO i1 i2 a b (WW d st J.isList p2.isList) m.toArray l.toArray;have l1:=G.length;have l2:=F.length;have ix:i < xs.length:=(bF.mp ex).1;have iy:i < ys.length:=(bF.mp B).1
 refine W.item i s _ _ (by rw[aM,aM];omega) ⟨st.hz,st.hI,st.hO,st.h1,st.h2,J.isList,p2.isList⟩ λT C h' tk S p tup k R=>?_
 obtain⟨u,v,Y,ev,rfl⟩:=S;refine⟨.ref T,rfl,W.go elts kk pos i T _ _ _ k λt f L=>?_⟩
 have Z:L2.Inv X pQ O (upd H T (.tup [x,y])) { s with heap:=t,toks:=tk }:=YD (wr:=[z,TO,i1,i2]) I (λc g=>M c (QV g)) (λc o n e=>L c o n (R c o n e)) p ⟨show 2<=sizeLine by decide,[u,v],.cons (Zbm G ex Y) (.cons (Zbm F B ev) .nil),tup.at λo e=>L T o (W.apart i T h' k) e⟩
 refine⟨.ref T,upd H T (.tup [x,y]),Z,rfl,⟨T,x,y,rfl,I.hok.fresh p,rfl,λP q=>by rw[Vu I j q];exact ex,λN q=>by rw[Vu I h q];exact B⟩,⟨f.1,f.2.1,f.2.2.1,f.2.2.2.1,f.2.2.2.2.1⟩,λc g=>?_⟩
 obtain⟨o,e,_⟩:=QW st g;rw[upd_ne λq=>absurd (aL e) (Nat.not_lt.mpr (by rw[q];exact p))]
 exact(M c g).1
theorem ZbK{z TI TO a b:Ad}(d:ZD z TI TO i1 i2)(F:X.calm=true){s:sH7}(I:L2.Inv X pQ O H s)(D:∀ c∈[z,TI,TO,i1,i2],FpOk X pQ H c)(st:ZSt z TI TO i1 i2 a b i s.heap)(C:(Itz X.K a b).stop i H) :
  wpAny (model X.prog X.w) X.A (pyNext (.ref z)) (λr t=>r=none/\L2.Inv X pQ O H t) E s:=by
 obtain⟨xs,ys,m,l,B⟩:=C;obtain⟨h,y,p,_⟩:=I.list m;obtain⟨g,x,p2,_⟩:=I.list l;obtain⟨u,v,G⟩:=st.hO;have L:=y.length;have J:=x.length;have j:h.toArray[i]?=none\/g.toArray[i]?=none:=by
  rw[eH,eH,cZ,cZ];omega
 refine wpAny_pyNext_zip_end (I.ok.hd F) (WW d st p.isList p2.isList) st.hz st.hI G st.h1 st.h2 p.isList p2.isList j λh' k=>⟨rfl,Y1 (wr:=[z,TO,i1,i2]) I (λc n=>D c (QV n)) λc o f e=>?_⟩
 exact k c o (λq=>f (by rw[q];exact .head _)) (λq=>f (by rw[q];exact .tail _ (.head _))) (λq=>f (by rw[q];exact .tail _ (.tail _ (.head _)))) (λq=>f (by rw[q];exact .tail _ (.tail _ (.tail _ (.head _))))) e
theorem ZbG{P:Program}{K:fG7}(z TI TO i1 i2 a b:Ad)(d:ZD z TI TO i1 i2):Turn P w K (.Tuple elts kk pos) (Itz K a b) [z,TI,TO,i1,i2] z (ZSt z TI TO i1 i2 a b) where
 mem:=.head _
 obj:=λi h st c f=>QW st f
 keep:=λi h h' st k=>by
  obtain⟨p,r,⟨u,v,q⟩,x,t⟩:=st;exact⟨k z (.head _) _ p,k TI (.tail _ (.head _)) _ r,⟨u,v,k TO (.tail _ (.tail _ (.head _))) _ q⟩,x.at λo e=>k i1 (.tail _ (.tail _ (.tail _ (.head _)))) o e,t.at λo e=>k i2 (.tail _ (.tail _ (.tail _ (.tail _ (.head _))))) o e⟩
 item:=λX m g n f i pQ s O H E I l st j=>by
  subst m g n;exact ZbL d f I l st j
 done:=λX m g n f i pQ s O H E I l st j=>by
  subst m g n;exact ZbK d f I l st j
 self:=λ_ _ _ _ _ st h=>wpAny_pyIter_zip st.hz h
theorem Zes:bootBuiltins "zip"=some (.type "zip"):=by decide +kernel
theorem Ze8{x y:Expr}{p:Pos}(L:Gl X "zip")(J:X.mg "zip"=none)(M:PA X [x,y] ta)(t:[x,y].all Zj=true):PI X (.Tuple elts kk tp) (.Call (.Name "zip" p) [x,y] [] pos) (Zgv X.K ta):=by
 intro pQ s O H R I h;rw[aY,aY,bA7,bA7]at t;have f:starEach [y] X.env=[(false,eval y X.env)]:=Zf t.2.1;have G:starEach [x,y] X.env=[(false,eval x X.env),(false,eval y X.env)]:=by rw[Zf t.1,f]
 refine Call_ (ld_blt I L J Zes (PyProof.Rows.callWith_type1 (thn (M pos pQ s O H _ I h) λU d ⟨vs,T,l,B,D⟩=>?_) (by rw[G,f]) (by rw[f];rfl)))
 obtain⟨a,b,rfl,⟨xs,n⟩,⟨ys,m⟩,q⟩:=D;cases B with
 |cons r o=>
  cases o with
  |cons C o=>
   cases o;cases r;cases C;obtain⟨v,_,E,_⟩:=l.list n;obtain⟨u,_,p2,_⟩:=l.list m;have e:∀ {i j:Nat},i≠j->(d.heap.objs.size+i:Nat)≠d.heap.objs.size+j:=λh z=>h (Nat.add_left_cancel z)
   refine call_zip_2 E.isList p2.isList λh' w P N S Q F k=>wpAny_pyIter_zip w ?_
   refine⟨d.heap.objs.size+4,[d.heap.objs.size+4,d.heap.objs.size+2,d.heap.objs.size+3,d.heap.objs.size,d.heap.objs.size+1],_,_,T,rfl,l.kept (t':=d.toks) k,ZbG _ _ _ _ _ a b ⟨e (i:=2) (j:=4) (by decide),e (i:=3) (j:=4) (by decide),e (i:=0) (j:=4) (by decide),e (i:=1) (j:=4) (by decide),e (i:=2) (j:=3) (by decide),e (i:=2) (j:=0) (by decide),e (i:=2) (j:=1) (by decide),e (i:=3) (j:=0) (by decide),e (i:=3) (j:=1) (by decide),e (i:=0) (j:=1) (by decide)⟩,⟨w,P,⟨_,_,N⟩,S,Q⟩,λc g=>?_,q⟩
   have A:d.heap.objs.size<=c:=by
    simp only[aH,bD,or_false]at g;rcases g with rfl|rfl|rfl|rfl|rfl
    .exact dP _ _
    .exact dP _ _
    .exact dP _ _
    .exact aF _
    .exact dP _ _
   exact l.fpOk A (l.hok.fresh A)
section
variable{prog:Program}{w:World}{A:Around}{E:vL->sH7->Prop}{s:sH7}
open Sem (wp)
open AutoSeq1 (wpAny_loadPart')
theorem Uc{it l:Ad}{Q:vL->sH7->Prop}(j:A.handled=none)(b:s.heap.IsTupleIter it l i)(hl:s.heap.IsTuple l items)(n:∀ x h',items[i]?=some x->h'.IsTupleIter it l (i+1)->Heap.SameBut it s.heap h'->Q x { s with heap:=h' })(p:items[i]?=none->∀ h' e,Heap.ExtBut it s.heap h'->(∃ o,h'.get? e=some o/\o.cls=.type "StopIteration")->E (.ref e) { s with heap:=h' }) :
  wpAny (model prog w) A (Builtin.SmallTypes.nextOf (.ref it)) Q E s:=by
 obtain⟨o,d,k,c⟩:=id b;obtain⟨q,g,_,r,h⟩:=hl;unfold Builtin.SmallTypes.nextOf;refine aA (wpAny_callSpecial?_slot (name:=Str.ofString "__next__") b.typeIs PySem.F.slot_tuple_iterator_next
  (wpAny_call_entry PySem.F.slot_tuple_iterator_next b.typeIs PySem.F.entry_tuple_iterator_next ?_ (PySem.F.args_tuple_iterator_next_1 _)))
 show wpAny _ _ (field (.ref it) 0 >>= _) _ _ s;refine aA (wpAny_field d c (x:=.ref l) rfl ?_);show wpAny _ _ (if (Value.ref l==Value.none)=true then _ else _) _ _ s
 rw[if_neg (show ¬((Value.ref l==Value.none)=true) from bF7)];show wpAny _ _ (field (.ref it) 1 >>= _) _ _ s;refine aA (wpAny_field d c (x:=.int i 0) rfl ?_);show wpAny _ _ (seqItems? (.ref l) >>= _) _ _ s;refine aA (wpAny_seqItems g h ?_);cases f:items[i]? with
 |some x=>
  simp only[aZ,f];refine aA (wpAny_setField d c (by simp) (aB ⟨x,rfl,aB (n _ _ f ?_ (Heap.SameBut.update ..))⟩))
  exact⟨_,Heap.get?_update_self _ d (Obj.isFreed_of_fields (Obj.data_mapFields c _)),(Obj.cls_mapFields ..).trans k,by
   rw[Obj.data_mapFields c];simp[rawInt]⟩
 |none=>
  simp only[aZ,f];refine aA (wpAny_rule (aA (wpAny_setField d c (by simp) ?_)))
  show wpAny _ _ (newExc (.type "StopIteration") [] >>= _) _ _ _;refine aA ?_;simp only[newExc,newTuple];refine aA (wpAny_newObj_type ?_ (by size_fits))
  refine aA (m:=firstArgMember _ _) (wpAny_of_eq (a:=Value.none) (by first|rfl | (simp only[firstArgMember];rfl)) ?_)
  refine wpAny_newObj_type ?_ (by size_fits)
  simp only[raiseNew];refine aA (wpAny_handled ?_)
  first|rw[show A.in1.handled=none from j]|rw[j]
  refine aA (aB (wpAny_throw ?_));exact p f _ _ (((Heap.SameBut.update ..).extBut.push _).push _) ⟨_,aW _ rfl,rfl⟩
theorem Jc(f:A.handled=none)(it l:Ad)(c:l≠it)(items:Array vL) :
  Draws prog w A it [it,l] items.size (λi v=>items[i]?=some v) (λi h=>h.IsTupleIter it l i/\h.IsTuple l items) where
 live:=λ_ _ st=>let ⟨o,ho,_⟩:=st.1;⟨o,ho⟩
 frame:=λ_ _ _ st d=>⟨st.1.at λo e=>d it (by simp) o e,st.2.at λo e=>d l (by simp) o e⟩
 item:=λi s Q E hi st g=>Uc f st.1 st.2 (λx h' e b a=>g x h' s.toks e ⟨b,st.2.extBut a.extBut c⟩ a) λe=>absurd e (by simp[hi])
 done:=λs Q E st j=>Uc f st.1 st.2 (λx h' e=>absurd e (by simp)) λ_=>j
theorem Wx(l:Ad)(items:Array vL)(n:Nat)(dct:Ot Ad)(sl:Array (Ot vL)) :
  Meets (Builtin.«enumerate.__new__» ⟨[.type "enumerate",.ref l],[]⟩) (λ_ R s=>s.heap.get? l=some { cls:=.type "tuple",dict:=dct,data:=.seq items n,slots:=sl } /\
   R (.ok (.ret (.ref (s.heap.push { cls:=.type "tuple_iterator",data:=.fields #[.ref l,.int 0 0] }).objs.size)))
    { s with heap:=(s.heap.push { cls:=.type "tuple_iterator",data:=.fields #[.ref l,.int 0 0] }).push { cls:=.type "enumerate",data:=.fields #[.none,.bool false,.ref s.heap.objs.size,rawInt 0,.none,.none] } }):=
 .of_wp λprog w A R s h=>by
  obtain⟨i,g,d,tk,f⟩:=s;obtain⟨a,h⟩:=h;have e:=sub_enumerate;have b:Heap.IsTuple (Shared.heap ⟨i,g,d,tk,f⟩) l items:=⟨_,a,rfl,n,rfl⟩
  wp_walk using wpAny_loadPart' a
  refine wpAny_stack_any λst=>aB ?_
  split
  .rename_i c _ _ _ _ _
   cases (c==Value.type "enumerate")
   .wp_walk using wpAny_loadPart' a,wpAny_pyIter_tuple b
    exact⟨_,rfl,h⟩
   .wp_walk using wpAny_loadPart' a,wpAny_pyIter_tuple b
    exact⟨_,rfl,h⟩
  .wp_walk using wpAny_loadPart' a,wpAny_pyIter_tuple b
   exact⟨_,rfl,h⟩
theorem WG{l:Ad}{Q:vL->sH7->Prop}(i:s.heap.IsTuple l items)(h:∀ h',IsEnum h' (s.heap.objs.size+1) s.heap.objs.size 0 .none->h'.IsTupleIter s.heap.objs.size l 0->h'.objs.size=s.heap.objs.size+2->
   (∀ b o,s.heap.get? b=some o->h'.get? b=some o)->Q (.ref (s.heap.objs.size+1)) { s with heap:=h' }) :
  wpAny (model prog w) A (call (.type "enumerate") [.ref l]) Q E s:=by
 obtain⟨⟨c,dct,j,sl⟩,g,e,n,d⟩:=i;replace e:c=.type "tuple":=e;replace d:j=.seq items n:=d;subst e d;refine callType_new PySem.F.called_enumerate (by decide) (PySem.F.typeCall_enumerate_1 _) (PySem.F.newCall_enumerate_1 _) (λobj=>PySem.F.args_object_init_2 obj _) PySem.F.entry_enumerate_new
  (Wx l items n dct sl) ⟨g,?_⟩
 have a:(s.heap.push { cls:=.type "tuple_iterator",data:=.fields #[.ref l,.int 0 0] }).objs.size=s.heap.objs.size+1:=Heap.size_push ..;show _/\_;rw[a];have f:IsEnum ((s.heap.push { cls:=.type "tuple_iterator",data:=.fields #[.ref l,.int 0 0] }).push
   { cls:=.type "enumerate",data:=.fields #[.none,.bool false,.ref s.heap.objs.size,rawInt 0,.none,.none] }) (s.heap.objs.size+1) s.heap.objs.size 0 .none:=by
  have:=aW (s.heap.push { cls:=.type "tuple_iterator",data:=.fields #[.ref l,.int 0 0] })
   (o:={ cls:=.type "enumerate",data:=.fields #[.none,.bool false,.ref s.heap.objs.size,rawInt 0,.none,.none] }) rfl
  rw[a]at this;exact this
 refine⟨⟨_,f,rfl⟩,h _ f ⟨_,aQ _ (aW _ rfl),rfl,rfl⟩ (by rw[Heap.size_push,a]) λb o x=>aQ _ (aQ _ x)⟩
end
noncomputable def Ite(sq:Hp->Li V->Prop):It:=
 ⟨λi H=>∃ xs x,sq H xs/\xs[i]?=some x,λi H v H'=>∃ T x,v=.ref T/\H T=none/\H'=upd H T (.tup [.int (i:Int),x])/\∀ xs,sq H xs->xs[i]?=some x,λi H=>∃ xs,sq H xs/\xs.length=i⟩
def Zak(K:fG7)(ta:TA):TI:=λO H R=>ta O H λvs b=>∃ a,vs=[.ref a]/\(((∃ xs,SqL K b a xs)/\R (Ite λH=>SqL K H a) b)\/((∃ xs,SqT K b a xs)/\R (Ite λH=>SqT K H a) b))
theorem WU{P:Program}{K:fG7}{sq:Hp->Li V->Prop}{it1:Nat->Heap->Prop}(e it a:Ad)(d:e≠it)(hi:∀ i h,it1 i h->∃ o,h.get? it=some o/\∀ v,o.data≠.cell v)(hk:∀ i h h',it1 i h->(∀ o,h.get? it=some o->h'.get? it=some o)->it1 i h')(hD:∀ (X:Cx),X.prog=P->X.w=w->X.K=K->X.calm=true->∀ (pQ:Li (Ad×Obj)) (s:sH7) (O:L2.St) (H:Hp) (i:Nat) (xs:Li V),L2.Inv X pQ O H s->(∃ b,IsEnum s.heap e it i b)->it1 i s.heap->sq H xs->
   (∀ ys,sq H ys->ys=xs)/\∃ (its:Li vL) (ob:Heap->Prop),Vals xs its/\a≠e/\ob s.heap/\Draws P w X.A.in1 it [it,a] its.toArray.size (λi v=>its.toArray[i]?=some v) (λi h=>it1 i h/\ob h)) :
  Turn P w K (.Tuple elts kk pos) (Ite sq) [e,it] e (λi h=>(∃ b,IsEnum h e it i b)/\it1 i h) where
 mem:=by simp
 obj:=λi h st c m=>by
  obtain⟨⟨b,j⟩,J⟩:=st;simp only[aH,bD,or_false]at m;rcases m with rfl|rfl
  .exact⟨_,j,λv q=>by cases (show Data.fields _=Data.cell v from q)⟩
  .exact hi i h J
 keep:=λi h h' st k=>by
  obtain⟨⟨b,j⟩,J⟩:=st;exact⟨⟨b,k e (by simp) _ j⟩,hk i h h' J λo g=>k it (by simp) o g⟩
 item:=by
  intro X C z F m i pQ s O H E I L st S;obtain⟨xs,x,R,ex⟩:=S;obtain⟨f,its,ob,r,Q,N,D⟩:=hD X C z F m pQ s O H i xs I st.1 st.2 R;subst C z F;have W:=WalksT.enumerateD D e d (by simp only[aH,bD,or_false];exact λq=>q.elim d λq=>Q q.symm) (by simp)
  have l1:=r.length;have ix:i < xs.length:=(bF.mp ex).1;refine W.item i s _ _ (by simp;omega) ⟨st.1,st.2,N⟩ λT Y h' tk hv U tup y k1=>?_
  obtain⟨t,u,eu,rfl⟩:=hv;refine⟨.ref T,rfl,W.go elts kk pos i T _ _ _ y λG p Z=>?_⟩
  have nT:=W.apart i T h' y;have ru:RelV x u:=by
   obtain⟨u',M,e2⟩:=r.get ex;have:its[i]?=some u:=by simpa using eu
   rw[this]at M;cases M;exact e2
  have n:G.IsTuple T #[.int i t,u]:=tup.at λo g=>Z T o nT g
  have I2:L2.Inv X pQ O (upd H T (.tup [.int (i:Int),x])) { s with heap:=G,toks:=tk }:=YD (wr:=[e,it]) I L (λc o B g=>Z c o B (k1 c o B g)) U ⟨show 2<=sizeLine by decide,[.int i t,u],.cons ⟨t,rfl⟩ (.cons ru .nil),n⟩
  refine⟨.ref T,_,I2,rfl,⟨T,x,rfl,I.hok.fresh U,rfl,λxs' q=>by rw[f _ q];exact ex⟩,⟨p.1,p.2.1⟩,λc l=>?_⟩
  have:c≠T:=λq=>by
   have lt:∀ {o},s.heap.get? c=some o->False:=λg=>absurd (aL g) (Nat.not_lt.mpr (by rw[q];exact U))
   obtain⟨⟨_,j⟩,J⟩:=st;obtain⟨_,g,_⟩:=hi _ _ J;simp only[aH,bD,or_false]at l;rcases l with rfl|rfl
   .exact lt j
   .exact lt g
  rw[upd_ne this];exact(L c l).1
 done:=by
  intro X C z F m i pQ s O H E I L st S;obtain⟨xs,R,hle⟩:=S;obtain⟨f,its,ob,r,Q,N,D⟩:=hD X C z F m pQ s O H i xs I st.1 st.2 R;subst C z F;have W:=WalksT.enumerateD D e d (by simp only[aH,bD,or_false];exact λq=>q.elim d λq=>Q q.symm) (by simp)
  have l1:=r.length;have M:i=its.toArray.size:=by simp;omega
  subst M;exact W.done s _ _ ⟨st.1,st.2,N⟩ λh' tk k=>⟨rfl,Y1 (wr:=[e,it]) I L k⟩
 self:=λ_ _ _ _ _ st h=>let ⟨⟨_,j⟩,_⟩:=st;wpAny_pyIter_enum j h
theorem Ud{e it:Ad}{i:Int}{d:vL}{a:Ad}{o:Obj}{n:String}(b:IsEnum h e it i d)(g:h.get? a=some o)(c:o.cls=.type n)(f:¬n = "enumerate"):a≠e:=λq=>by
 subst q;have b:h.get? a=some _:=b;rw[g]at b;cases b;exact XR c λz=>f z.symm
theorem Ue{a b:Ad}{o u:Obj}{n m:String}(g:h.get? a=some o)(c:o.cls=.type n)(g2:h.get? b=some u)(d:u.cls=.type m)(e:¬n=m):a≠b:=λq=>by
 subst q;rw[g]at g2;cases g2;rw[c]at d;exact XR d e
theorem Zb0:bootBuiltins "enumerate"=some (.type "enumerate"):=by decide +kernel
theorem ZcQ{x:Expr}{p:Pos}(M:Gl X "enumerate")(L:X.mg "enumerate"=none)(N:PA X [x] ta)(J:starEach [x] X.env=[(false,eval x X.env)]):PI X (.Tuple elts kk tp) (.Call (.Name "enumerate" p) [x] [] pos) (Zak X.K ta):=by
 intro pQ s O H R I h;refine Call_ (ld_blt I M L Zb0 (PyProof.Rows.callWith_type1 (thn (N pos pQ s O H _ I h) λP d ⟨vs,C,l,F,G⟩=>?_) J rfl))
 obtain⟨a,rfl,q⟩:=G;have D:∀ c∈[d.heap.objs.size+1,d.heap.objs.size],FpOk X pQ C c:=λc m=>by
  have j:d.heap.objs.size<=c:=by
   simp only[aH,bD,or_false]at m;rcases m with rfl|rfl
   .exact dP _ _
   .exact aF _
  exact l.fpOk j (l.hok.fresh j)
 cases F with
 |cons r E=>
  cases E;cases r;rcases q with⟨⟨xs,sq⟩,q⟩|⟨⟨xs,sq⟩,q⟩
  .obtain⟨its,_,n,_⟩:=l.list sq
   refine call_enumerate_list n.isList λh' b e w k=>wpAny_pyIter_enum b ?_
   refine⟨d.heap.objs.size+1,[d.heap.objs.size+1,d.heap.objs.size],_,_,C,rfl,l.kept (t':=d.toks) k,WU (it1:=λi h=>h.IsListIter _ a i) _ _ a (Nat.succ_ne_self _) (λi h st=>?_) (λi h h' st k=>st.at k) (λX y u z j pQ s O H i xs I b e sq=>?_),⟨⟨_,b⟩,e⟩,D,q⟩
   .obtain⟨o,g,_,f⟩:=st
    exact⟨o,g,λv q=>by rw[f]at q;cases q⟩
   .rw[<-y,<-u]
    rw[<-z]at sq ⊢;obtain⟨its,r,p,_⟩:=I.list sq;obtain⟨⟨_,b⟩,⟨o2,g2,B,_⟩⟩:=And.intro b e;obtain⟨o,g,c,_⟩:=p.isList;exact⟨λys t=>Vu I sq t,its,λh=>h.IsList a its.toArray,r,Ud b g c (by decide),p.isList,Draws.list (show X.A.in1.handled=none from I.ok.hd j) _ a (Ue g c g2 B (by decide)) its.toArray⟩
  .obtain⟨its,_,n,_⟩:=l.tuple sq
   refine WG (show d.heap.IsTuple a its.toArray from n) λh' b e w k=>wpAny_pyIter_enum b ?_
   refine⟨d.heap.objs.size+1,[d.heap.objs.size+1,d.heap.objs.size],_,_,C,rfl,l.kept (t':=d.toks) k,WU (it1:=λi h=>h.IsTupleIter _ a i) _ _ a (Nat.succ_ne_self _) (λi h st=>?_) (λi h h' st k=>st.at k) (λX y u z j pQ s O H i xs I b e sq=>?_),⟨⟨_,b⟩,e⟩,D,q⟩
   .obtain⟨o,g,_,f⟩:=st
    exact⟨o,g,λv q=>by rw[f]at q;cases q⟩
   .rw[<-y,<-u]
    rw[<-z]at sq ⊢;obtain⟨its,r,p,_⟩:=I.tuple sq;have p:s.heap.IsTuple a its.toArray:=p;obtain⟨⟨_,b⟩,⟨o2,g2,B,_⟩⟩:=And.intro b e;obtain⟨o,g,c,_⟩:=id p;exact⟨λys t=>I.tuple_inj t sq,its,λh=>h.IsTuple a its.toArray,r,Ud b g c (by decide),p,Jc (show X.A.in1.handled=none from I.ok.hd j) _ a (Ue g c g2 B (by decide)) its.toArray⟩
theorem WN:∀ {xs:Li D}{k i:Nat}{x:D},xs[i]?=some x->(Wn k xs)[i]?=some (.int ((k+i:Nat):Int),x)
 |[],_,_,_,h=>nomatch h
 |x :: xs,k,0,_,h=>by cases h;rfl
 |x :: xs,k,i+1,y,h=>by
  show(Wn (k+1) xs)[i]?=_;rw[WN (show xs[i]?=some y from h),show k+1+i=k+(i+1) by omega]
theorem XN:∀ {xs:Li D}{k:Nat},(Wn k xs).length=xs.length
 |[],_=>rfl
 |x :: xs,k=>congrArg (·+1) XN
theorem Zau{K:fG7}{f:Ex}(E:Ends)(O:L2.St)(H:Hp)(h:tS K (Zag i j fi f) E O H):tFor (Zak K (tCons (tE K fi) tNil)) (gTup K 2 (gCons (gName i) (gCons (gName j) gNil))) (tS K f) E O H:=by
 obtain⟨ad,U,st,r,st',En,S,e,p⟩:=ZO h;unfold Zag at e;split at e
 .rename_i x d N
  split at e
  .rename_i xs ok n
   have t:∀ {sq:Hp->Li V->Prop}{m:Li Ad}{C:Hp} (b:Li Ad->Hp->Prop),(∀ ad H ad' H',Ext ad H ad' H'->b ad H->b ad' H')->b m C->
     (∀ ad H st,b ad H->StOk K ad H st->ok st->∃ vs,Dens K ad H vs xs/\sq H vs)->Ext ad H m C->StOk K m C d->Zf9 K f i j (Ite sq) E O C:=λb R g1 I y B=>
    ⟨_,⟨_,.mk (bH _) (En.mono y) B g1 e (p.later y)⟩,Xq R (λad H st g S o=>by
      obtain⟨vs,u,D⟩:=I ad H st g S o;exact⟨vs,D,by rw[u.length,XN]⟩) λk ad H st q g S o F=>by
      obtain⟨vs,u,D⟩:=I ad H st g S o;have Q:k < xs.length:=by rw[<-XN (k:=0)];exact(bF.mp F).1
      have J:=lG7 Q;rw[WN (k:=0) J,bH]at F;cases F;obtain⟨w,L,Y⟩:=u.get J;exact⟨_,w,⟨vs,w,D,L⟩,.int _,Y,λx H' ⟨pt,Z,X,W,T,P⟩=>⟨pt,X,W,by have z:=P vs D;rw[L]at z;cases z;exact T⟩⟩⟩
   refine⟨ad,U,st,x,d,En,S,N,λv m C y B M=>?_⟩
   cases x with
   |tup ys=>
    cases n;obtain⟨a,vs,rfl,A,u⟩:=M.ofTup;exact⟨a,rfl,.inr ⟨⟨vs,A.sq⟩,t (λad H=>TupAt K H a vs/\Dens K ad H vs xs) (λ_ _ _ _ x g=>⟨g.1.mono x,g.2.mono x⟩) ⟨A,u⟩ (λad H st g _ _=>⟨vs,g.2,g.1.sq⟩) y B⟩⟩
   |lst l=>
    have n:(match d[l]? with
     |some c=>some (c.2,λs=>s[l]?=some c)
     |none=>none)=some (xs,ok):=n
    cases G:d[l]? with
    |none=>rw[G]at n;cases n
    |some c=>
     rw[G]at n;cases n;obtain⟨a,rfl,A⟩:=M.ofLst;obtain⟨vs,u,sq⟩:=B.list A (show d[l]?=some (c.1,c.2) from G);exact⟨a,rfl,.inl ⟨⟨vs,sq⟩,t (λad H=>LA ad H l a) (λ_ _ _ _ x g=>g.mono x) A (λad H st g S e=>S.list g (show st[l]?=some (c.1,c.2) from e)) y B⟩⟩
   |_=>exact Zc n
  .exact Zc e
 .exact Zc e
theorem UM{x:CE}(K:Cxt X G F sc N)(h:Xa G sc it=some a)(b:Zj a=true)(A:PE X a (tE X.K (ev F x))):Zj it=true/\PI X (.Tuple elts kk tp) it (Zak X.K (tCons (tE X.K (ev F x)) tNil)):=by
 obtain⟨as,c,f⟩:=cP.mp h;rw[QL f]at c;obtain⟨_,_,rfl,e,d⟩:=W5 K c;exact⟨rfl,ZcQ e d (pa1 b A) (Zf b)⟩
theorem WL(K:Cxt X G F sc N)(h:XE G sc it=some as):∃ p pos a b,it=.Call (.Name "zip" p) [a,b] [] pos/\as=[a,b]/\Gl X "zip"/\X.mg "zip"=none:=by
 obtain⟨bs,i,g⟩:=cP.mp h;obtain⟨p,pos,rfl,e,d⟩:=W5 K i;refine Yq g λc f=>?_
 cases f;cases as with
 |nil=>cases c
 |cons a as=>cases as with
  |nil=>cases c
  |cons b as=>cases as with
   |nil=>exact⟨p,pos,_,_,rfl,rfl,e,d⟩
   |cons _ _=>cases c
theorem Zbs(d:Zo G F n)(a:ZQ G F n)(K:CxtS X G F sc N){c:CS}{b:Li Stmt}(h:o2 CS.whl (cE G n sc N e) (cSs G n sc N b)=some c):PS X (.While e b [] pos) (tS X.K (ex F c)):=
 ZY (P:=λc=>PS X _ (tS X.K (ex F c))) h λi j f g=>Zv (ps_while (YE K) (d X sc N K.toCxt _ i f).pt (a X sc N K _ j g)) Jn
theorem Zdh(e:Yz G F n)(d:ZQ G F n)(K:CxtS X G F sc N){c:CS}{x y:Str}{b:Li Stmt}{p:Pos}(hi:N.idxOf? x=some i)(l:N.idxOf? y=some j)(g:XE G sc it=some as)(h:o2 (CS.forP i j) (cEs G n sc N as) (cSs G n sc N b)=some c):PS X (.For (.Tuple [.Name x p,.Name y p2] ctx tp) it b [] pos) (tS X.K (ex F c)):=by
 refine ZY (P:=λc=>PS X _ (tS X.K (ex F c))) h λr s o q=>?_
 obtain⟨t,p3,a,u,rfl,rfl,m,k⟩:=WL K.toCxt g;obtain⟨A,_,f,_⟩:=e X sc N K.toCxt _ r o;exact Zv (ps_for (YE K) K.calm (Ze8 m k A f) (pg_tup K.calm (pgs_cons (Yc K hi) (pgs_cons (Yc K l) pgs_nil))) (d X sc N K _ s q) (ZH rfl)) Zax
noncomputable def Itd(a:Ad)(n:Nat):It:=
 ⟨λi H=>i < n/\∃ xs,H a=some (.dN (Z4 xs))/\xs.length=n,λi H v H'=>∃ T,∃ e:Ad×Ad,v=.ref T/\H T=none/\H'=upd H T (.tup [.ref e.1,.ref e.2])/\∀ xs:Li (D×Ad×Ad),H a=some (.dN (Z4 xs))->xs.length=n->∃ k,xs[i]?=some (k,e),λi H=>i=n/\∃ xs,H a=some (.dN (Z4 xs))/\xs.length=n⟩
theorem U2{s:sH7}{a:Ad}{xs:Li (D×Ad×Ad)}(I:L2.Inv X pQ O H s)(e:H a=some (.dN (Z4 xs))):(a==sysModules)=false/\∃ es:Array DictEntry,Raw s.heap a es es.size/\es.toList=Z4 xs X.w:=by
 obtain⟨f,o,es,c,g,b,d⟩:=(show ObjOk X.prog X.w H s.heap a (.dN (Z4 xs)) from I.hok a _ e);exact⟨f,es,⟨o,c,g,b⟩,d⟩
theorem XM{xs:Li (D×Ad×Ad)}(h:es.toList=Z4 xs w):es.size=xs.length:=by
 rw[<-cF,h];unfold Z4;rw[aD]
theorem ZbF{P:Program}{K:fG7}(a it:Ad)(n:Nat):Turn P w K (.Tuple elts kk pos) (Itd a n) [it] it (λi h=>∃ ok f,IsItemIter h it a i n n ok f) where
 mem:=lQ7
 obj:=λi h st b p=>by
  rw[aO.mp p];obtain⟨ok,f,e⟩:=st;exact⟨_,e,λv z=>by cases (show Data.fields _=Data.cell v from z)⟩
 keep:=λi h h' st k=>let ⟨ok,f,e⟩:=st;⟨ok,f,k it lQ7 _ e⟩
 item:=by
  intro X G C J S i pQ s O H E I t st F;subst G C J;obtain⟨hi,xs,r,D⟩:=F;obtain⟨hd,es,d,u⟩:=U2 I r;have Y:=XM u;obtain rfl:es.size=n:=Y.trans D;obtain⟨ok,f,st⟩:=st;have R:i < xs.length:=by omega
  have z:es.toList[i]?=some es[i]:=by rw[Array.getElem?_toList,dJ hi]
  rw[u]at z;unfold Z4 at z;rw[aS,lG7 R]at z;have z:=Option.some.inj z;have U:es[i].key=.ref xs[i].2.1:=by rw[<-z]
  have T:es[i].val=.ref xs[i].2.2:=by rw[<-z]
  refine ZcM st d hi λh' B tup V=>?_
  refine⟨.ref s.heap.objs.size,rfl,wpAny_letOwnedTupleGo_items (s:={ s with heap:=h' }) B λh2 A M=>?_⟩
  have N:s.heap.objs.size≠it:=dD (aL st);have I2:L2.Inv X pQ O (upd H s.heap.objs.size (.tup [.ref xs[i].2.1,.ref xs[i].2.2])) { s with heap:=h2,toks:=s.toks }:=YD (wr:=[it]) I t (λc o m g=>M.extBut c o (λq=>m (aO.mpr q)) (V c o (λq=>m (aO.mpr q)) g)) (aF _) ⟨show 2<=sizeLine by decide,[.ref xs[i].2.1,.ref xs[i].2.2],.cons rfl (.cons rfl .nil),⟨_,M.extBut _ _ N tup,rfl,0,by rw[U,T]⟩⟩
  refine⟨.ref s.heap.objs.size,_,I2,rfl,⟨_,xs[i].2,rfl,I.hok.fresh (aF _),rfl,λys Q Z=>?_⟩,⟨_,_,A⟩,λb p=>?_⟩
  .rw[r]at Q
   have z:=congrFun (HO.dN.inj (Option.some.inj Q)) X.w;unfold Z4 at z;have j:i < ys.length:=by omega
   have L:=congrArg (λl=>l[i]?) z
   simp only[aS,lG7 R,lG7 j,Option.map_some]at L
   injection Option.some.inj L with _ y x
   refine⟨ys[i].1,?_⟩;rw[lG7 j]
   injection y with y
   injection x with x
   exact congrArg some (Prod.ext rfl (Prod.ext y.symm x.symm))
  .rw[aO.mp p,upd_ne N.symm]
   exact(t it lQ7).1
 done:=by
  intro X G C J S i pQ s O H E I t st F;subst G C J;obtain⟨hi,xs,r,D⟩:=F;obtain⟨hd,es,d,u⟩:=U2 I r;obtain rfl:es.size=n:=(XM u).trans D;subst hi;obtain⟨ok,f,st⟩:=st;exact ZeA (I.ok.hd S) st d λh' eb=>⟨rfl,Y1 (wr:=[it]) (t':=s.toks) I t λb o p e=>eb b o (λq=>p (aO.mpr q)) e⟩
 self:=λ_ _ _ _ _ st h=>let ⟨_,_,e⟩:=st;W.kcp_self e h
def Zgu(c:TE):TI:=λO H R=>c O H λx b=>∃ a xs,x=.ref a/\b a=some (.dN (Z4 xs))/\R (Itd a xs.length) b
theorem Ze7{tl:TE}(t:PE X o tl)(f:attributeBase o "items" X.env (eval o X.env)=eval o X.env)(d:(ap.endLine==cp.line)=true):PI X (.Tuple elts kk tp) (.Call (.Attribute o "items" ap) [] [] cp) (Zgu tl):=by
 intro pQ s O H R I h;refine wpAny_Call_method0_late f d (thn (t pQ s O H _ I h) λv g ⟨x,m,l,n,p⟩=>?_)
 obtain⟨a,xs,rfl,e,q⟩:=p;cases n;obtain⟨w,es,c,u⟩:=U2 l e;have r:=XM u;obtain⟨o',k,j,A⟩:=id c;refine⟨"dict", "dict.items",PySem.F.plainAttrs_dict,PySem.F.slot_dict_items,PySem.F.type_dict_items,c.typeIs,λb z=>by cases z;exact⟨o',k,j.2.1⟩,Calls.callWith_builtin rfl (PySem.evalArgs_none ?_)⟩
 refine call_meetsIn PySem.F.slot_dict_items c.typeIs PySem.F.entry_dict_items (PySem.F.args_dict_items_1 _) (Js a w) ⟨⟨es,es.size,c⟩,?_⟩;have i:L2.Inv X pQ O m { g with heap:=g.heap.push { cls:=.type "dict_items",data:=.fields #[.ref a] } }:=l.kept (t':=g.toks) λb o e=>aQ _ e
 refine ZaR (s:={ g with heap:=g.heap.push { cls:=.type "dict_items",data:=.fields #[.ref a] } }) (es:=es) (ep:=es.size) ⟨_,aW _ rfl,rfl,rfl⟩ ⟨o',aQ _ k,j,A⟩ ?_
 refine⟨_,[_],_,_,m,rfl,i.kept (t':=g.toks) λb o e=>aQ _ e,ZbF a _ _,⟨_,_,by rw[<-r];exact aW _ rfl⟩,λb y=>?_,q⟩
 rw[aO.mp y];exact i.fpOk (aF _) (i.hok.fresh (aF _))
theorem EntN.its{K:fG7}{xs:Li (D×Ad×Ad)}(r:EntN K ad H xs ds):(ds.filterMap itQ).length=xs.length/\∀ (k:Nat) (q:D×D),(ds.filterMap itQ)[k]?=some q->∃ x:D×Ad×Ad,xs[k]?=some x/\Den K ad H (.ref x.2.1) q.1/\Den K ad H (.ref x.2.2) q.2:=by
 induction r with
 |nil=>exact⟨rfl,λk q h=>nomatch h⟩
 |@cons a d g f xs ds h ok v r b=>
  have e:(D.tup [a,d] :: ds).filterMap itQ=(a,d) :: ds.filterMap itQ:=rfl;rw[e];refine⟨by rw[aP,aP,b.1],λk q c=>?_⟩
  cases k with
  |zero=>cases c;exact⟨_,rfl,h,v⟩
  |succ k=>exact b.2 k q c
theorem Zav{K:fG7}{f:Ex}(E:Ends)(O:L2.St)(H:Hp)(h:tS K (VR i j fi f) E O H):tFor (Zgu (tE K fi)) (gTup K 2 (gCons (gName i) (gCons (gName j) gNil))) (tS K f) E O H:=by
 obtain⟨ad,U,st,r,st',En,S,e,p⟩:=ZO h;unfold VR at e;split at e
 .rename_i a w P
  split at e
  .rename_i c R
   split at e
   .rename_i ob
    refine⟨ad,U,st,_,w,En,S,P,λv Y H1 C I X=>?_⟩
    obtain⟨l,rfl,F,G⟩:=X.ofDic;have dct:∀ {b:Li Ad}{n:Hp}{d:Za},(b[a]?=some l/\Z8 n l)->StOk K b n d->d[a]?=some c->∃ xs,EntN K b n xs c.2/\n l=some (.dN (Z4 xs)):=λg s o=>by
     obtain⟨xs,⟨r,_⟩,A,_⟩:=s.dict g.1 g.2 (show _=some (c.1,c.2) from o) ob;exact⟨xs,r,A⟩
    obtain⟨xs,y,A⟩:=dct ⟨F,G⟩ I R;refine⟨l,xs,rfl,A,_,⟨_,.mk (Good:=λad H=>ad[a]?=some l/\Z8 H l) (bH _) (En.mono C) I ⟨F,G⟩ e (p.later C)⟩,Xq (λ_ _ _ _ x g=>⟨x.pre _ _ g.1,(x.kd _ _ g.1).mp g.2⟩) (λb n d g s o=>?_) λk b n d q g s o Q=>?_⟩
    .obtain⟨ys,t,u⟩:=dct g s o
     exact⟨by rw[y.its.1],ys,u,by rw[<-t.its.1,y.its.1]⟩
    .obtain⟨ys,t,u⟩:=dct g s o
     have m:ys.length=xs.length:=by rw[<-t.its.1,y.its.1]
     obtain⟨x,D,W,V⟩:=t.its.2 k q Q;refine⟨_,_,⟨by rw[<-m];exact(bF.mp D).1,ys,u,m⟩,W,V,λz H' ⟨T,e2,N,M,L,J⟩=>⟨T,N,M,?_⟩⟩
     obtain⟨Z,B⟩:=J ys u m;rw[D]at B;cases B;exact L
   .exact Zc e
  .exact Zc e
 .exact Zc e
theorem Zdg(g:Zo G F n)(d:ZQ G F n)(K:CxtS X G F sc N){c:CS}{x y:Str}{b:Li Stmt}{p:Pos}(hi:N.idxOf? x=some i)(s:N.idxOf? y=some j)(a:XC it=some e)(h:o2 (CS.forI i j) (cE G n sc N e) (cSs G n sc N b)=some c):PS X (.For (.Tuple [.Name x p,.Name y p2] ctx tp) it b [] pos) (tS X.K (ex F c)):=by
 refine ZY (P:=λc=>PS X _ (tS X.K (ex F c))) h λv w t u=>?_
 unfold XC at a;split at a
 .rename_i o f q m ap cp
  refine Yq a λl k=>?_
  obtain⟨rfl,r⟩:=l;cases k;exact Zv (ps_for (YE K) K.calm (Ze7 (g X sc N K.toCxt _ v t).pe rfl r) (pg_tup K.calm (pgs_cons (Yc K hi) (pgs_cons (Yc K s) pgs_nil))) (d X sc N K _ w u) (ZH rfl)) Zav
 .exact Zc a
theorem Zdf(d:Zo G F n)(a:ZQ G F n)(K:CxtS X G F sc N){c:CS}{x y:Str}{b:Li Stmt}{p:Pos}(hi:N.idxOf? x=some i)(l:N.idxOf? y=some j)(k:X7 G sc it=some e)(h:o2 (CS.forE i j) (cE G n sc N e) (cSs G n sc N b)=some c):PS X (.For (.Tuple [.Name x p,.Name y p2] ctx tp) it b [] pos) (tS X.K (ex F c)):=by
 refine ZY (P:=λc=>PS X _ (tS X.K (ex F c))) h λo q f m=>?_
 obtain⟨g,A⟩:=UM (elts:=[.Name x p,.Name y p2]) (kk:=ctx) (tp:=tp) K.toCxt k (Zg f) (d X sc N K.toCxt _ o f).pe;exact Zv (ps_for (YE K) K.calm A (pg_tup K.calm (pgs_cons (Yc K hi) (pgs_cons (Yc K l) pgs_nil))) (a X sc N K _ q m) (ZH g)) Zau
theorem Zdd(f:Zo G F n)(d:ZQ G F n)(K:CxtS X G F sc N){c:CS}{x y:Str}{b:Li Stmt}{p:Pos}(h:o3 (λ(p:Nat×Nat) (q:Nat×CE) b=>CS.for4 p.1 p.2 q.1 q.2 b) (o2 Prod.mk (N.idxOf? x) (N.idxOf? y)) (o2 Prod.mk (N.idxOf? z) (cE G n sc N it)) (cSs G n sc N b)=some c):PS X (.For (.Tuple [.Name x p,.Name y p2,.Name z p3] ctx tp) it b [] pos) (tS X.K (ex F c)):=
 Xr (P:=λc=>PS X _ (tS X.K (ex F c))) h λu v a k g t=>ZY (P:=λu:Nat×Nat=>PS X _ (tS X.K (ex F (.for4 u.1 u.2 v.1 v.2 a)))) k λi j hi o=>ZY (P:=λv:Nat×CE=>PS X _ (tS X.K (ex F (.for4 i j v.1 v.2 a)))) g λl w m r=>
  λpQ s O H D I q=>by
   obtain⟨_,_,_,_,_,_,_,e,_⟩:=ZO q;cases e
theorem Zdb(d:Zo G F n)(a:ZQ G F n)(K:CxtS X G F sc N){c:CS}{x y:Str}{b:Li Stmt}{p:Pos}(hi:N.idxOf? x=some i)(e:N.idxOf? y=some j)(h:o2 (CS.for2 i j) (cE G n sc N it) (cSs G n sc N b)=some c):PS X (.For (.Tuple [.Name x p,.Name y p2] ctx tp) it b [] pos) (tS X.K (ex F c)):=by
 refine ZY (P:=λc=>PS X _ (tS X.K (ex F c))) h λm l g k=>?_
 have A:=(d X sc N K.toCxt _ m g).pe;have f:=ZH (env:=X.env) (Zg g);exact Zv (Zbk (ps_for (YE K) K.calm (pi_tup A) (pg_tup K.calm (pgs_cons (Yc K hi) (pgs_cons (Yc K e) pgs_nil))) (a X sc N K _ l k) f) (ps_for (YE K) K.calm (pi_list A) (pg_tup K.calm (pgs_cons (Yc K hi) (pgs_cons (Yc K e) pgs_nil))) (a X sc N K _ l k) f)) Zas
theorem ZfL(b:Zo G F n)(K:CxtS X G F sc N){c:CS}{x:Str}{p:Pos}(h:Zek sc N x m ap cp (cE G n sc N e)=some c):PS X (.Expr (.Call (.Attribute (.Name x p) m ap) [e] [] cp) pos) (tS X.K (ex F c)):=by
 refine Yq h λd h=>?_
 by_cases g:m = "append"
 .subst g
  rw[if_pos rfl]at h;exact ZY (P:=λc=>PS X _ (tS X.K (ex F c))) h λi y hi a=>Zv (ps_expr (pe_bm PySem.F.plainAttrs_list PySem.F.slot_list_append PySem.F.type_list_append mt_append (Uk K.toCxt d.1 hi) (pa1 (Zg a) (b X sc N K.toCxt _ y a).pe) rfl (by rw[Zf (Zg a)];rfl) d.2 (Zf (Zg a)) rfl) rfl) Zcg
 .rw[if_neg g]at h
  by_cases f:m = "extend"
  .subst f
   rw[if_pos rfl]at h;exact ZY (P:=λc=>PS X _ (tS X.K (ex F c))) h λi y hi a=>Zv (ps_expr (pe_bm PySem.F.plainAttrs_list PySem.F.slot_list_extend PySem.F.type_list_extend mt_extend (Uk K.toCxt d.1 hi) (pa1 (Zg a) (b X sc N K.toCxt _ y a).pe) rfl (by rw[Zf (Zg a)];rfl) d.2 (Zf (Zg a)) rfl) rfl) Zci
  .rw[if_neg f]at h;cases h
theorem Zc8(d:Zo G F n)(f:We G F n)(K:CxtS X G F sc N){c:CS}(h:Zge N tg e (cE G n sc N e)=some c):PS X (.Assign [tg] e pos) (tS X.K (ex F c)):=by
 have no:∀ {P:Prop},(none:Ot CS)=some c->P:=λz=>nomatch z
 cases tg with
 |Name x p=>exact ZfM d f K h
 |Tuple es ctx tp=>cases es with
  |nil=>exact no h
  |cons a es=>cases a with
   |Name _ _=>cases es with
    |nil=>exact no h
    |cons b es=>cases b with
     |Name _ _=>cases es with
      |nil=>exact Zdj d K h
      |cons g es=>cases g with
       |Name _ _=>cases es with
        |nil=>exact Zdk d K h
        |cons _ _=>exact no h
       |_=>exact no h
     |_=>exact no h
   |_=>exact no h
 |_=>exact no h
theorem Zde(f:Zo G F n)(k:Yz G F n)(d:ZQ G F n)(K:CxtS X G F sc N){c:CS}{b:Li Stmt}(h:ZeJ G sc N (cE G n sc N) (cEs G n sc N) tg it (cSs G n sc N b)=some c):PS X (.For tg it b [] pos) (tS X.K (ex F c)):=by
 have no:∀ {P:Prop},(none:Ot CS)=some c->P:=λz=>nomatch z
 cases tg with
 |Name x p=>
  unfold ZeJ at h;cases r:Xd G sc it with
  |some as=>
   rw[r]at h;exact Zdc k d K r h
  |none=>
   rw[r]at h;exact Zda f d K h
 |Tuple es ctx tp=>cases es with
  |nil=>exact no h
  |cons a es=>cases a with
   |Name x p=>cases es with
    |nil=>exact no h
    |cons v es=>cases v with
     |Name y p2=>cases es with
      |nil=>
       replace h:((o2 (λi j=>og (i≠j) (some (i,j))) (N.idxOf? x) (N.idxOf? y)).join.bind λp=>(match XE G sc it with
        |some as=>o2 (CS.forP p.1 p.2) (cEs G n sc N as) (cSs G n sc N b)
        |none=>match X7 G sc it with
         |some e=>o2 (CS.forE p.1 p.2) (cE G n sc N e) (cSs G n sc N b)
         |none=>match XC it with
          |some e=>o2 (CS.forI p.1 p.2) (cE G n sc N e) (cSs G n sc N b)
          |none=>o2 (CS.for2 p.1 p.2) (cE G n sc N it) (cSs G n sc N b)))=some c:=h
       refine b_e h λq s h=>j_e s λs=>ZY (P:=λo=>o=some q->PS X _ (tS X.K (ex F c))) s (λi j hi l e=>Yq e λ_ e=>?_) rfl
       cases e;cases m:XE G sc it with
       |some as=>
        rw[m]at h;exact Zdh k d K hi l m h
       |none=>
        rw[m]at h;dsimp only at h;cases t:X7 G sc it with
        |some e=>
         rw[t]at h;exact Zdf f d K hi l t h
        |none=>
         rw[t]at h;dsimp only at h;cases g:XC it with
         |some e=>
          rw[g]at h;exact Zdg f d K hi l g h
         |none=>
          rw[g]at h;exact Zdb f d K hi l h
      |cons u es=>cases u with
       |Name _ _=>cases es with
        |nil=>exact Zdd f d K h
        |cons _ _=>exact no h
       |_=>exact no h
     |_=>exact no h
   |_=>exact no h
 |_=>exact no h
theorem Zc7(a:Zo G F n)(K:CxtS X G F sc N){c:CS}{k:Expr}{p:Pos}(h:og (m = "append"/\(ap.endLine==cp.line)=true) (o2 CS.app2 (cE G n sc N (.Subscript o k p)) (cE G n sc N e))=some c):PS X (.Expr (.Call (.Attribute (.Subscript o k p) m ap) [e] [] cp) pos) (tS X.K (ex F c)):=by
 refine Yq h λg h'=>?_
 obtain⟨i,f⟩:=g;subst i;exact ZY (P:=λc=>PS X _ (tS X.K (ex F c))) h' λz y d b=>Zv (ps_expr (pe_bm PySem.F.plainAttrs_list PySem.F.slot_list_append PySem.F.type_list_append mt_append (a X sc N K.toCxt _ z d).pe (pa1 (Zg b) (a X sc N K.toCxt _ y b).pe) rfl (by rw[Zf (Zg b)];rfl) f (Zf (Zg b)) rfl) rfl) Zap
theorem Zc6(a:Zo G F n)(K:CxtS X G F sc N){c:CS}{v:Expr}(h:Zga sc N (cE G n sc N) v=some c):PS X (.Expr v pos) (tS X.K (ex F c)):=by
 have no:∀ {P:Prop},(none:Ot CS)=some c->P:=λz=>nomatch z
 cases v with
 |Call f as b cp=>cases f with
  |Attribute o m ap=>cases o with
   |Name x p=>
    replace h:(if m = "append"\/m = "extend" then (match (generalizing:=false) as,b with
     |[e],[]=>Zek sc N x m ap cp (cE G n sc N e)
     |_,_=>none) else (cE G n sc N (.Call (.Attribute (.Name x p) m ap) as b cp)).map CS.act)=some c:=h
    by_cases d:m = "append"\/m = "extend"
    .rw[if_pos d]at h
     cases as with
     |nil=>exact no h
     |cons e es=>cases es with
      |nil=>cases b with
       |nil=>exact ZfL a K h
       |cons _ _=>exact no h
      |cons _ _=>exact no h
    .rw[if_neg d]at h
     obtain⟨i,g,rfl⟩:=dM.mp h;exact Zv (ps_expr (a X sc N K.toCxt _ i g).pe rfl) QA
   |Subscript o k p=>cases as with
    |nil=>exact no h
    |cons e es=>cases es with
     |nil=>cases b with
      |nil=>exact Zc7 a K h
      |cons _ _=>exact no h
     |cons _ _=>exact no h
   |_=>exact no h
  |Name f j=>exact ZfK a K h
  |_=>exact no h
 |_=>exact no h
theorem Us(d:Zo G F n)(l:Yz G F n)(g:ZQ G F n)(r:We G F n):Uz G F (n+1):=by
 intro X sc N K s c h;have no:∀ {P:Prop},(none:Ot CS)=some c->P:=λz=>nomatch z
 cases s with
 |Assign i e pos=>cases i with
  |nil=>exact no h
  |cons t m=>cases m with
   |cons _ _=>cases t with
    |Subscript o k p=>cases o<;>exact no h
    |Attribute o k p=>cases o<;>exact no h
    |_=>exact no h
   |nil=>cases t with
    |Subscript o k p=>cases o with
     |Name x q=>exact ZfN d K h
     |Attribute o f q=>exact Zc9 d K h
     |_=>exact no h
    |Attribute o k p=>cases o with
     |Name x q=>exact Zdi d K h
     |_=>exact no h
    |_=>exact Zc8 d r K h
 |Return e pos=>cases e with
  |none=>exact no h
  |some e=>exact ZfO d K h
 |If e a b pos=>exact ZgT d g K h
 |While e b j pos=>cases j with
  |cons _ _=>exact no h
  |nil=>exact Zbs d g K h
 |For t it b j pos=>cases j with
  |cons _ _=>exact no h
  |nil=>exact Zde d l g K h
 |Expr v pos=>exact Zc6 d K h
 |Pass pos=>
  cases (show some CS.skip=some c from h)
  exact Zv ps_pass V0
 |Break pos=>
  cases (show some CS.brk=some c from h)
  exact Zv ps_break Zch
 |Raise a b pos=>
  cases (show some CS.stop=some c from h)
  exact λpQ s O H D I q=>by
   obtain⟨_,_,_,_,_,_,_,e,_⟩:=ZO q;cases e
 |Continue pos=>
  cases (show some CS.cont=some c from h)
  exact Zv ps_continue Zaq
 |_=>exact no h
theorem Vt(e:Uz G F n)(d:ZQ G F n):ZQ G F (n+1):=by
 intro X sc N K s c h;cases s with
 |nil=>
  simp only[cSs]at h;cases h;exact QO pss_nil V0
 |cons s r=>
  exact ZY (P:=λc=>PSs X _ (tS X.K (ex F c))) (show o2 CS.seq (cS G n sc N s) (cSs G n sc N r)=some c from h) λa b g f=>QO (pss_cons (e X sc N K s a g) (d X sc N K r b f)) Zcs
end
variable [ClsTab]
def YU(G:Gs)(F:Nat->Fn):Prop:=∀ n,Zo G F n->(∀ X sc N,Cxt X G F sc N->∀ elt gens sc2 pos c,cE G (n+1) sc N (.ListComp elt gens sc2 pos)=some c->SE X F (.ListComp elt gens sc2 pos) c)/\We G F (n+1)
theorem WS{G:Gs}{F:Nat->Fn}(d:YU G F):∀ n,(Zo G F n/\Yz G F n/\WY G F n)/\Uz G F n/\ZQ G F n/\We G F n
 |0=>⟨⟨λX sc N K e c h=>(nomatch (show(none:Ot CE)=some c from h)),λX sc N K e c h=>(nomatch (show(none:Ot CE)=some c from h)),λX sc N K e c h=>(nomatch (show(none:Ot CE)=some c from h))⟩,λX sc N K e c h=>(nomatch (show(none:Ot CS)=some c from h)),λX sc N K e c h=>(nomatch (show(none:Ot CS)=some c from h)),λX sc N K x i p elt gens sc2 j pos c _ h=>(nomatch (show(none:Ot CE)=some c from h))⟩
 |n+1=>by
  obtain⟨⟨a,g,l⟩,k,b,f⟩:=WS d n;exact⟨⟨U7 a g l (d n a).1,Uq a g,Ur a⟩,Us a g b f,Vt k b,(d n a).2⟩
def QX(K:fG7)(G:Gs)(T:Nat->Ot FD)(x y:Str)(i:Nat)(f:Ad)(fd:FuncData)(pn N:Li Str):Prop:=∃ (st:Stmt) (oc:vL) (od:Ot Ad) (dV kV doc pm:vL) (an:Ot Ad) (cdv ct:vL) (osl:Array (Ot vL)) (code:CS),
  fd=W.fnOf x y (defArgs st) (defBody st) (defScope st) dV kV doc pm an cdv ct/\K.lookup f=some ⟨oc,od,.func fd,osl⟩/\W.codeIn K cdv y=true/\FnScope N pn (defScope st)/\(∀ y∈N,Loc (defScope st) y) /\
  cSs G 60 (defScope st) N (defBody st)=some code/\T i=some ⟨pn.length,N.length,code⟩
def ZbU(K:fG7)(mg:Str->Ot vL)(G:Gs)(T:Nat->Ot FD)(i:Nat)(f:Ad)(fd:FuncData)(pn:Li Str):Prop:=∀ (P:Program) (w:World) (base:Heap) (n:Nat),(∀ m,m<=n->∀ A,Room (2 * m+1) A->∀ y g,G.lookup y=some g->GOk P w K mg base A (run T m) y g)->FnOk P w K mg base CX0 (2 * (n+1)) f fd pn (spD K (run T (n+1) i))
structure DefOk(K:fG7)(mg:Str->Option Value)(G:Gs)(T:Nat->Option FD)(x:Str)(i:Nat)(ds:List D)(f:Addr)(fd:FuncData)(pn N:List Str):Prop where
 ob:QX K G T x x i f fd pn N\/ZbU K mg G T i f fd pn
 kp:W.keepIn K (.ref f)=true
 at_:mg x=some (.ref f)
 bn:∀ m,m<=ds.length->∃ dvs us,(∀ ad H,Dens K ad H dvs (ds.drop m))/\Vals dvs us/\Binds K fd pn us
structure MethOk(K:fG7)(G:Gs)(T:Nat->Option FD)(C:Addr)(x y:Str)(i:Nat)(f:Addr)(fd:FuncData)(pn N:List Str):Prop where
 ob:QX K G T x y i f fd pn N
 mt:Meth K C x f
 bn:Binds K fd pn []
structure Text(Pm:Params)(K:fG7)(mg:Str->Option Value)(G:Gs)(T:Nat->Option FD):Prop where
 cst:∀ x d,G.lookup x=some (.c d)->∃ v u,mg x=some u/\RelV v u/\∀ ad H,Den K ad H v d
 blt:∀ x,G.lookup x=some .blt->mg x=none
 dct:∀ x ks ds,G.lookup x=some (.dct ks ds)->Qh Pm K mg x ks ds
 fn:∀ x i ps ds,G.lookup x=some (.fn i ps ds)->∃ f fd pn N,DefOk K mg G T x i ds f fd pn N
 cls:∀ x i ms subs ds,G.lookup x=some (.cls i ms subs ds)->(mg x=some (.ref (ClsTab.ca i))/\NewOk K (ClsTab.ca i)/\∀ i',subs.contains i'=true->SubOk K (ClsTab.ca i') (ClsTab.ca i)) /\
  (∀ m j ps,ms.lookup m=some (j,ps)->∃ y f fd pn N,MethOk K G T (ClsTab.ca i) m y j f fd pn N/\(m = "__init__"->ObC K (ClsTab.ca i)/\∀ n,n<=ds.length->∃ dvs us,(∀ ad H,Dens K ad H dvs (ds.drop n))/\Vals dvs us/\Binds K fd pn us)) /\
  (ms.lookup ("__init__":Str)=none->W.findIn K (.ref (ClsTab.ca i)) "__init__"=some (some (.builtin "object.__init__")))
variable{pn:Li Str}
variable{P:Program}{w:World}{K:fG7}{mg:Str->Ot vL}{base:Heap}{T:Nat->Ot FD}
theorem ZbI{x:Str}(h:Y2 sc x=true):Vis sc x:=by
 unfold Y2 at h;rw[bA7]at h;have h:=h.2;split at h
 .rename_i q;exact .inl q
 .rename_i q;exact .inr (.inl q)
 .rename_i q;exact .inr (.inr q)
 .cases h
theorem Qy{x:Str}(h:ZA sc x=true):sc.names.lookup x=some .globalImplicit:=by
 unfold ZA at h;rw[bA7]at h;have h:=h.2;split at h
 .rename_i q;exact q
 .cases h
theorem Qr{x:Str}(h:Ws sc x=true):sc.names.lookup x=some .cell\/sc.names.lookup x=some .free:=by
 unfold Ws at h;split at h
 .rename_i q;exact .inl q
 .rename_i q;exact .inr q
 .cases h
theorem Jg(h:Dens K ad H vs ds)(hl:ds.length<=N.length):EnvOk K ad H (L2.start N vs) (ds.map some++List.replicate (N.length - ds.length) none):=by
 have e:=h.length;refine⟨by unfold L2.start;simp[e],λi d q=>?_⟩
 by_cases hi:i < ds.length
 .rw[bT (by simpa using hi),aS,lG7 hi]at q
  have a:ds[i]=d:=by simpa using q
  have g:ds[i]?=some d:=by rw[lG7 hi,a]
  obtain⟨v,c,b⟩:=h.get g;refine⟨v,?_,b⟩;unfold L2.start;rw[bT (by simpa[e] using hi),aS,c]
  rfl
 .rw[cI (by simpa using hi),eC]at q
  split at q<;>cases q
theorem Ze6{n:Nat}(O:∀ n,YU G (run T n))(gl:∀ A,Room (2 * n+1) A->∀ y g,G.lookup y=some g->GOk P w K mg base A (run T n) y g){x y:Str}{f:Ad}{fd:FuncData}(ob:QX K G T x y i f fd pn N):FnOk P w K mg base CX0 (2 * (n+1)) f fd pn (spD K (run T (n+1) i)):=by
 obtain⟨st,oc,od,dV,kV,V,Z,an,z,ct,L,code,rfl,M,v,S,l,c,R⟩:=ob;have a:run T (n+1) i=fnD (run T n) ⟨pn.length,N.length,code⟩:=by
  show(match T i with|some f=>fnD (run T n) f|none=>λ_ _=>none)=_
  rw[R]
 refine fn_of (k:=2 * n+1) M v S (λvs H Q E h=>?_) (λA b s H vs Q E D h=>?_)
 .obtain⟨ad,es,st,d,st',_,u,e,_⟩:=h
  rw[a]at e;unfold fnD at e;split at e
  .rename_i t
   rw[u.length];exact t
  .exact Zc e
 .obtain⟨ad,es,Y,d,st',F,u,e,p⟩:=h
  rw[a]at e;unfold fnD at e;split at e
  .rename_i t
   have C:CxtS (cxOf CX0 P w K mg base N y (defScope st) f z A b s H E).nox G (run T n) (defScope st) N:={
    hN:=rfl
    vis:=λy j=>ZbI j
    glb:=λy j=>Qy j
    calm:=rfl
    hu:=D.units
    gl:=gl _ D
    cel:=λy j=>Qr j
    nx:=rfl
    nd:=S.nd
    loc:=l
    fn:=λ_=>rfl }
   have B:=(WS (O n) 60).2.2.1 _ _ _ C _ _ c;have r:pn.length<=N.length:=by have:=congrArg List.length S.pre;rw[bS]at this;omega
   have m:=Jg (N:=N) u (by rw[show es.length=pn.length from t];exact r)
   refine⟨_,B.nox,?_⟩;split at e
   .rename_i d' o q
    cases e;exact ZS m F q p
   .rename_i U o q
    cases e;exact ZS m F q λI W H1 J X E1=>(p.later J).at X .non
   .exact Zc e
  .exact Zc e
theorem Zdp{f:Ad}{fd:FuncData}:FnOk P w K mg base CX0 0 f fd pn (spD K (run T 0 i)):=by
 refine⟨λvs H Q E h=>?_,λA a s H b c vs Q E _ _ _ _ h=>?_⟩
 .obtain⟨_,_,_,_,_,_,_,e,_⟩:=h;cases e
 .obtain⟨_,_,_,_,_,_,_,e,_⟩:=h;cases e
theorem ZdF(X:Text w.params K mg G T)(h:∀ {x y:Str}{i:Nat}{f:Ad}{fd:FuncData}{pn N:Li Str},QX K G T x y i f fd pn N\/ZbU K mg G T i f fd pn->FnOk P w K mg base CX0 (2 * n) f fd pn (spD K (run T n i)))(A:Around)(e:Room (2 * n+1) A):∀ y g,G.lookup y=some g->GOk P w K mg base A (run T n) y g:=λy g a=>by
 cases g with
 |c d=>exact X.cst y d a
 |blt=>exact X.blt y a
 |dct ks ds=>exact X.dct y ks ds a
 |fn j k es=>
  obtain⟨f,fd,pn,N,b⟩:=X.fn y j k es a;exact⟨2 * n,f,fd,pn,h b.ob,e.mono (cH _),b.at_,b.kp,b.bn⟩
 |cls i ms subs ds=>
  obtain⟨⟨u,t,s⟩,r,q⟩:=X.cls y i ms subs ds a;refine⟨u,t,s,λm j l o=>?_,q⟩
  obtain⟨z,f,fd,pn,N,Mk,p⟩:=r m j l o;exact⟨2 * n,f,fd,pn,h (.inl Mk.ob),e,Mk.mt,Mk.bn,p⟩
theorem UC(b:∀ n,YU G (run T n))(X:Text w.params K mg G T):∀ (n m:Nat),m<=n->∀ {x y:Str}{i:Nat}{f:Ad}{fd:FuncData}{pn N:Li Str},QX K G T x y i f fd pn N\/ZbU K mg G T i f fd pn->FnOk P w K mg base CX0 (2 * m) f fd pn (spD K (run T m i))
 |n,0,_,_,_,_,_,_,_,_,_=>Zdp
 |n+1,m+1,h,_,_,_,_,_,_,_,.inl ob=>Ze6 b (λA a=>ZdF X (λob=>UC b X n m (Nat.le_of_succ_le_succ h) ob) A a) ob
 |n+1,m+1,h,_,_,_,_,_,_,_,.inr d=>d P w base m λl c A a=>ZdF X (λob=>UC b X n l (aK c (Nat.le_of_succ_le_succ h)) ob) A a
theorem Zej(a:∀ n,YU G (run T n))(X:Text w.params K mg G T)(n:Nat){x y:Str}{f:Ad}{fd:FuncData}(h:QX K G T x y i f fd pn N\/ZbU K mg G T i f fd pn):FnOk P w K mg base CX0 (2 * n) f fd pn (spD K (run T n i)):=UC a X n n (aF _) h
variable [ClsTab]
variable{ad:Li Ad}{H:Hp}{ys:Li V}
section
variable{p:Ad}{xs:Li V}
theorem UU(b:H p=some (.lst xs)){a:Ad}:Z8 H a↔Z8 (upd H p (.lst ys)) a:=Qb (Vk b rfl) rfl
theorem UQ{K:fG7}(a:H p=some (.lst xs)):Keeps K ad ad H (upd H p (.lst ys)):=⟨λh=>h.upd a (by intro xs z;cases z),λh=>⟨h,UU a⟩,λh n=>⟨by rw[upd_ne (ne_of h a (by intro z;cases z))];exact h,n⟩⟩
theorem Den.wr{K:fG7}(a:H p=some (.lst xs)){v:V}(h:Den K ad H v d):Den K ad (upd H p (.lst ys)) v d:=h.map (UQ a)
theorem Dens.wr{K:fG7}(a:H p=some (.lst xs))(h:Dens K ad H vs ds):Dens K ad (upd H p (.lst ys)) vs ds:=h.map (UQ a)
theorem EnvOk.wr{K:fG7}(a:H p=some (.lst xs))(h:EnvOk K ad H O U):EnvOk K ad (upd H p (.lst ys)) O U:=⟨h.len,λi d e=>let ⟨v,e1,e2⟩:=h.at_ i d e;⟨v,e1,e2.wr a⟩⟩
theorem StOk.wr{K:fG7}(S:StOk K ad H st)(a:H p=some (.lst xs))(b:p∉ad):StOk K ad (upd H p (.lst ys)) st:=
 S.wrG (UQ a) b
theorem Ext.wr{c:Li Ad}{d:Hp}(x:Ext c d ad H)(g:H p=some (.lst xs))(e:d p=none):Ext c d ad (upd H p (.lst ys)):=by
 refine⟨x.pre,λb f h=>?_,λb o h n=>?_,x.new,λi a h=>(x.kd i a h).trans (UU g)⟩
 .rw[upd_ne (ne_of_none h e)];exact x.tup b f h
 .rw[upd_ne (ne_of_none h e)];exact x.keep b o h n
end
theorem Ww{c:Str->NameKind->Bool}:∀ {l:Li (Str×NameKind)}{y:Str},(l.map λ(n,k)=>if c n k=true then (n,NameKind.cell) else (n,k)).lookup y=(l.lookup y).map λk=>if c y k=true then NameKind.cell else k
 |[],_=>rfl
 | (n,k) :: r,y=>by
  have a:=@Ww c r y;rw[aJ];have e:(if c n k=true then (n,NameKind.cell) else (n,k))=(n,if c n k=true then NameKind.cell else k):=by split<;>rfl
  show List.lookup y ((if c n k=true then (n,NameKind.cell) else (n,k)) :: _)=_
  rw[e,bQ,bQ];cases q:y==n with
  |true=>rw[beq_iff_eq.mp q];rfl
  |false=>exact a
theorem Yt{env:PySem.Env}{y:Str}:(relabel sc env).names.lookup y=(sc.names.lookup y).map λk=>if (k==NameKind.free&&env.scope.kind==.function&&env.kindOf y==some .cell)=true then NameKind.cell else k:=
 Ww (c:=λn k=>k==NameKind.free&&env.scope.kind==.function&&env.kindOf n==some .cell)
theorem YF{y:Str}{k:NameKind}(h:sc.names.lookup y=some k)(hk:k≠.free):(relabel sc env).names.lookup y=some k:=by
 rw[Yt,h];have:(k==NameKind.free)=false:=by simpa using hk
 show some (if (k==NameKind.free&&_&&_)=true then NameKind.cell else k)=some k
 rw[this,dE,dE,if_neg bF7]
theorem YR{y:Str}(h:sc.names.lookup y=some .free):(relabel sc env).names.lookup y=some .cell\/(relabel sc env).names.lookup y=some .free:=by
 rw[Yt,h];show(some (if _ then NameKind.cell else NameKind.free))=_\/(some (if _ then NameKind.cell else NameKind.free))=_
 split
 .exact .inl rfl
 .exact .inr rfl
theorem Vm{sc:Scope}{y:Str}(d:∀ p∈sc.names,p.2≠.cell)(h:(relabel sc env).names.lookup y=some .cell\/(relabel sc env).names.lookup y=some .free):sc.names.lookup y=some .free:=by
 rw[Yt]at h;cases q:sc.names.lookup y with
 |none=>rw[q]at h;rcases h with h|h<;>cases h
 |some k=>
  rw[q]at h;cases k with
  |free=>rfl
  |cell=>
   have:∀ {l:Li (Str×NameKind)},l.lookup y=some .cell->∃ p∈l,p.2=.cell:=λ{l} e=>by
    induction l with
    |nil=>exact Zc e
    |cons a l c=>
     obtain⟨n,k⟩:=a;rw[bQ]at e;split at e
     .cases e;exact⟨_,lQ7,rfl⟩
     .obtain⟨p,b,f⟩:=c e;exact⟨p,lM7 _ b,f⟩
   obtain⟨p,b,e⟩:=this q;exact absurd e (d p b)
  |_=>rcases h with h|h<;>simp at h
theorem Xm{env:PySem.Env}:∀ (l:Li (Str×NameKind)) (b:Li (Str×Ad)),(∀ p∈l,p.2=.free->∃ c,env.cells.lookup p.1=some c)->
  ∃ d,(forIn l b λ(x:Str×NameKind) (r:Li (Str×Ad))=>(do
   if (x.2==NameKind.free)=true then
    let a <-cellOf env x.1
    pure (ForInStep.yield ((x.1,a) :: r))
   else pure (ForInStep.yield r):Sem (ForInStep (Li (Str×Ad)))))=pure d /\
   (∀ y c,d.lookup y=some c->b.lookup y=some c\/((y,NameKind.free)∈l/\env.cells.lookup y=some c))/\(∀ y,(y,NameKind.free)∈l\/(b.lookup y).isSome->(d.lookup y).isSome)
 |[],b,_=>⟨b,by simp only[List.forIn_nil],λy c h=>.inl h,λy h=>by simpa using h⟩
 | (n,k) :: l,b,h=>by
  by_cases m:k=.free
  .subst m
   obtain⟨t,f⟩:=h (n,.free) lQ7 rfl;obtain⟨d,e,s,o⟩:=Xm (env:=env) l ((n,t) :: b) λp j=>h p (lM7 _ j)
   refine⟨d,?_,λy c q=>?_,λy q=>?_⟩
   .rw[List.forIn_cons]
    simp only[beq_self_eq_true,if_true];have:cellOf env n=pure t:=by unfold cellOf;rw[f]
    simp only[this,pure_bind];exact e
   .rcases s y c q with z|⟨i,g⟩
    .rw[bQ]at z
     split at z
     .rename_i u
      cases z;rw[beq_iff_eq.mp u];exact .inr ⟨lQ7,f⟩
     .exact .inl z
    .exact .inr ⟨lM7 _ i,g⟩
   .refine o y ?_
    rcases q with q|q
    .rcases aH.mp q with z|z
     .cases z
      exact .inr (by rw[bQ];simp)
     .exact .inl z
    .refine .inr ?_
     rw[bQ];split
     .rfl
     .exact q
  .obtain⟨d,e,s,o⟩:=Xm (env:=env) l b λp j=>h p (lM7 _ j)
   refine⟨d,?_,λy c q=>?_,λy q=>?_⟩
   .rw[List.forIn_cons]
    have:(k==NameKind.free)=false:=by simpa using m
    simp only[this,bV,if_false,pure_bind];exact e
   .rcases s y c q with z|⟨i,g⟩
    .exact .inl z
    .exact .inr ⟨lM7 _ i,g⟩
   .refine o y ?_
    rcases q with q|q
    .rcases aH.mp q with z|z
     .cases z;exact absurd rfl m
     .exact .inl z
    .exact .inr q
theorem VH{sc:Scope}(h:∀ p∈sc.names,p.2=.free->∃ c,env.cells.lookup p.1=some c):∃ a,closureFor sc env=pure a/\(∀ y c,a.lookup y=some c->env.cells.lookup y=some c)/\∀ y,(y,NameKind.free)∈sc.names->(a.lookup y).isSome:=by
 obtain⟨a,e,d,b⟩:=Xm (env:=env) sc.names [] h;refine⟨a,?_,λy c q=>?_,λy q=>b y (.inl q)⟩
 .unfold closureFor
  rw[show(λ(x:Str×NameKind) (r:Li (Str×Ad))=>_)=_ from rfl]at e
  first|exact(by simp only[e,pure_bind]) | (simp only[bind_pure]at *;exact e)|exact e
 .rcases d y c q with z|⟨_,z⟩
  .exact Zc z
  .exact z
variable [ClsTab]
variable{iter:Expr}{ifs:Li Expr}
theorem VI{R:Result->sH7->Prop}{s:sH7}{a:Expr}{scope:Scope}{it p:vL}(I:Nat->sH7->Prop)(turn:∀ n s,I n s->wpAny (model prog w) A (pyNext it) (λr g=>match r with
   |none=>R (.ok .next) g
   |some v=>wpAny (model prog w) A (letOwnedTupleGo a it v) (λ_ f=>wpAny (model prog w) A (assign a env v) (λ_ l=>
     wpAny (model prog w) A (forIn ifs true λc r=>if r=true then do let ok <-isTrue c env (eval c env);pure (ForInStep.yield ok) else pure (ForInStep.yield r)) (λok d=>
      if ok=true then wpAny (model prog w) A (eval elt env) (λx k=>
       wpAny (model prog w) A (call (.builtin "list.append") [p,x]) (λ_ j=>∃ m,m < n/\I m j) (notedBy (model prog w) A env λe i=>R (.error e) i) k) (notedBy (model prog w) A env λe i=>R (.error e) i) d
      else ∃ m,m < n/\I m d) (notedBy (model prog w) A env λe i=>R (.error e) i) l) (notedBy (model prog w) A env λe i=>R (.error e) i) f) (notedBy (model prog w) A env λe i=>R (.error e) i) g) (notedBy (model prog w) A env λe i=>R (.error e) i) s)(n:Nat)(h:I n s):codeAny (model prog w) A (.compLoop (.ListComp elt [⟨a,iter,ifs,0⟩] scope pos) 0 it p env) R s:=by
 refine codeAny_loop rfl I (λn s y=>?_) n h
 show wpAny _ A ((compTurn (.ListComp elt [⟨a,iter,ifs,0⟩] scope pos) 0 it p env).onRaise (λx=>do noteFrame x env;theTreesLotGoes x)) _ _ s
 refine wpAny_noted ?_;rw[compTurn_list];refine aA (wpAny_standAt (aA (bJ (turn n s y) (λr g b=>?_) λ_ _ h'=>h')))
 cases r with
 |none=>exact aB b
 |some v=>
  refine aA (bJ b (λ_ f b=>?_) λ_ _ h'=>h')
  refine aA (bJ b (λ_ l u=>aA (bJ u (λok d o=>?_) λ_ _ h'=>h')) λ_ _ h'=>h')
  cases ok with
  |false=>exact aB ⟨rfl,o⟩
  |true=>
   exact aA (aA (bJ o (λx k t=>aA (bJ t (λ_ j q=>aB (aB ⟨rfl,q⟩)) λ_ _ h'=>h')) λ_ _ h'=>h'))
noncomputable def cxC(X:Cx)(N:Li Str)(env:PySem.Env)(a:sH7)(c:Hp)(b:Li Ad)(pQ:Li (Ad×Obj)):Cx:=
 { X with N:=N,s₀:=a,H₀:=c,env:=env,outer:=X.stack,ex:=b,fn:=λ_=>false,pn:=X.pn++pQ,xe:=λ_ _=>False }
variable{m0:Str->Ot vL}{O':L2.St}
variable{pQ:Li (Ad×Obj)}{O:L2.St}{s3:sH7}{sc2:Scope}{cl:Li (Str×Ad)}{N:Li Str}
section
variable{H3:Hp}{fp:Li Ad}
theorem ZaL(a:L2.Inv X pQ O H3 s3){G:Heap}(hk:sc2.kind=.function)(f:∀ p∈sc2.names,p.2≠.cell)(E:G.Ns s3.heap.objs.size m0)(up:∀ b u,s3.heap.get? b=some u->G.get? b=some u)(k:∀ y c,cl.lookup y=some c->X.env.cells.lookup y=some c)(J:∀ y,sc2.names.lookup y=some .free->(cl.lookup y).isSome)(s:∀ b∈fp,FpOk X pQ H3 b)(Q:∀ b∈fp,b < s3.heap.objs.size)(A:∀ (i:Nat) (y:Str) (v:V),N[i]?=some y->O'[i]?=some (some v)->∃ j:Nat,X.N[j]?=some y/\O[j]?=some (some v)/\sc2.names.lookup y=some .free/\(X.env.scope.names.lookup y=some .cell\/X.env.scope.names.lookup y=some .free))(hl:O'.length=N.length) :
  L2.Inv (cxC X N (compEnvC sc2 cl s3.heap.objs.size X.env) s3 H3 fp pQ) [] O' H3 { s3 with heap:=G,toks:=tk } where
 ok:={
  mod:=a.ok.mod
  kind:=hk
  glob:=a.ok.glob
  blt:=a.ok.blt
  above:=aF _
  inj:=λx y c e T=>a.ok.inj x y c (k _ _ e) (k _ _ T)
  has:=λx h=>by
   have e:=Vm (env:=X.env) f h;have:=J x e;cases q:cl.lookup x with
   |none=>rw[q]at this;cases this
   |some c=>exact⟨c,q⟩
  cab:=λx c h=>nomatch h
  hd:=a.ok.hd
  frames:=a.ok.frames
  stk:=.inl rfl
  exf:=λb g=>⟨bA (Q b g),λx c e=>(s b g).2.2.2.2.1 x c (k _ _ e)⟩
  bs:=a.bs
  bsz:=aK a.ok.bsz a.sz
  noex:=λb o e g=>by
   rcases (s b g).2.2.2.1 with z|z
   .exact a.ok.noex b o e z
   .exact absurd (aT (aL e) (aK a.ok.bsz z)) (bZ _)
  exfs:=λb g B=>by
   rcases aH.mp (a.stkSub b B) with z|z
   .exact(s b g).2.1 z
   .exact(s b g).2.2.1 z
  funs:=a.stack
  frf:=a.stkFree }
 os:=rfl
 bare:=a.bare
 base:=Un.kept up
 loc:=⟨m0,E,λi y v S R W=>by
  obtain⟨j,g1,g2,I,H⟩:=A i y v S R;obtain⟨m,U,F⟩:=a.loc;obtain⟨u,r,l⟩:=F j y v g1 g2 (.inr H);refine⟨u,r,.inr ⟨YR I,?_⟩⟩;rcases l with⟨z,_⟩|⟨_,c,e,z⟩
  .have K:X.env.scope.names.lookup y=some .local:=z
   rcases H with w|w<;>(rw[K]at w;cases w)
  .have q:=J y I
   cases t:cl.lookup y with
   |none=>rw[t]at q;cases q
   |some Y=>
    have:=k _ _ t;rw[e]at this;cases this
    obtain⟨o,D,hd⟩:=z;exact⟨c,t,o,up c o D,hd⟩⟩
 cell:=λy c e=>by
  obtain⟨v,o,D,hd⟩:=a.cell y c (k _ _ e);exact⟨v,o,up c o D,hd⟩
 free:=a.hok.fresh (aF _)
 freeC:=λy c e=>a.freeC y c (k _ _ e)
 pin:=λp P=>by
  have C:p∈X.pn++pQ:=by simpa[cxC] using P
  obtain⟨e,n,M,L,d⟩:=a.pin p C;refine⟨up _ _ e,n,bA (aL e),λB=>?_,d⟩
  rcases aH.mp (a.stkSub _ B) with z|z
  .exact M z
  .exact L z
 hok:=a.hok.kept up
 len:=hl
theorem ZaK(p:L2.Inv X pQ O H3 s3){d:Li (Ad×Obj)}{H':Hp}{s':sH7}(m:env.locals=s3.heap.objs.size)(g:L2.Inv (cxC X N env s3 H3 fp pQ) d O' H' s')(h:Heap.SameBut s3.heap.objs.size s'.heap h')(i:∀ b∈fp,FpOk X pQ H3 b):L2.Inv X pQ O H' { s' with heap:=h' }:=by
 have u:Un (frs X.stack) fp H3 H' s3.heap s'.heap:=g.base;have j:∀ b o,s3.heap.get? b=some o->b≠s3.heap.objs.size:=λb o e=>bA (aL e)
 have l:H' s3.heap.objs.size=none:=by have:=g.free;rw[show(cxC X N env s3 H3 fp pQ).env.locals=s3.heap.objs.size from m]at this;exact this
 refine p.call' (s':={ s' with heap:=h' }) (ch:=fp) g.os ⟨λb o e n a f=>?_,λb o e n a f=>?_,u.free,λb o e f=>?_,u.tups,u.frzs,u.tbls⟩ (λb ob e=>?_) g.bare (λb a=>?_)
 .exact(h.2 b (j b o e)).trans (u.keep b o e n a f)
 .obtain⟨sl,k⟩:=u.slot b o e n a f
  exact⟨sl,(h.2 b (j b o e)).trans k⟩
 .obtain⟨o',k⟩:=u.there b o e f
  exact⟨o',(h.2 b (j b o e)).trans k⟩
 .refine(g.hok b ob e).stay (λc r hc q=>(h.2 c ?_).trans q) (λ_ q=>q) λ_ _ q=>q
  rintro rfl
  rcases hc with rfl|hc
  .rw[l]at e;cases e
  .rw[l]at hc;cases hc
 .exact⟨(i b a).2.2.2.1,(i b a).2.1,(i b a).2.2.2.2.1,(i b a).2.2.2.2.2⟩
end
variable [ClsTab]
theorem WB{N:Li Str}:∀ {l:Li Str}{b:Li Nat},Y5 N l=some b->b.length=l.length/\∀ (i:Nat) (k:Nat),b[i]?=some k->∃ y,l[i]?=some y/\N[k]?=some y
 |[],b,h=>by cases h;exact⟨rfl,λi k e=>by simp at e⟩
 |x :: r,b,h=>by
  unfold Y5 at h;split at h
  .rename_i a as g f
   cases h;obtain⟨d,c⟩:=WB f;refine⟨by simp[d],λi k e=>?_⟩
   cases i with
   |zero=>simp at e;subst e;exact⟨x,rfl,Xo g⟩
   |succ i=>exact c i k (by simpa using e)
  .exact Zc h
theorem StOk.lt{s:sH7}{a:Ad}(I:L2.Inv X pQ O H s)(S:StOk X.K ad H st)(h:a∈ad):a < s.heap.objs.size:=by
 obtain⟨i,hi,e⟩:=List.getElem_of_mem h;rcases S.has (show ad[i]?=some a by rw[lG7 hi,e]) with⟨o,q⟩|⟨o,q⟩
 .exact I.hok.lt q
 .exact aL (I.kIn a o q)
variable{fr:Li Nat}
theorem Zac{K:fG7}{bs:L2.St}{b:D->Li (Ot D)}(E:EnvOk K ad H O U)(hd:EnvOk K ad H bs (b d)):EnvOk K ad H (bs++fr.map λi=>(O[i]?).join) (ZJ b U fr d):=by
 refine⟨by simp[ZJ,hd.len],λi e h=>?_⟩
 unfold ZJ at h;by_cases hi:i < (b d).length
 .rw[bT hi]at h
  rw[bT (by rw[hd.len];exact hi)]
  exact hd.at_ i e h
 .have hi:(b d).length<=i:=dS hi
  rw[cI hi,aS]at h;rw[cI (by rw[hd.len];exact hi),aS,hd.len]
  cases q:fr[i - (b d).length]? with
  |none=>rw[q]at h;cases h
  |some k=>
   rw[q]at h;have h:(U[k]?).join=some e:=by simpa using h
   have a:U[k]?=some (some e):=by
    cases z:U[k]? with
    |none=>rw[z]at h;cases h
    |some o=>rw[z]at h;rw[show o=some e from h]
   obtain⟨w,f,c⟩:=E.at_ k e a;exact⟨w,by simp[f],c⟩
def Xi(K:fG7)(tg:Expr)(xs:Li Str)(b:D->Li (Ot D))(ds:Li D):Prop:=
 ∀ X:Cx,X.K=K->X.calm=true->X.N.Nodup->(∀ (i:Nat) x,xs[i]?=some x->X.N[i]?=some x)->(∀ y∈xs,X.env.scope.names.lookup y=some .local)->∀ (pQ:Li (Ad×Obj)) (s:sH7) (os fv:L2.St) (H:Hp) (ad:Li Ad) (v:V) (u:vL) (d:D),os.length=xs.length->L2.Inv X pQ (os++fv) H s->RelV v u->Den K ad H v d->d∈ds->
  wpAny (model X.prog X.w) X.A (assign tg X.env u) (λ_ a=>∃ bs,bs.length=xs.length/\EnvOk K ad H bs (b d)/\L2.Inv X pQ (bs++fv) H a) X.xe s
variable{px:Pos}
theorem VB{K:fG7}{x:Str}:Xi K (.Name x px) [x] one ds:=by
 intro X w t k f j pQ s a l H ad v u d g I r n _;obtain⟨o,rfl⟩:∃ o,a=[o]:=by match a,g with|[o],_=>exact⟨o,rfl⟩
 have b:=j x lQ7;have c:PG X (.Name x px) (gName 0):=pg_name k (f 0 x rfl) (.inl b) (.inr b);refine thn (c pQ s _ H v u (λO' H'=>O'=[some v]++l/\H'=H) I r ⟨rfl,rfl⟩) λ_ q ⟨O',H',p,e,m⟩=>?_
 subst e;subst m
 exact⟨[some v],rfl,⟨rfl,λi e h=>by
  cases i with
  |zero=>cases h;exact⟨v,rfl,n⟩
  |succ i=>exact nomatch (show(none:Ot (Ot D))=some (some e) from h)⟩,p⟩
variable{py:Pos}
theorem VC{K:fG7}{x y:Str}{k:Nat}{ds:Li D}(j:∀ d∈ds,∃ a b,d=.tup [a,b]):Xi K (.Tuple [.Name x px,.Name y py] k tp) [x,y] two ds:=by
 intro X F C w q t pQ s l G H ad v u d A I r L B;obtain⟨o,o',rfl⟩:∃ o o',l=[o,o']:=by match l,A with|[o,o'],_=>exact⟨o,o',rfl⟩
 obtain⟨a,b,rfl⟩:=j d B;have n:=t x lQ7;have m:=t y (lM7 _ lQ7);have g1:PG X (.Name x px) (gName 0):=pg_name w (q 0 x rfl) (.inl n) (.inr n);have g2:PG X (.Name y py) (gName 1):=pg_name w (q 1 y rfl) (.inl m) (.inr m);have z:PG X (.Tuple [.Name x px,.Name y py] k tp) _:=pg_tup C (pgs_cons g1 (pgs_cons g2 pgs_nil))
 obtain⟨p,vs,rfl,E,g⟩:=L.ofTup;cases g with
 |cons N g=>cases g with
  |cons M g=>
   cases g;rename_i f c;refine thn (z pQ s _ H _ u (λO' H'=>O'=[some f,some c]++G/\H'=H) I r ⟨p,[f,c],rfl,by rw[F];exact E.sq,rfl,f,[c],rfl,c,[],rfl,rfl,rfl,rfl⟩) λ_ P ⟨O',H',O,e,J⟩=>?_
   subst e;subst J
   exact⟨[some f,some c],rfl,⟨rfl,λi e h=>by
    cases i with
    |zero=>cases h;exact⟨f,rfl,N⟩
    |succ i=>cases i with
     |zero=>cases h;exact⟨c,rfl,M⟩
     |succ i=>exact nomatch (show(none:Ot (Ot D))=some (some e) from h)⟩,O⟩
theorem UH{K:fG7}{x y:Str}{m:Pos}{k:Nat}{ds:Li D}(t:∀ d∈ds,∃ a b c,d=.tup [a,b,c]):Xi K (.Tuple [.Name x px,.Name y py,.Name z m] k tp) [x,y,z] Ut ds:=by
 intro X N L w n q pQ s A P H ad v u d G I r R J;obtain⟨o,o',o2,rfl⟩:∃ o o' o2,A=[o,o',o2]:=by match A,G with|[o,o',o2],_=>exact⟨o,o',o2,rfl⟩
 obtain⟨a,b,c,rfl⟩:=t d J;have E:=q x lQ7;have C:=q y (lM7 _ lQ7);have B:=q z (lM7 _ (lM7 _ lQ7));have g1:PG X (.Name x px) (gName 0):=pg_name w (n 0 x rfl) (.inl E) (.inr E);have g2:PG X (.Name y py) (gName 1):=pg_name w (n 1 y rfl) (.inl C) (.inr C);have O:PG X (.Name z m) (gName 2):=pg_name w (n 2 z rfl) (.inl B) (.inr B)
 have F:PG X (.Tuple [.Name x px,.Name y py,.Name z m] k tp) _:=pg_tup L (pgs_cons g1 (pgs_cons g2 (pgs_cons O pgs_nil)));obtain⟨p,vs,rfl,M,g⟩:=R.ofTup;cases g with
 |cons U g=>cases g with
  |cons T g=>cases g with
   |cons S g=>
    cases g;rename_i l j f;refine thn (F pQ s _ H _ u (λO' H'=>O'=[some l,some j,some f]++P/\H'=H) I r ⟨p,[l,j,f],rfl,by rw[N];exact M.sq,rfl,l,[j,f],rfl,j,[f],rfl,f,[],rfl,rfl,rfl,rfl⟩) λ_ W ⟨O',H',V,e,Q⟩=>?_
    subst e;subst Q
    exact⟨[some l,some j,some f],rfl,⟨rfl,λi e h=>by
     cases i with
     |zero=>cases h;exact⟨l,rfl,U⟩
     |succ i=>cases i with
      |zero=>cases h;exact⟨j,rfl,T⟩
      |succ i=>cases i with
       |zero=>cases h;exact⟨f,rfl,S⟩
       |succ i=>exact nomatch (show(none:Ot (Ot D))=some (some e) from h)⟩,V⟩
variable{cl:Li (Str×Ad)}{s3 s2:sH7}{ce cc:CE}{bd:D->Li (Ot D)}{J:It}{tn:Nat->Heap->Prop}{Good:Li Ad->Hp->Prop}{ad2:Li Ad}{H2:Hp}{use:Ot (vL->Sem Unit)}{R0:vL->sH7->Prop}{st1:Za}
variable{sc:Scope}
section
variable{xs:Li Str}
theorem Yn(h:YX sc sc2 xs=true):sc2.kind=.function/\(∀ p∈sc2.names,p.2≠.cell)/\(∀ x∈xs,sc2.names.lookup x=some .local)/\(∀ p∈sc2.names,p.2=.local->sc2.names.lookup p.1=some .local)/\(xs++ZP sc2).Nodup/\∀ y∈ZP sc2,Ws sc y=true/\sc2.names.lookup y=some .free:=by
 unfold YX at h;simp only[bA7,decide_eq_true_eq,bU,bX,cY,decide_eq_false_iff_not]at h;obtain⟨⟨⟨⟨⟨i,g⟩,f⟩,d⟩,c⟩,b⟩:=h;exact⟨i,g,f,λp a e=>(d p a).elim (λz=>absurd e z) id,c,b⟩
theorem mem_frees{y:Str}:y∈ZP sc2↔(y,NameKind.free)∈sc2.names:=by
 unfold ZP;rw[aR];constructor
 .rintro⟨⟨n,k⟩,h,rfl⟩
  rw[bM]at h;have:k=.free:=of_decide_eq_true h.2;rw[<-this];exact h.1
 .intro h
  exact⟨(y,.free),bM.mpr ⟨h,by simp⟩,rfl⟩
theorem mem_of_lookup{y:Str}{k:NameKind}:∀ {l:Li (Str×NameKind)},l.lookup y=some k->(y,k)∈l
 |[],h=>by cases h
 | (n,q) :: l,h=>by
  rw[bQ]at h;split at h
  .rename_i e
   cases h;rw[beq_iff_eq.mp e];exact lQ7
  .exact lM7 _ (mem_of_lookup h)
theorem J4(c:Cxt X G F sc N)(b:YX sc sc2 xs=true){C:Ad}{H3:Hp}{fp:Li Ad}:Cxt (cxC X (xs++ZP sc2) (compEnvC sc2 cl C X.env) s3 H3 fp pQ) G F sc2 (xs++ZP sc2):=by
 obtain⟨i,d,h,g,f,e⟩:=Yn b;exact {
  hN:=rfl
  vis:=λy a=>by
   rcases ZbI a with z|z|z
   .exact .inl (YF z (by intro q;cases q))
   .exact absurd rfl (d _ (mem_of_lookup z))
   .rcases YR (env:=X.env) z with w|w
    .exact .inr (.inl w)
    .exact .inr (.inr w)
  glb:=λy a=>YF (Qy a) (by intro q;cases q)
  calm:=c.calm
  hu:=c.hu
  gl:=c.gl
  cel:=λy a=>by
   rcases Qr a with z|z
   .exact absurd rfl (d _ (mem_of_lookup z))
   .exact YR z
  nx:=rfl }
theorem J1{ok:Za->Prop}{f c:D->Za->Res}{xs:Li D}{r:Li D×Za}(h:ZF ok f c xs st=some r):ok st:=by
 unfold ZF at h;split at h
 .split at h
  .assumption
  .exact Zc h
 .split at h
  .assumption
  .exact Zc h
noncomputable def evB(F:Nat->Fn)(c:CE)(b:D->Li (Ot D))(U:Env)(fr:Li Nat):D->Za->Res:=λd s=>ev F c (ZJ b U fr d) s
inductive CI(X:Cx)(tn:Nat->Heap->Prop)(fp:List Addr)(fv O:L2.St)(U:Env)(w:Nat)(ds:List D)(go:List D->Za->Option (List D×Za))(Good:List Addr->Hp->Prop)(dd:Addr)(ad2:List Addr)(H2:Hp)(st':Za)(ys:List D)(m:Nat)(s:Shared):Prop
 |mk (i:Nat) (o0:L2.St) (H:Hp) (ad:List Addr) (st:Za) (vs:List V) (es zs:List D) (him:i+m=ds.length) (hol:o0.length=w) (I:L2.Inv X [] (o0++fv) H s) (ti:tn i s.heap) (fi:∀ b∈fp,H b=none) (En:EnvOk X.K ad H O U) (S:StOk X.K ad H st) (Gd:Good ad H) (nd:dd∉ad) (hv:H dd=some (.lst vs)) (rv:Dens X.K ad H vs es) (hel:es.length<=i)
  (hcp:go (ds.drop i) st=some (zs,st')) (hys:es++zs=ys) (ex:Ext ad2 H2 ad H):CI X tn fp fv O U w ds go Good dd ad2 H2 st' ys m s
theorem Q8(Kx:Cxt X G F sc2 N)(ihE:Zo G F n)(hce:cE G n sc2 N elt=some ce)(hcc:(ifs=[]/\cc=.c (.bl true))\/∃ e,ifs=[e]/\cE G n sc2 N e=some cc){fp:Li Ad}{it:Ad}{ok:Za->Prop}(gm:∀ ad H ad' H',Ext ad H ad' H'->Good ad H->Good ad' H')(gw:∀ ad H p xs ys,H p=some (.lst xs)->Good ad H->Good ad (upd H p (.lst ys)))(go:∀ i ad H st,Good ad H->StOk X.K ad H st->ok st->i < ds.length->J.go i H)(stop:∀ i ad H st,Good ad H->StOk X.K ad H st->ok st->ds.length=i->J.stop i H)(yl:∀ i ad H st v H',Good ad H->StOk X.K ad H st->ok st->J.yld i H v H'->i < ds.length->Ext ad H ad H'/\StOk X.K ad H' st/\∃ d,ds[i]?=some d/\Den X.K ad H' v d)(T:Turn X.prog X.w X.K tg J fp it tn)(B:Xi X.K tg xs bd ds)(hN:X.N.Nodup)(hx:∀ (i:Nat) x,xs[i]?=some x->X.N[i]?=some x)(hl:∀ y∈xs,X.env.scope.names.lookup y=some .local)(exx:X.xe=λ_ _=>False)(fpk:∀ {H:Hp},(∀ b∈fp,H b=none)->∀ b∈fp,FpOk X [] H b){fv:L2.St}(ec:∀ {ad H bs d},EnvOk X.K ad H O U->EnvOk X.K ad H bs (bd d)->EnvOk X.K ad H (bs++fv) (ZJ bd U fr d)){dd:Ad}{ys:Li D}(D0:H2 dd=none)(hz:ds.length<=1000){R:Result->sH7->Prop}(done:∀ s5 σ5 H ad vs,L2.Inv X [] σ5 H s5->StOk X.K ad H st'->dd∉ad->H dd=some (.lst vs)->Dens X.K ad H vs ys->Ext ad2 H2 ad H->R (.ok .next) s5){s:sH7}{m:Nat}(h0:CI X tn fp fv O U xs.length ds (ZF ok (evB F ce bd U fr) (evB F cc bd U fr)) Good dd ad2 H2 st' ys m s) :
  codeAny (model X.prog X.w) X.A (.compLoop (.ListComp elt [⟨tg,iter,ifs,0⟩] sc2 pos) 0 (.ref it) (.ref dd) X.env) R s:=by
 refine VI _ (λm s h=>?_) m h0
 cases h with
 |mk i o0 H ad st vs es zs him hol I ti fi En S Gd nd hv rv hel a Z ex=>
 have W:=J1 a;have none_of:∀ {E:vL->sH7->Prop}{α:Type}{t:Sem α}{R:α->sH7->Prop}{s0:sH7},wpAny (model X.prog X.w) X.A t R X.xe s0->wpAny (model X.prog X.w) X.A t R E s0:=λh=>by
  rw[exx]at h;exact bJ h (λ_ _ q=>q) λ_ _ q=>q.elim
 by_cases hi:i < ds.length
 .refine thn (T.item X rfl rfl rfl Kx.calm i [] s _ H _ I (fpk fi) ti (go i ad H st Gd S W hi)) λr s5 ⟨u,hr,h5'⟩=>?_
  subst hr;refine thn h5' λ_ s6 ⟨v,H',I6,r6,y6,t6,f6⟩=>?_
  obtain⟨x6,S6,d,ed,dv⟩:=yl i ad H st v H' Gd S W y6 hi;have hd:ds.drop i=d :: ds.drop (i+1):=by
   rw[bP hi];rw[lG7 hi]at ed;cases ed;rfl
  refine thn (none_of (B X rfl Kx.calm hN hx hl _ s6 o0 _ H' ad v u _ hol (I6.pinned (fpk f6) (T.obj _ _ t6)) r6 dv (aU ed))) λ_ s7 ⟨bs,lb,Eb,I7⟩=>?_
  have En6:=En.mono x6;have En7:=ec En6 Eb
  -- behind the item's turn
  have Y:∀ {M:Hp}{s9:sH7}{g:Li Ad}{st9:Za}{vs9:Li V}{es9 zs9:Li D},L2.Inv X ([]++pinsAt fp s6.heap) (bs++fv) M s9->StOk X.K g M st9->Good g M->dd∉g->M dd=some (.lst vs9)->Dens X.K g M vs9 es9->es9.length<=i+1->
    ZF ok (evB F ce bd U fr) (evB F cc bd U fr) (ds.drop (i+1)) st9=some (zs9,st')->es9++zs9=ys->Ext ad2 H2 g M->EnvOk X.K g M O U->
    ∃ m',m' < m/\CI X tn fp fv O U xs.length ds (ZF ok (evB F ce bd U fr) (evB F cc bd U fr)) Good dd ad2 H2 st' ys m' s9:=
   λI9 S9 G9 n9 v9 r9 l9 c9 y9 x9 e9=>
    have pk:=λb hb o e=>I9.pin (b,o) (cG _ (cG _ (mem_pinsAt hb e)))
    ⟨m - 1,by omega,.mk (i+1) bs _ _ _ _ _ _ (by omega) lb I9.unpinned (T.keep _ _ _ t6 λb hb o e=>(pk b hb o e).1) (λb hb=>let ⟨o,e,_⟩:=T.obj _ _ t6 b hb;(pk b hb o e).2.1) e9 S9 G9 n9 v9 r9 l9 c9 y9 x9⟩
  -- the L
  have L:∀ {k:Bool}{j:Za},evB F cc bd U fr d st=some (.bl k,j)->∀ {R:Bool->sH7->Prop}{E:vL->sH7->Prop},(∀ s8 l f,L2.Inv X ([]++pinsAt fp s6.heap) (bs++fv) l s8->Ext ad H' f l->StOk X.K f l j->R k s8)->
    wpAny (model X.prog X.w) X.A (forIn ifs true λc r=>if r=true then do let ok <-isTrue c X.env (eval c X.env);pure (ForInStep.yield ok) else pure (ForInStep.yield r)) R E s7:=λ{k j} q {R E} hR=>by
   rcases hcc with⟨rfl,rfl⟩|⟨e,rfl,he⟩
   .cases q
    exact wpAny_tests_nil (hR s7 H' ad I7 (Ext.refl _ _) S6)
   .refine wpAny_tests_one (thn (none_of ((ihE X sc2 _ Kx e cc he).pt _ s7 _ H' (λk' l=>k'=k/\∃ f,Ext ad H' f l/\StOk X.K f l j) I7 ⟨ad,ZJ bd U fr d,st,k,j,En7,S6,q,λad' H' x S'=>⟨rfl,ad',x,S'⟩⟩)) λk' s8 ⟨l,I8,e8,f,C,S8⟩=>?_)
    subst e8;exact hR s8 l f I8 C S8
  have n8:∀ {f l},Ext ad H' f l->dd∉f:=λC z=>((x6.trans C).new dd z).elim nd λw=>by rw[hv]at w;cases w
  have v8:∀ {f l},Ext ad H' f l->l dd=some (.lst vs):=λC=>(x6.trans C).keep dd _ hv nd
  have rv6:=rv.mono x6;have ex6:=ex.trans x6;have G6:=gm _ _ _ _ x6 Gd;clear x6 En Eb ex Gd S I hv rv;rw[hd]at a;unfold ZF at a;rw[if_pos W]at a;split at a
  .rename_i j q1
   split at a
   .rename_i y st3 q2
    split at a
    .rename_i zs' st4 q3
     cases a;refine L q1 λs8 l f I8 C S8=>?_
     rw[if_pos rfl];refine thn (none_of ((ihE X sc2 _ Kx elt ce hce).pe _ s8 _ l (λv8 M=>∃ g,Ext f l g M/\StOk X.K g M st3/\Den X.K g M v8 y) I8 ⟨f,ZJ bd U fr d,j,y,st3,En7.mono C,S8,q2,λv8 ad' H' x S' dn=>⟨ad',x,S',dn⟩⟩)) λu9 s9 ⟨v9,M,I9,r9,g,x9,S9,d9⟩=>?_
     have P:=C.trans x9;have Q:=v8 P;have hlen:vs.length=es.length:=rv6.length;refine thn (none_of (mt_append (X:=X) _ s9 _ M (.ref dd) [v9] (.ref dd) [u9] (λ_ H10=>H10=upd M dd (.lst (vs++[v9]))) I9 rfl (.cons r9 .nil) ⟨dd,vs,v9,rfl,rfl,Q,Nat.lt_of_le_of_lt (show vs.length<=1000 by omega) (by decide),rfl⟩)) λu10 s10 ⟨v10,H10,I10,r10,e10⟩=>?_
     subst e10;have nd9:=n8 P;exact Y (vs9:=vs++[v9]) (es9:=es++[y]) (zs9:=zs') I10 (S9.wr Q nd9) (gw _ _ _ _ _ Q (gm _ _ _ _ P G6)) nd9 upd_same (((rv6.mono P).append (.cons d9 .nil)).wr Q) (by rw[aI,eD];omega) q3 (by rw[<-Z,bG];rfl) ((ex6.trans P).wr Q D0) ((En6.mono P).wr Q)
    .exact Zc a
   .exact Zc a
  .rename_i j q1
   refine L q1 λs8 l f I8 C S8=>?_
   rw[if_neg bF7];exact Y I8 S8 (gm _ _ _ _ C G6) (n8 C) (v8 C) (rv6.mono C) (by omega) a Z (ex6.trans C) (En6.mono C)
  .exact Zc a
 .refine thn (T.done X rfl rfl rfl Kx.calm i [] s _ H _ I (fpk fi) ti (stop i ad H st Gd S W (by omega))) λr s5 ⟨hr,I5⟩=>?_
  subst hr;rw[eF (dS hi)]at a;unfold ZF at a;rw[if_pos W]at a;cases a;rw[bB]at Z;subst Z;exact done s5 _ H ad vs I5 S nd hv rv ex
theorem UL(Kx:Cxt X G F sc N)(Z:Zo G F n)(M:YX sc sc2 xs=true)(hfr:Y5 N (ZP sc2)=some fr)(hce:cE G n sc2 (xs++ZP sc2) elt=some ce)(hcc:(ifs=[]/\cc=.c (.bl true))\/∃ e,ifs=[e]/\cE G n sc2 (xs++ZP sc2) e=some cc)(c1:∀ y c,cl.lookup y=some c->X.env.cells.lookup y=some c)(c2:∀ y,(y,NameKind.free)∈sc2.names->(cl.lookup y).isSome){fp:Li Ad}{it:Ad}{ok:Za->Prop}(gm:∀ ad H ad' H',Ext ad H ad' H'->Good ad H->Good ad' H')(gw:∀ ad H p xs ys,H p=some (.lst xs)->Good ad H->Good ad (upd H p (.lst ys)))(go:∀ i ad H st,Good ad H->StOk X.K ad H st->ok st->i < ds.length->J.go i H)(stop:∀ i ad H st,Good ad H->StOk X.K ad H st->ok st->ds.length=i->J.stop i H)(yl:∀ i ad H st v H',Good ad H->StOk X.K ad H st->ok st->J.yld i H v H'->i < ds.length->Ext ad H ad H'/\StOk X.K ad H' st/\∃ d,ds[i]?=some d/\Den X.K ad H' v d){dd:Ad}{h:Heap}{ys:Li D}(B:Xi X.K tg xs bd ds)(T:Turn X.prog X.w X.K tg J fp it tn)(t2:tn 0 s2.heap)(E:∀ b∈fp,FpOk X pQ H2 b)(fb:∀ b∈fp,b < dd)(E2:EnvOk X.K ad2 H2 O U)(S2:StOk X.K ad2 H2 st1)(g2:Good ad2 H2)(r:ZF ok (λd s=>ev F ce (ZJ bd U fr d) s) (λd s=>ev F cc (ZJ bd U fr d) s) ds st1=some (ys,st'))(hz:ds.length<=1000)(hp:Post X.K ad2 H2 (.lst st'.length) (st'++[(true,ys)]) Q)(P:∀ C dd t H5 Y,t.heap.Ns C Y->(∀ h',Heap.SameBut C t.heap h'->L2.Inv X pQ O H5 { t with heap:=h' })->FpOk X pQ H5 C->Q (.ref dd) H5->compPost (model X.prog X.w) X.A X.xe use R0 (.ref dd) C (.ok .next) t)  (I:H2 dd=none) (V:L2.Inv X pQ O (upd H2 dd (.lst [])) s3) (z3:s3.heap.objs.size=dd+1) (W:dd∉ad2) (l:h.Ns s3.heap.objs.size m0) (up:∀ b u,s3.heap.get? b=some u->h.get? b=some u) (L:∀ b u,s2.heap.get? b=some u->s3.heap.get? b=some u) :
  codeAny (model X.prog X.w) X.A (.compStart (.ListComp elt [⟨tg,iter,ifs,0⟩] sc2 pos) 0 (.ref it) (.ref dd) (compEnvC sc2 cl s3.heap.objs.size X.env)) (compPost (model X.prog X.w) X.A X.xe use R0 (.ref dd) s3.heap.objs.size) { s3 with heap:=h,toks:=tk }:=by
 obtain⟨h1,h2,h3,h4,h5,h6⟩:=Yn M;have f3:∀ b∈fp,FpOk X pQ (upd H2 dd (.lst [])) b:=λb f=>⟨by rw[upd_ne (bA (fb b f))];exact(E b f).1,(E b f).2⟩
 obtain⟨fl,fg⟩:=WB hfr;have I4:=ZaL (N:=xs++ZP sc2) (cl:=cl) (fp:=fp) (tk:=tk) (O':=List.replicate xs.length none++fr.map λi=>(O[i]?).join) V h1 h2 l up c1 (λy e=>c2 y (mem_of_lookup e)) f3 (λb f=>by rw[z3];exact Nat.lt_succ_of_lt (fb b f)) (λi y v e1 g=>by
  by_cases hi:i < xs.length
  .rw[bT (by simpa using hi),eC,if_pos hi]at g;cases g
  .have hi:xs.length<=i:=dS hi
   rw[cI (by simpa using hi),aS,cA]at g
   rw[cI hi]at e1;cases q:fr[i - xs.length]? with
   |none=>rw[q]at g;cases g
   |some k=>
    rw[q]at g;have g:(O[k]?).join=some v:=by simpa using g
    have e3:O[k]?=some (some v):=by
     cases w:O[k]? with
     |none=>rw[w]at g;cases g
     |some o=>rw[w]at g;rw[show o=some v from g]
    obtain⟨y',g1,g2⟩:=fg _ k q;rw[e1]at g1;cases g1
    obtain⟨k1,k2⟩:=h6 y (aU e1);exact⟨k,by rw[Kx.hN];exact g2,e3,k2,Kx.cel y k1⟩) (by simp[fl])
 have K':=J4 (cl:=cl) (C:=s3.heap.objs.size) (s3:=s3) (H3:=upd H2 dd (.lst [])) (fp:=fp) (pQ:=pQ) Kx M;have m:=Q8 (R:=compPost (model X.prog X.w) X.A X.xe use R0 (.ref dd) s3.heap.objs.size) (pos:=pos) (iter:=iter) K' Z hce hcc gm gw go stop yl T B h5 (λi x e=>by show(xs++ZP sc2)[i]?=some x;rw[bT (bF.mp e).1];exact e) (λy hy=>YF (h3 y hy) (by intro q;cases q)) rfl (λ{H} hn b f=>⟨hn b f,by
  show b≠s3.heap.objs.size;rw[z3];exact bA (Nat.lt_succ_of_lt (fb b f)),λhs=>(aH.mp (V.stkSub b hs)).elim (E b f).2.1 (E b f).2.2.1,.inl f,λy c e=>(E b f).2.2.2.2.1 y c (c1 _ _ e),λp hp=>(E b f).2.2.2.2.2 p (by simpa[cxC] using hp)⟩) (O:=O) (U:=U) (fr:=fr) (λa b=>Zac a b) (dd:=dd) (ad2:=ad2) (H2:=H2) (st':=st') (ys:=ys) I hz (λt σ5 H ad vs I5 S nd hv rv ex=>by
   obtain⟨Y,hn,_⟩:=I5.loc;refine P s3.heap.objs.size dd t H Y hn (λh' sb=>ZaK V rfl I5 sb f3) (V.fpOk (aF _) I5.free) (hp (.ref dd) (ad++[dd]) H ⟨λj a e=>Y6 (ex.pre j a e),ex.tup,ex.keep,λb f=>?_,ex.kd⟩ (S.adopt hv nd rv) (.lst ⟨by rw[<-S.len];exact Zz,Vk hv rfl⟩))
   rcases bE.mp f with z|z
   .exact ex.new b z
   .rw[aO.mp z];exact .inr I)
  (.mk 0 (List.replicate xs.length none) (upd H2 dd (.lst [])) ad2 st1 [] [] ys (bH _) (cA ..) I4 (T.keep _ _ _ t2 λb _ o e=>up b o (L b o e)) (λb f=>(f3 b f).1) (E2.mono (Ext.laid I)) (S2.laid I) (gm _ _ _ _ (Ext.laid I) g2) W upd_same .nil (aF _) r rfl (Ext.laid I))
 exact codeAny_compStart_list m (T.self X.A 0 _ _ _ (T.keep _ _ _ t2 λb _ o e=>up b o (L b o e)) m)
theorem Q7(Kx:Cxt X G F sc N)(t:Zo G F n)(l:YX sc sc2 xs=true)(x:Y5 N (ZP sc2)=some fr)(E:cE G n sc2 (xs++ZP sc2) elt=some ce)(I:(ifs=[]/\cc=.c (.bl true))\/∃ e,ifs=[e]/\cE G n sc2 (xs++ZP sc2) e=some cc)(c1:∀ y c,cl.lookup y=some c->X.env.cells.lookup y=some c)(c2:∀ y,(y,NameKind.free)∈sc2.names->(cl.lookup y).isSome){L:Li Ad}{it:Ad}{ok:Za->Prop}(Good:Li Ad->Hp->Prop)(gm:∀ ad H ad' H',Ext ad H ad' H'->Good ad H->Good ad' H')(gw:∀ ad H p xs ys,H p=some (.lst xs)->Good ad H->Good ad (upd H p (.lst ys)))(go:∀ i ad H st,Good ad H->StOk X.K ad H st->ok st->i < ds.length->J.go i H)(stop:∀ i ad H st,Good ad H->StOk X.K ad H st->ok st->ds.length=i->J.stop i H)(Y:∀ i ad H st v H',Good ad H->StOk X.K ad H st->ok st->J.yld i H v H'->i < ds.length->Ext ad H ad H'/\StOk X.K ad H' st/\∃ d,ds[i]?=some d/\Den X.K ad H' v d){ys:Li D}(M:L2.Inv X pQ O H2 s2)(B:Xi X.K tg xs bd ds)(T:Turn X.prog X.w X.K tg J L it tn)(R:tn 0 s2.heap)(f2:∀ b∈L,FpOk X pQ H2 b)(E2:EnvOk X.K ad2 H2 O U)(W:StOk X.K ad2 H2 st1)(g2:Good ad2 H2)(h:ZF ok (λd s=>ev F ce (ZJ bd U fr d) s) (λd s=>ev F cc (ZJ bd U fr d) s) ds st1=some (ys,st'))(hz:ds.length<=1000)(hp:Post X.K ad2 H2 (.lst st'.length) (st'++[(true,ys)]) Q)(m:∀ C V r P Z,r.heap.Ns C Z->(∀ h',Heap.SameBut C r.heap h'->L2.Inv X pQ O P { r with heap:=h' })->FpOk X pQ P C->Q (.ref V) P->compPost (model X.prog X.w) X.A X.xe use R0 (.ref V) C (.ok .next) r) :
  wpAny (model X.prog X.w) X.A (newList []) (λq k=>wpAny (model X.prog X.w) X.A (newFunctionEnv sc2 X.env.globals cl [] X.env.qual none .none (some X.env)) (λg j=>
   codeAny (model X.prog X.w) X.A (.compStart (.ListComp elt [⟨tg,iter,ifs,0⟩] sc2 pos) 0 (.ref it) q { g with scope:=relabel sc2 X.env }) (compPost (model X.prog X.w) X.A X.xe use R0 q g.locals) j) X.xe k) X.xe s2:=by
 obtain⟨h1,h2,h3,h4,h5,h6⟩:=Yn l;have fb:∀ b∈L,b < s2.heap.objs.size:=λb hb=>let ⟨o,e,_⟩:=T.obj 0 _ R b hb;aL e
 refine wpAny_newObj_type (wpAny_newFunctionEnv h2 (by intro y hy;simp at hy) (λS f a=>?_) h1)
 dsimp only at f a ⊢;have I3:L2.Inv X pQ O (upd H2 s2.heap.objs.size (.lst [])) { s2 with heap:=s2.heap.push { cls:=.type "list",dict:=none,data:=.seq ([]:Li vL).toArray } }:=M.lnew (its:=[]) (t':=s2.toks) .nil (aV _)
 have e3:s2.heap.push { cls:=.type "list",dict:=none,data:=.seq ([]:Li vL).toArray }=({ s2 with heap:=s2.heap.push { cls:=.type "list",dict:=none,data:=.seq ([]:Li vL).toArray } }:sH7).heap:=rfl
 exact UL Kx t l x E I c1 c2 gm gw go stop Y B T R f2 fb E2 W g2 h hz hp m (M.hok.fresh (aF _)) I3 (Heap.size_push ..) (λz=>absurd (W.lt M z) (bZ _)) f (λb u e=>a.extBut b u (bA (aL e)) (aQ _ e)) (λb u e=>aQ _ e)
end
variable [ClsTab]
def ZbM(X:Cx)(O:L2.St)(U:Env)(ds:Li D)(ok:Za->Prop)(st1 a:Za)(ys:Li D)(Q:VK)(J:It)(b:Hp):Prop:=
 ∃ (ad1:Li Ad) (Good:Li Ad->Hp->Prop),(∀ ad H ad' H',Ext ad H ad' H'->Good ad H->Good ad' H')/\(∀ ad H p xs ys,H p=some (.lst xs)->Good ad H->Good ad (upd H p (.lst ys))) /\
  (∀ i ad H st,Good ad H->StOk X.K ad H st->ok st->i < ds.length->J.go i H)/\(∀ i ad H st,Good ad H->StOk X.K ad H st->ok st->ds.length=i->J.stop i H)/\(∀ i ad H st v H',Good ad H->StOk X.K ad H st->ok st->J.yld i H v H'->i < ds.length->Ext ad H ad H'/\StOk X.K ad H' st/\∃ d,ds[i]?=some d/\Den X.K ad H' v d) /\
  EnvOk X.K ad1 b O U/\StOk X.K ad1 b st1/\Good ad1 b/\Post X.K ad1 b (.lst a.length) (a++[(true,ys)]) Q
variable{st2:Za}
theorem Wj{ys:Li D}{f:Ev}(E:EnvOk X.K ad H O U)(S:StOk X.K ad H st)(q:f U st=some (.tup ds,st1))(p:Post X.K ad H (.lst st2.length) (st2++[(true,ys)]) Q) :
  iTup X.K (tE X.K f) O H (ZbM X O U ds (λ_=>True) st1 st2 ys Q):=by
 refine⟨ad,U,st,.tup ds,st1,E,S,q,λv b n c m l=>?_⟩
 obtain⟨a,vs,rfl,h,j⟩:=l.ofTup;refine⟨a,rfl,⟨vs,(h).sq⟩,b,λad H=>TupAt X.K H a vs/\Dens X.K ad H vs ds,λ_ _ _ _ x g=>⟨g.1.mono x,g.2.mono x⟩,λ_ H p xs ys d g=>⟨g.1.upd d (by intro xs z;cases z),g.2.wr d⟩,λi ad H st g _ _ hi=>?_,λi ad H st g _ _ hi=>⟨vs,(g.1).sq,by rw[g.2.length];exact cT hi⟩,
  λi ad H st v H' g S _ y hi=>?_,E.mono c,m,⟨h,j⟩,p.later c⟩
 .obtain⟨v,e,_⟩:=g.2.get (lG7 hi)
  exact⟨vs,v,(g.1).sq,e⟩
 .obtain⟨w,e,k⟩:=g.2.get (lG7 hi)
  have:=y.2 vs ((g.1).sq);rw[e]at this;cases this
  cases y.1;exact⟨Ext.refl _ _,S,_,lG7 hi,k⟩
theorem J0{n:Int}{ys:Li D}{f:Ev}(d:n < 2 ^ 62/\-(2 ^ 62)<=n)(E:EnvOk X.K ad H O U)(S:StOk X.K ad H st)(q:f U st=some (.int n,st1))(p:Post X.K ad H (.lst st2.length) (st2++[(true,ys)]) Q) :
  iRng1 (tCons (tE X.K f) tNil) O H (ZbM X O U ((List.range n.toNat).map λ(k:Nat)=>D.int (k:Int)) (λ_=>True) st1 st2 ys Q):=by
 refine⟨ad,U,st,.int n,st1,E,S,q,λv b h c g e=>?_⟩
 cases e.ofInt;refine⟨n,rfl,d.2,d.1,b,λ_ _=>True,λ_ _ _ _ _ _=>trivial,λ_ _ _ _ _ _ _=>trivial,λi ad H st _ _ _ hi=>(show i < n.toNat by simpa using hi),λi ad H st _ _ _ hi=>(show n.toNat<=i by simpa using cT hi),λi ad H st v H' _ S _ y hi=>?_,E.mono c,g,trivial,p.later c⟩
 cases y.1;have a:i < n.toNat:=by simpa using hi
 refine⟨Ext.refl _ _,S,.int (i:Int),?_,?_⟩
 .rw[aS,List.getElem?_range a];rfl
 .rw[y.2,Int.zero_add];exact .int _
theorem VG{c:ZI}{ys:Li D}{f:Ev}(E:EnvOk X.K ad H O U)(S:StOk X.K ad H st)(q:f U st=some (.lst l,st1))(m:st1[l]?=some c)(p:Post X.K ad H (.lst st2.length) (st2++[(true,ys)]) Q) :
  iList X.K (tE X.K f) O H (ZbM X O U c.2 (λs=>s[l]?=some c) st1 st2 ys Q):=by
 refine⟨ad,U,st,.lst l,st1,E,S,q,λv d r h k o=>?_⟩
 obtain⟨a,rfl,j⟩:=o.ofLst;obtain⟨vs,b,sq⟩:=k.list j (show st1[l]?=some (c.1,c.2) from m);refine⟨a,rfl,⟨vs,sq⟩,d,λad H=>LA ad H l a,λ_ _ _ _ x g=>g.mono x,λ_ _ _ _ _ e g=>⟨g.1,λz=>g.2 ((UU e).mpr z)⟩,λi ad H st g S e hi=>?_,λi ad H st g S e hi=>?_,λi ad H st v H' g S e y hi=>?_,E.mono h,k,j,p.later h⟩
 .obtain⟨vs,b,sq⟩:=S.list g (show st[l]?=some (c.1,c.2) from e)
  obtain⟨v,e,_⟩:=b.get (lG7 hi);exact⟨vs,v,sq,e⟩
 .obtain⟨vs,b,sq⟩:=S.list g (show st[l]?=some (c.1,c.2) from e)
  exact⟨vs,sq,by rw[b.length];exact cT hi⟩
 .obtain⟨vs,b,sq⟩:=S.list g (show st[l]?=some (c.1,c.2) from e)
  obtain⟨w,e,n⟩:=b.get (lG7 hi);have:=y.2 vs sq;rw[e]at this;cases this
  cases y.1;exact⟨Ext.refl _ _,S,_,lG7 hi,n⟩
theorem Zbj{ds:Li D}(e:ds.all Jo=true):∀ d∈ds,∃ a b,d=.tup [a,b]:=λd c=>by
 have:=bU.mp e d c;unfold Jo at this;split at this
 .exact⟨_,_,rfl⟩
 .cases this
theorem Jy{x:D}{ds:Li D}{ok:Za->Prop}(h:X0 x st=some (ds,ok)):((x=.tup ds/\ok=λ_=>True)\/∃ l c,x=.lst l/\st[l]?=some c/\ds=c.2/\ok=λs=>s[l]?=some c)/\∀ d∈ds,∃ a b,d=.tup [a,b]:=by
 unfold X0 at h;split at h
 .split at h
  .rename_i e
   cases h;exact⟨.inl ⟨rfl,rfl⟩,Zbj e⟩
  .exact Zc h
 .split at h
  .rename_i c f
   split at h
   .rename_i e
    cases h;exact⟨.inr ⟨_,c,rfl,f,rfl,rfl⟩,Zbj e⟩
   .exact Zc h
  .exact Zc h
 .exact Zc h
theorem Jw{xs:Li Str}(h:tgN tg=some xs):(∃ x px,tg=.Name x px/\xs=[x])\/(∃ x y px py k tp,tg=.Tuple [.Name x px,.Name y py] k tp/\xs=[x,y])\/∃ x y z px py f k tp,tg=.Tuple [.Name x px,.Name y py,.Name z f] k tp/\xs=[x,y,z]:=by
 unfold tgN at h;split at h
 .cases h;exact .inl ⟨_,_,rfl,rfl⟩
 .rename_i es k tp
  have nm:∀ {e:Expr}{x:Str},nmE e=some x->∃ p,e=.Name x p:=λ{e x} h=>by
   unfold nmE at h;split at h
   .cases h;exact⟨_,rfl⟩
   .exact Zc h
  cases es with
  |nil=>exact Zc h
  |cons a es=>cases es with
   |nil=>exact Zc h
   |cons b es=>cases es with
    |cons c es=>cases es with
     |cons _ _=>exact Zc h
     |nil=>
      refine Xr (P:=λxs=>_\/_\/∃ x y z px py f g d,Expr.Tuple [a,b,c] k tp=.Tuple [.Name x px,.Name y py,.Name z f] g d/\xs=[x,y,z]) h λx y z j i l=>?_
      obtain⟨px,rfl⟩:=nm j;obtain⟨py,rfl⟩:=nm i;obtain⟨f,rfl⟩:=nm l;exact .inr (.inr ⟨x,y,z,px,py,f,k,tp,rfl,rfl⟩)
    |nil=>
     refine ZY (P:=λxs=>_\/(∃ x y px py g d,Expr.Tuple [a,b] k tp=.Tuple [.Name x px,.Name y py] g d/\xs=[x,y])\/_) h λx y j i=>?_
     obtain⟨px,rfl⟩:=nm j;obtain⟨py,rfl⟩:=nm i;exact .inr (.inl ⟨x,y,px,py,k,tp,rfl,rfl⟩)
 .exact Zc h
inductive CSh(G:Gs)(n:Nat)(sc:Scope)(N:List Str)(elt:Expr)(sc2:Scope):List Comprehension->CE->Prop
 |mk {tg it:Expr}{ifs:List Expr}{xs:List Str}{fr:List Nat}{r:Option (Option Bool)}{ci ce cc:CE} (htg:tgN tg=some xs) (hsc:YX sc sc2 xs=true) (hfr:Y5 N (ZP sc2)=some fr) (hi:itC G sc it (cE G n sc N) xs=some (r,ci)) (hce:cE G n sc2 (xs++ZP sc2) elt=some ce) (hcc:(ifs=[]/\cc=.c (.bl true))\/∃ e,ifs=[e]/\cE G n sc2 (xs++ZP sc2) e=some cc):CSh G n sc N elt sc2 [⟨tg,it,ifs,0⟩] (mkC xs.length r fr ci ce cc)
theorem Zb4{G:Gs}{c:CE}(h:cE G (n+1) sc N (.ListComp elt gens sc2 pos)=some c):CSh G n sc N elt sc2 gens c:=by
 replace h:ZdB G sc sc2 N (cE G n sc N) (cE G n sc2) elt gens=some c:=h;have no:∀ {P:Prop},(none:Ot CE)=some c->P:=λz=>nomatch z
 cases gens with
 |nil=>exact no h
 |cons g gs=>
  obtain⟨tg,it,ifs,k⟩:=g;cases k with
  |negSucc _=>cases gs<;>exact no h
  |ofNat m=>cases m with
   |succ _=>cases gs<;>exact no h
   |zero=>cases gs with
    |cons _ _=>exact no h
    |nil=>
     replace h:(match tgN tg with
      |none=>none
      |some xs=>og (YX sc sc2 xs=true) (o3 (λfr p (q:CE×CE)=>mkC xs.length p.1 fr p.2 q.1 q.2) (Y5 N (ZP sc2)) (itC G sc it (cE G n sc N) xs) (o2 Prod.mk (cE G n sc2 (xs++ZP sc2) elt) (ifC (cE G n sc2 (xs++ZP sc2)) ifs))))=some c:=h
     cases b:tgN tg with
     |none=>rw[b]at h;cases h
     |some xs=>
      rw[b]at h;refine Yq h λe h=>Xr (P:=CSh G n sc N elt sc2 _) h λfr p q f hi j=>ZY (P:=λq:CE×CE=>CSh G n sc N elt sc2 _ (mkC xs.length p.1 fr p.2 q.1 q.2)) j λce cc i d=>.mk b e f hi i ?_
      cases ifs with
      |nil=>cases d;exact .inl ⟨rfl,rfl⟩
      |cons a l=>cases l with
       |nil=>exact .inr ⟨a,rfl,d⟩
       |cons _ _=>exact Zc d
inductive CR(b:D->List (Option D))(w:D->Za->Option (List D×(Za->Prop)))(fr:List Nat)(fi fe fc:Ev)(U:Env)(st:Za):D->Za->Prop
 |mk {x:D}{st1 st2:Za}{ds ys:List D}{ok:Za->Prop} (q1:fi U st=some (x,st1)) (q2:w x st1=some (ds,ok)) (hz:ds.length<=1000) (q3:ZF ok (λd s=>fe (ZJ b U fr d) s) (λd s=>fc (ZJ b U fr d) s) ds st1=some (ys,st2)):CR b w fr fi fe fc U st (.lst st2.length) (st2++[(true,ys)])
theorem Y9{b:D->Li (Ot D)}{w:D->Za->Ot (Li D×(Za->Prop))}{a c:Ev}(e:ZT b w fr fi a c U st=some (d,st')):CR b w fr fi a c U st d st':=by
 unfold ZT at e;split at e
 .split at e
  .split at e
   .split at e
    .cases e;exact .mk ‹_› ‹_› ‹_› ‹_›
    .exact Zc e
   .exact Zc e
  .exact Zc e
 .exact Zc e
inductive CIt(X:Cx)(pQ:List (Addr×Obj))(s:Shared)(O:L2.St)(U:Env)(tg it:Expr)(xs:List Str)(F:Nat->Fn)(fr:List Nat)(ce cc:CE)(Q:VK):Prop
 |mk {bd:D->List (Option D)}{ds:List D}{ok:Za->Prop}{st1 st2:Za}{ys:List D} (B:Xi X.K tg xs bd ds) (hz:ds.length<=1000) (q3:ZF ok (λd s=>ev F ce (ZJ bd U fr d) s) (λd s=>ev F cc (ZJ bd U fr d) s) ds st1=some (ys,st2)) (hp:Zj it=true) (pi:wpAny (model X.prog X.w) X.A (eval it X.env) (λv s1=>wpAny (model X.prog X.w) X.A (pyIter v) (PIE X pQ O tg (ZbM X O U ds ok st1 st2 ys Q)) X.xe s1) X.xe s):CIt X pQ s O U tg it xs F fr ce cc Q
theorem X9{f:α->β}{o:Ot α}{b:β}(h:o.map f=some b):∃ a,o=some a/\f a=b:=by
 cases o with
 |none=>exact Zc h
 |some a=>exact⟨a,rfl,by cases h;rfl⟩
variable{F:Nat->Fn}
theorem Zb2{G:Gs}(g:Zo G F n)(m:Cxt X G F sc N){xs:Li Str}{r:Ot (Ot Bool)}{A:CE}(C:tgN tg=some xs)(hi:itC G sc it (cE G n sc N) xs=some (r,A)){s:sH7}(I:L2.Inv X pQ O H s)(E:EnvOk X.K ad H O U)(S:StOk X.K ad H st)(e:ev F (mkC xs.length r fr A ce cc) U st=some (d,st'))(p:Post X.K ad H d st' Q):CIt X pQ s O U tg it xs F fr ce cc Q:=by
 rcases Jw C with⟨x,px,rfl,rfl⟩|⟨x,y,px,py,k,tp,rfl,rfl⟩|⟨x,y,z,px,py,pz,k,tp,rfl,rfl⟩
 .replace hi:(match ZU G sc it with
   |some a=>(cE G n sc N a).map λc=>(some (some true),c)
   |none=>(cE G n sc N it).map λc=>(some (some false),c))=some (r,A):=hi
  split at hi
  .rename_i a ha
   obtain⟨M,q,hi⟩:=X9 hi;cases hi;obtain⟨Z,T⟩:=XY (tg:=.Name x px) m ha (Zg q) (g X sc N m a _ q).pe;cases Y9 e with
   |@mk t st1 st2 ds ys ok h f j i=>
    refine .mk VB j i Z (T pQ s O H _ I ?_);cases t with
    |int k=>
     have f:(match (if k < 2 ^ 62/\-(2 ^ 62)<=k then some ((List.range k.toNat).map λ(k:Nat)=>D.int (k:Int)) else none) with
      |some xs=>some (xs,λ_=>True)
      |none=>none)=some (ds,ok):=f
     by_cases J:k < 2 ^ 62/\-(2 ^ 62)<=k
     .rw[if_pos J]at f
      cases f;exact J0 J E S h p
     .rw[if_neg J]at f
      cases f
    |_=>exact Zc f
  .obtain⟨M,q,hi⟩:=X9 hi
   cases hi;cases Y9 e with
   |@mk t st1 st2 ds ys ok h f j i=>
    refine .mk VB j i (Zg q) ?_;cases t with
    |tup xs=>cases f;exact pi_tup (g X sc N m it _ q).pe pQ s O H _ I (Wj E S h p)
    |lst l=>
     have f:(match st1[l]? with
      |some c=>some (c.2,λs=>s[l]?=some c)
      |none=>none)=some (ds,ok):=f
     cases u:st1[l]? with
     |none=>rw[u]at f;cases f
     |some c0=>
      rw[u]at f;cases f;exact pi_list (g X sc N m it _ q).pe pQ s O H _ I (VG E S h u p)
    |str z=>exact Zc f
    |dct ks vs=>
     have no:∀ {v:V}{o:Li Ad}{B:Hp},Den X.K o B v (.dct ks vs)->False:=λ{v o B} L=>by
      obtain⟨a,R,_,_,hl,r⟩:=L.ofDct;cases ks with
      |cons _ _=>exact Zc f
      |nil=>
       cases R with
       |cons _ _=>cases hl
       |nil=>cases r;cases f
     exact thn ((g X sc N m it _ q).pe pQ s O H (λ_ _=>False) I ⟨ad,U,st,_,st1,E,S,h,λv o B x1 S1 L=>no L⟩) λv s1 ⟨x,B,I1,r1,z⟩=>z.elim
    |_=>exact Zc f
 .replace hi:(match Xa G sc it with
   |some _=>none
   |none=>(cE G n sc N it).map λc=>(none,c))=some (r,A):=hi
  split at hi
  .exact Zc hi
  .obtain⟨M,q,hi⟩:=X9 hi
   cases hi;cases Y9 e with
   |mk h f j i=>
    obtain⟨W,P⟩:=Jy f;rcases W with⟨rfl,rfl⟩|⟨l,c0,rfl,u,rfl,rfl⟩
    .exact .mk (VC P) j i (Zg q) (pi_tup (g X sc N m it _ q).pe pQ s O H _ I (Wj E S h p))
    .exact .mk (VC P) j i (Zg q) (pi_list (g X sc N m it _ q).pe pQ s O H _ I (VG E S h u p))
 .replace hi:(match Xa G sc it with
   |some _=>none
   |none=>(cE G n sc N it).map λc=>(none,c))=some (r,A):=hi
  split at hi
  .exact Zc hi
  .obtain⟨M,q,hi⟩:=X9 hi
   cases hi;cases Y9 (b:=Ut) (w:=Uv) e with
   |@mk t st1 st2 ds ys ok h f j i=>
    cases t with
    |tup xs=>
     have f:(if xs.all ZaN=true then some (xs,λ(_:Za)=>True) else none)=some (ds,ok):=f
     split at f
     .rename_i Y
      cases f;exact .mk (UH λd hd=>by
       have:=bU.mp Y d hd;unfold ZaN at this;split at this
       .exact⟨_,_,_,rfl⟩
       .cases this) j i (Zg q) (pi_tup (g X sc N m it _ q).pe pQ s O H _ I (Wj E S h p))
     .exact Zc f
    |_=>exact Zc f
theorem Qs{G:Gs}(b:Zo G F n)(t:Cxt X G F sc N){c:CE}(h:cE G (n+1) sc N (.ListComp elt gens sc2 pos)=some c){s:sH7}(I:L2.Inv X pQ O H s)(Z:tE X.K (ev F c) O H Q)(g:∀ C x i u P,i.heap.Ns C P->(∀ h',Heap.SameBut C i.heap h'->L2.Inv X pQ O u { i with heap:=h' })->FpOk X pQ u C->Q (.ref x) u->compPost (model X.prog X.w) X.A X.xe use R0 (.ref x) C (.ok .next) i) :
  ∃ tg it ifs,gens=[⟨tg,it,ifs,0⟩]/\∀ a,wpAny (model X.prog X.w) X.A (comprehension (.ListComp elt [⟨tg,it,ifs,0⟩] sc2 pos) sc2 X.env a (newList []) false (eval it X.env) use) R0 X.xe s:=by
 cases Zb4 h with
 |@mk tg it ifs xs fr r ci ce cc j f k hi l m=>
  obtain⟨h1,h2,h3,h4,h5,h6⟩:=Yn f;obtain⟨ad,U,st,d,st',E,S,e,p⟩:=Z;obtain⟨cl,ec,c1,c2⟩:=VH (env:=X.env) (sc:=sc2) (λy Y hf=>by
   have hm:(y.1,NameKind.free)∈sc2.names:=by rw[<-hf];exact Y
   exact I.ok.has y.1 (t.cel y.1 (h6 y.1 (mem_frees.mpr hm)).1))
  refine⟨tg,it,ifs,rfl,λa=>?_⟩
  cases Zb2 b t j hi I E S e p with
  |mk B W L hp M=>
   refine wpAny_comprehension_free (use:=use) rfl (ZH hp) ec h1 h4 (thn M λv s1 q=>thn q λR s2 o=>?_)
   obtain⟨V,fp,tn,J,H2,rfl,I2,T,D,f2,ad1,Good,gm,gw,go,stop,z,E2,S2,g2,p2⟩:=o;exact Q7 t b f k l m c1 c2 Good gm gw go stop z I2 B T D f2 E2 S2 g2 L W p2 g
theorem Zb3{G:Gs}:YU G F:=by
 intro n f;refine⟨λX sc N S elt gens sc2 pos c h=>SE.of ?_,λX sc N K y i p elt gens sc2 j pos c hi h u=>?_⟩
 .intro pQ s O H Q I g
  obtain⟨tg,it,ifs,rfl,go⟩:=Qs f S h I g (use:=none) (R0:=EP X pQ O Q) λC k r E t x B _ q=>⟨t,x,λh' m=>⟨.ref k,E,B h' m,rfl,q⟩⟩
  rw[eval_ListComp];exact go _
 .intro pQ s O H D I g
  obtain⟨tg,it,ifs,rfl,go⟩:=Qs f K.toCxt h I g (use:=some (assign (.Name y p) X.env)) (R0:=λ_ J=>SP X pQ D .next J) λC k r E t x B d q=>by
   have U:=B r.heap (Heap.SameBut.refl _ _);show wpAny _ X.A (assign (.Name y p) X.env (.ref k)) _ _ r;refine wpAny_assign_Name (store_ok2 (v:=.ref k) U (by rw[K.hN];exact K.nd) (by rw[K.hN];exact Xo hi) (K.loc _ (W7 hi)) rfl (λL T ⟨a,m,R⟩=>?_) (.inl (K.fn _)))
   have M:C≠a:=by
    rcases R with z|z
    .rw[z];exact d.2.1
    .exact λw=>d.2.2.2.2.1 _ _ z w.symm
   exact⟨t,x.sameBut m M,λV l=>⟨_,E,T.turned (t':=L.toks) (λb o P e=>l.extBut b o P e) d.1 d.2.1 d.2.2.2.1 d.2.2.2.2.1 d.2.2.2.2.2,q⟩⟩
  rw[exec_Assign_Name_used _ _ _ _ u];refine aA (wpAny_standAt (aA ?_));show wpAny _ X.A (do let _ <-comprehension (.ListComp elt [⟨tg,it,ifs,0⟩] sc2 j) sc2 X.env _ (newList []) false (eval it X.env) (some (assign (.Name y p) X.env))) _ _ s
  exact aA (bJ (go _) (λ_ J g=>aB (aB g)) λ_ _ e=>e)
variable [ClsTab]
theorem Zhk{α:Type}:∀ {us:Li α},us.length=0->us=[]
 |[],_=>rfl
theorem ZgB{α:Type}:∀ {us:Li α},us.length=1->∃ a,us=[a]
 |[a],_=>⟨a,rfl⟩
theorem ZgD{α:Type}:∀ {us:Li α},us.length=2->∃ a b,us=[a,b]
 |[a,b],_=>⟨a,b,rfl⟩
theorem ZeX{α:Type}:∀ {us:Li α},us.length=3->∃ a b c,us=[a,b,c]
 |[a,b,c],_=>⟨a,b,c,rfl⟩
theorem ZgE{α:Type}:∀ {us:Li α},us.length=4->∃ a b c d,us=[a,b,c,d]
 |[a,b,c,d],_=>⟨a,b,c,d,rfl⟩
theorem Zhl{α:Type}:∀ {us:Li α},us.length=5->∃ a b c d e,us=[a,b,c,d,e]
 |[a,b,c,d,e],_=>⟨a,b,c,d,e,rfl⟩
theorem Zhm{α:Type}:∀ {us:Li α},us.length=6->∃ a b c d e f,us=[a,b,c,d,e,f]
 |[a,b,c,d,e,f],_=>⟨a,b,c,d,e,f,rfl⟩
def Zdv(K:fG7)(C:Ad)(fd:FuncData)(pn:Li Str)(ds:Li D):Prop:=ObC K C/\∀ n,n<=ds.length->∃ a b,(∀ ad H,Dens K ad H a (ds.drop n))/\Vals a b/\Binds K fd pn b
def Yy(K:fG7)(G:Gs)(T:Nat->Ot FD)(C:Ad)(ds:Li D):Li (Str×Nat×Nat)->Prop
 |[]=>True
 | (m,j,_) :: r=>(∃ y f fd pn N,MethOk K G T C m y j f fd pn N/\(m = "__init__"->Zdv K C fd pn ds))/\Yy K G T C ds r
def Zdx(K:fG7)(C:Ad)(ms:Li (Str×Nat×Nat)):Prop:=ms.lookup ("__init__":Str)=none->W.findIn K (.ref C) "__init__"=some (some (.builtin "object.__init__"))
def XG(K:fG7)(B:Ad):Li Nat->Prop
 |[]=>True
 |i :: r=>SubOk K (ClsTab.ca i) B/\XG K B r
def YH(a:Params)(K:fG7)(mg:Str->Ot vL)(G:Gs)(T:Nat->Ot FD):Gs->Prop
 |[]=>True
 | (x,.c d) :: r=>(∃ v u,mg x=some u/\RelV v u/\∀ ad H,Den K ad H v d)/\YH a K mg G T r
 | (x,.blt) :: r=>mg x=none/\YH a K mg G T r
 | (x,.dct ks ds) :: r=>Qh a K mg x ks ds/\YH a K mg G T r
 | (x,.fn i _ ds) :: r=>(∃ f fd pn N,DefOk K mg G T x i ds f fd pn N)/\YH a K mg G T r
 | (x,.cls i ms subs ds) :: r=>((mg x=some (.ref (ClsTab.ca i))/\NewOk K (ClsTab.ca i)/\XG K (ClsTab.ca i) subs)/\Yy K G T (ClsTab.ca i) ds ms/\Zdx K (ClsTab.ca i) ms)/\YH a K mg G T r
def Zeg(a:Params)(K:fG7)(mg:Str->Ot vL)(G:Gs)(T:Nat->Ot FD)(x:Str):GV->Prop
 |.c d=>∃ v u,mg x=some u/\RelV v u/\∀ ad H,Den K ad H v d
 |.blt=>mg x=none
 |.dct ks ds=>Qh a K mg x ks ds
 |.fn i _ ds=>∃ f fd pn N,DefOk K mg G T x i ds f fd pn N
 |.cls i ms subs ds=>(mg x=some (.ref (ClsTab.ca i))/\NewOk K (ClsTab.ca i)/\XG K (ClsTab.ca i) subs)/\Yy K G T (ClsTab.ca i) ds ms/\Zdx K (ClsTab.ca i) ms
theorem YL{b:Params}:∀ {l:Gs}{x:Str}{g:GV},YH b K mg G T l->l.lookup x=some g->Zeg b K mg G T x g
 |[],_,_,_,h=>by cases h
 | (y,v) :: r,x,g,a,h=>by
  have tl:YH b K mg G T r/\Zeg b K mg G T y v:=by
   cases v with
   |c d=>exact⟨a.2,a.1⟩
   |blt=>exact⟨a.2,a.1⟩
   |dct ks ds=>exact⟨a.2,a.1⟩
   |fn i f ds=>exact⟨a.2,a.1⟩
   |cls i ms subs ds=>exact⟨a.2,a.1⟩
  rw[bQ]at h;cases e:x==y with
  |true=>
   rw[e]at h;cases h;rw[beq_iff_eq.mp e];exact tl.2
  |false=>
   rw[e]at h;exact YL tl.1 h
theorem QR{B:Ad}:∀ {l:Li Nat},XG K B l->∀ i,l.contains i=true->SubOk K (ClsTab.ca i) B
 |[],_,_,h=>by cases h
 |j :: r,a,i,h=>by
  rw[List.contains_cons,bX]at h;rcases h with h|h
  .rw[beq_iff_eq.mp h];exact a.1
  .exact QR a.2 i h
theorem Ub{C:Ad}{ds:Li D}:∀ {l:Li (Str×Nat×Nat)},Yy K G T C ds l->∀ m j b,l.lookup m=some (j,b)->∃ y f fd pn N,MethOk K G T C m y j f fd pn N/\(m = "__init__"->Zdv K C fd pn ds)
 |[],_,_,_,_,h=>by cases h
 | (d,g,c) :: r,a,m,j,b,h=>by
  rw[bQ]at h;cases e:m==d with
  |true=>
   rw[e]at h;cases h;rw[beq_iff_eq.mp e];exact a.1
  |false=>
   rw[e]at h;exact Ub a.2 m j b h
theorem Zdm{a:Params}(h:YH a K mg G T G):Text a K mg G T:=
 ⟨λ_ _ e=>YL h e,λ_ e=>YL h e,λ_ _ _ e=>YL h e,λ_ _ _ _ e=>YL h e,λx i ms subs ds e=>by
  have g:Zeg a K mg G T x (.cls i ms subs ds):=YL h e;exact⟨⟨g.1.1,g.1.2.1,QR g.1.2.2⟩,Ub g.2.1,g.2.2⟩⟩
theorem Zez(a:∀ n,YU G (run T n))(X:Text w.params K mg G T)(n:Nat){x:Str}{f:Ad}{fd:FuncData}(b:DefOk K mg G T x i ds f fd pn N):FnOk P w K mg base CX0 (2 * n) f fd pn (spD K (run T n i)):=Zej a X n b.ob
theorem ZfS{a:Ad}{f:Li Int}(r:Only H)(t:SqL K H a (f.map V.int))(h:∃ st',run T n i [.lst 0] [(false,f.map .int)]=some (.bl true,st')):spD K (run T n i) [.ref a] H (λv _=>v=.bl true) λ_ _ _=>False:=by
 obtain⟨st',e⟩:=h;have ds:∀ f:Li Int,Dens K [a] H (f.map V.int) (f.map D.int):=λf=>by
  induction f with
  |nil=>exact .nil
  |cons n l s=>exact .cons (.int n) s
 have p:¬Z8 H a:=λ⟨o',q,m⟩=>by
  rcases r a with z|⟨o,xs,z⟩<;>(rw[q]at z;cases z)
  cases m
 refine⟨[a],[.lst 0],[(false,f.map .int)],.bl true,st',⟨rfl,λi j b c d _ _ k _=>?_,λi c g=>?_⟩,.cons (.lst ⟨rfl,p⟩) .nil,e,λv ad' H' x S h=>h.ofBl⟩
 .cases i with
  |zero=>simp at k
  |succ i=>simp at k
 .cases i with
  |succ i=>simp at g
  |zero=>
   have g:(false,f.map D.int)=c:=by simpa using g
   subst g;refine⟨a,rfl,.l p (ds f) (.inr ⟨rfl,?_⟩)⟩;rcases t with(h|⟨o,h⟩)|⟨o,its,n,B,A,k,y,w,u⟩
   .rcases r a with z|⟨o,xs,z⟩
    .rw[h]at z;cases z
    .rw[h]at z;cases z
   .exact .inl ⟨o,h⟩
   .exact .inr ⟨o,its,n,⟨B,A⟩,⟨k,y⟩,w,u⟩
noncomputable abbrev fnS(x y:Str)(s:Stmt)(c kV b a:vL)(e:Ot Ad)(d ct:vL):FuncData:=W.fnOf x y (defArgs s) (defBody s) (defScope s) c kV b a e d ct
inductive FnAt(K:fG7)(x:Str)(s:Stmt):Prop
 |mk {f:Addr}{oc kV dc pm cd ct:Value}{od an:Option Addr}{sl:Array (Option Value)} (a:W.nsIn K mainGlobals x=some (some (.ref f))) (l:K.lookup f=some ⟨oc,od,.func (W.fnOf x x (defArgs s) (defBody s) (defScope s) .none kV dc pm an cd ct),sl⟩) (e:W.codeIn K cd x=true) (k:W.keepIn K (.ref f)=true):FnAt K x s
inductive FnAtE(K:fG7)(x:Str)(s:Stmt)(v:Int):Prop
 |mk {f E:Addr}{eo:Obj}{en:Nat}{et:Tok}{oc kV dc pm cd ct:Value}{od an:Option Addr}{sl:Array (Option Value)} (a:W.nsIn K mainGlobals x=some (some (.ref f))) (l:K.lookup f=some ⟨oc,od,.func (W.fnOf x x (defArgs s) (defBody s) (defScope s) (.ref E) kV dc pm an cd ct),sl⟩) (e:W.codeIn K cd x=true) (k:W.keepIn K (.ref f)=true) (d:K.lookup E=some eo) (g:eo.data=.seq #[.int v et] en):FnAtE K x s v
inductive MtAt(K:fG7)(C:Addr)(x y:Str)(s:Stmt):Prop
 |mk {f:Addr}{oc kV dc pm cd ct:Value}{od an:Option Addr}{sl:Array (Option Value)} (m:W.findIn K (.ref C) x=some (some (.ref f))) (l:K.lookup f=some ⟨oc,od,.func (W.fnOf x y (defArgs s) (defBody s) (defScope s) .none kV dc pm an cd ct),sl⟩) (e:W.codeIn K cd y=true) (k:W.keepIn K (.ref f)=true) (i:W.isFn K (.ref f)=true):MtAt K C x y s
structure ClsAt(K:fG7)(x:Str)(C:Addr):Prop where
 ya:W.nsIn K mainGlobals x=some (some (.ref C))
 yb:W.makesIn K C=true
 yc:W.findIn K (.ref C) "__init__"=some (some (.builtin "object.__init__"))
 yd:W.keepIn K (.ref C)=true
 ye:W.plainGet K C Str.empty=true
 yf:W.hasDictIn K C=true
 yg:W.plainOver K C=true
 yh:W.findIn K (.ref C) "__setattr__"=some (some (.builtin "object.__setattr__"))
 yi:W.findIn K (.ref C) "__class__"=some (some (.builtin "object.__class__"))
 yj:W.mroIn K C (.type "object")=some true
 yk:W.specialIn K (.builtin "object.__class__") "__get__"=some (some (.builtin "getset_descriptor.__get__"))
 yl:W.takesIn K (.builtin "object.__class__")=some true
inductive MtAtE(K:fG7)(C:Addr)(x y:Str)(s:Stmt)(v:Int):Prop
 |mk {f E:Addr}{eo:Obj}{en:Nat}{et:Tok}{oc kV dc pm cd ct:Value}{od an:Option Addr}{sl:Array (Option Value)} (m:W.findIn K (.ref C) x=some (some (.ref f))) (l:K.lookup f=some ⟨oc,od,.func (W.fnOf x y (defArgs s) (defBody s) (defScope s) (.ref E) kV dc pm an cd ct),sl⟩) (e:W.codeIn K cd y=true) (k:W.keepIn K (.ref f)=true) (i:W.isFn K (.ref f)=true) (d:K.lookup E=some eo) (g:eo.data=.seq #[.int v et] en):MtAtE K C x y s v
structure ClsAtB(K:fG7)(x:Str)(C:Addr):Prop where
 ya:W.nsIn K mainGlobals x=some (some (.ref C))
 yb:W.makesIn K C=true
 yd:W.keepIn K (.ref C)=true
 ye:W.plainGet K C Str.empty=true
 yf:W.hasDictIn K C=true
 yg:W.plainOver K C=true
 yh:W.findIn K (.ref C) "__setattr__"=some (some (.builtin "object.__setattr__"))
 n1:W.findIn K (.ref C) "program"=some none
 n2:W.findIn K (.ref C) "trials"=some none
 n3:W.findIn K (.ref C) "limit"=some none
 n4:W.findIn K (.ref C) "kept"=some none
 n5:W.findIn K (.ref C) "done"=some none
theorem ClsAtB.oc{K:fG7}{x:Str}{C:Ad}(F:ClsAtB K x C):ObC K C:=⟨⟨F.ye,F.yf,F.yg,F.yh⟩,λf a=>by
 have a:((f == "program")||((f == "trials")||((f == "limit")||((f == "kept")||((f == "done")||false)))))=true:=a;rw[dG,bX,bX,bX,bX,beq_iff_eq,beq_iff_eq,beq_iff_eq,beq_iff_eq,beq_iff_eq]at a;rcases a with rfl|rfl|rfl|rfl|rfl
 .exact F.n1
 .exact F.n2
 .exact F.n3
 .exact F.n4
 .exact F.n5⟩
abbrev Z7(G:Gs)(s:Stmt)(N a:Li Str)(c:CS):Prop:=FnScope N a (defScope s)/\(∀ y∈N,L2.Loc (defScope s) y)/\cSs G 60 (defScope s) N (defBody s)=some c
variable{ps:Li Str}
section
variable{fd:FuncData}
theorem bd1(hl:ps.length=1)(h:∀ a,bindArgs fd ⟨[a],[]⟩=pure (ps.zip [a])):Binds K fd ps []:=.all λb e=>by obtain⟨_,rfl⟩:=ZgB (e.trans hl);exact h _
theorem bd2(hl:ps.length=2)(h:∀ a b,bindArgs fd ⟨[a,b],[]⟩=pure (ps.zip [a,b])):Binds K fd ps []:=.all λc e=>by obtain⟨_,_,rfl⟩:=ZgD (e.trans hl);exact h _ _
theorem bd3(hl:ps.length=3)(h:∀ a b c,bindArgs fd ⟨[a,b,c],[]⟩=pure (ps.zip [a,b,c])):Binds K fd ps []:=.all λd e=>by obtain⟨_,_,_,rfl⟩:=ZeX (e.trans hl);exact h _ _ _
theorem bd4(hl:ps.length=4)(h:∀ a b c d,bindArgs fd ⟨[a,b,c,d],[]⟩=pure (ps.zip [a,b,c,d])):Binds K fd ps []:=.all λf e=>by obtain⟨_,_,_,_,rfl⟩:=ZgE (e.trans hl);exact h _ _ _ _
theorem bd5(hl:ps.length=5)(h:∀ a b c d k,bindArgs fd ⟨[a,b,c,d,k],[]⟩=pure (ps.zip [a,b,c,d,k])):Binds K fd ps []:=.all λf e=>by obtain⟨_,_,_,_,_,rfl⟩:=Zhl (e.trans hl);exact h _ _ _ _ _
theorem bd6(hl:ps.length=6)(h:∀ a b c d k l,bindArgs fd ⟨[a,b,c,d,k,l],[]⟩=pure (ps.zip [a,b,c,d,k,l])):Binds K fd ps []:=.all λf e=>by obtain⟨_,_,_,_,_,_,rfl⟩:=Zhm (e.trans hl);exact h _ _ _ _ _ _
theorem bd0(hl:ps.length=0)(h:bindArgs fd ⟨[],[]⟩=pure []):Binds K fd ps []:=.all λa e=>by rw[Zhk (e.trans hl),List.zip_nil_right];exact h
end
variable{h:Heap}{i:Nat}
section
variable{Pm:Params}{x y:Str}{p:Nat}{s:Stmt}{c:CS}{r:Gs}
theorem gD(X:K.In h)(o:h.Ns mainGlobals mg)(F:FnAt K x s)(q:Z7 G s N ps c)(f:T i=some ⟨ps.length,N.length,c⟩)(t:YH Pm K mg G T r)(d:∀ kV g b n j ct,Binds K (fnS x x s .none kV g b n j ct) ps []:=by first|exact λ_ _ _ _ _ _=>bd1 rfl λ_=>rfl|exact λ_ _ _ _ _ _=>bd2 rfl λ_ _=>rfl|exact λ_ _ _ _ _ _=>bd3 rfl λ_ _ _=>rfl|exact λ_ _ _ _ _ _=>bd4 rfl λ_ _ _ _=>rfl|exact λ_ _ _ _ _ _=>bd5 rfl λ_ _ _ _ _=>rfl|exact λ_ _ _ _ _ _=>bd6 rfl λ_ _ _ _ _ _=>rfl|exact λ_ _ _ _ _ _=>bd0 rfl rfl):YH Pm K mg G T ((x,.fn i p []) :: r):=by
 cases F with
 |mk a l e k=>exact⟨⟨_,_,ps,N,.inl ⟨s,_,_,_,_,_,_,_,_,_,_,c,rfl,l,e,q.1,q.2.1,q.2.2,f⟩,k,W.mg_of X o a,λm u=>⟨[],[],λ_ _=>by rw[List.drop_nil];exact .nil,.nil,d _ _ _ _ _ _⟩⟩,t⟩
theorem gE{v:Int}(X:K.In h)(B:h.Ns mainGlobals mg)(F:FnAtE K x s v)(q:Z7 G s N ps c)(z:T i=some ⟨ps.length,N.length,c⟩)(f:∀ E kV o b w u ct n j A,K.lookup E=some n->n.data=.seq #[.int v j] A->Binds K (fnS x x s (.ref E) kV o b w u ct) ps []/\Binds K (fnS x x s (.ref E) kV o b w u ct) ps [.int v j])(t:YH Pm K mg G T r):YH Pm K mg G T ((x,.fn i p [.int v]) :: r):=by
 cases F with
 |mk a l e k d g=>
  refine⟨⟨_,_,ps,N,.inl ⟨s,_,_,_,_,_,_,_,_,_,_,c,rfl,l,e,q.1,q.2.1,q.2.2,z⟩,k,W.mg_of X B a,λm y=>?_⟩,t⟩
  match m,y with
  |0,_=>exact⟨[.int v],[.int v _],λ_ _=>.cons (.int _) .nil,.cons ⟨_,rfl⟩ .nil,(f _ _ _ _ _ _ _ _ _ _ d g).2⟩
  |1,_=>exact⟨[],[],λ_ _=>.nil,.nil,(f _ _ _ _ _ _ _ _ _ _ d g).1⟩
theorem gM{C:Ad}{r:Li (Str×Nat×Nat)}(b:x ≠ "__init__")(F:MtAt K C x y s)(q:Z7 G s N ps c)(f:T i=some ⟨ps.length,N.length,c⟩)(t:Yy K G T C ds r)(d:∀ kV g a n h ct,Binds K (fnS x y s .none kV g a n h ct) ps []:=by first|exact λ_ _ _ _ _ _=>bd1 rfl λ_=>rfl|exact λ_ _ _ _ _ _=>bd2 rfl λ_ _=>rfl|exact λ_ _ _ _ _ _=>bd3 rfl λ_ _ _=>rfl|exact λ_ _ _ _ _ _=>bd4 rfl λ_ _ _ _=>rfl|exact λ_ _ _ _ _ _=>bd5 rfl λ_ _ _ _ _=>rfl|exact λ_ _ _ _ _ _=>bd6 rfl λ_ _ _ _ _ _=>rfl|exact λ_ _ _ _ _ _=>bd0 rfl rfl):Yy K G T C ds ((x,i,p) :: r):=by
 cases F with
 |mk m l e k j=>exact⟨⟨y,_,_,ps,N,⟨⟨s,_,_,_,_,_,_,_,_,_,_,c,rfl,l,e,q.1,q.2.1,q.2.2,f⟩,⟨m,j,k⟩,d _ _ _ _ _ _⟩,λz=>absurd z b⟩,t⟩
theorem gMI{C:Ad}{v:Int}{r:Li (Str×Nat×Nat)}(B:ClsAtB K z C)(F:MtAtE K C x y s v)(q:Z7 G s N ps c)(D:T i=some ⟨ps.length,N.length,c⟩)(t:Yy K G T C [.int v] r)(a:∀ E kV o b w u ct h f H,K.lookup E=some h->h.data=.seq #[.int v f] H->Binds K (fnS x y s (.ref E) kV o b w u ct) ps []/\Binds K (fnS x y s (.ref E) kV o b w u ct) ps [.int v f]):Yy K G T C [.int v] ((x,i,p) :: r):=by
 cases F with
 |mk m l e k j d g=>
  refine⟨⟨y,_,_,ps,N,⟨⟨s,_,_,_,_,_,_,_,_,_,_,c,rfl,l,e,q.1,q.2.1,q.2.2,D⟩,⟨m,j,k⟩,(a _ _ _ _ _ _ _ _ _ _ d g).1⟩,λ_=>⟨B.oc,λn A=>?_⟩⟩,t⟩
  match n,A with
  |0,_=>exact⟨[.int v],[.int v _],λ_ _=>.cons (.int _) .nil,.cons ⟨_,rfl⟩ .nil,(a _ _ _ _ _ _ _ _ _ _ d g).2⟩
  |1,_=>exact⟨[],[],λ_ _=>.nil,.nil,(a _ _ _ _ _ _ _ _ _ _ d g).1⟩
theorem gC{C:Ad}(X:K.In h)(d:h.Ns mainGlobals mg)(c:ClsTab.ca i=C)(F:ClsAt K x C)(a:XG K C subs)(b:Yy K G T C ds ms)(t:YH Pm K mg G T r):YH Pm K mg G T ((x,.cls i ms subs ds) :: r):=by
 subst c;exact⟨⟨⟨W.mg_of X d F.ya,⟨F.yb,F.yd,⟨F.ye,F.yf,F.yg,F.yh⟩⟩,a⟩,b,λ_=>F.yc⟩,t⟩
theorem gCB{C:Ad}(X:K.In h)(d:h.Ns mainGlobals mg)(c:ClsTab.ca i=C)(F:ClsAtB K x C)(a:XG K C subs)(b:Yy K G T C ds ms)(hi:ms.lookup ("__init__":Str)≠none)(t:YH Pm K mg G T r):YH Pm K mg G T ((x,.cls i ms subs ds) :: r):=by
 subst c;exact⟨⟨⟨W.mg_of X d F.ya,⟨F.yb,F.yd,⟨F.ye,F.yf,F.yg,F.yh⟩⟩,a⟩,b,λz=>absurd z hi⟩,t⟩
theorem gB(X:K.In h)(a:h.Ns mainGlobals mg)(z:W.nsIn K mainGlobals x=some none)(t:YH Pm K mg G T r):YH Pm K mg G T ((x,.blt) :: r):=⟨W.mg_none_of X a z,t⟩
theorem gI{v:Int}{k:Tok}(X:K.In h)(a:h.Ns mainGlobals mg)(g:W.nsIn K mainGlobals x=some (some (.int v k)))(t:YH Pm K mg G T r):YH Pm K mg G T ((x,.c (.int v)) :: r):=⟨⟨.int v,_,W.mg_of X a g,⟨_,rfl⟩,λ_ _=>.int _⟩,t⟩
theorem gL{fa:Ad}(X:K.In h)(j:h.Ns mainGlobals mg)(b:mg x=some (.ref fa))(F:FnAt K x s)(q:Z7 G s N [z] c)(p:T i=some ⟨1,N.length,c⟩)(g:∀ kV r n v t ct u,bindArgs (fnS x x s .none kV r n v t ct) ⟨[u],[]⟩=pure [(z,u)]):∃ (fd:FuncData) (N:Li Str),(∀ (s:sH7) (u:vL),BindsTo s fd ⟨[u],[]⟩ [(z,u)])/\DefOk K mg G T x i [] fa fd [z] N:=by
 cases F with
 |@mk f _ _ _ _ _ _ _ _ _ a l e k=>
  have d:=b.symm.trans (W.mg_of X j a);have d:fa=f:=by cases d;rfl
  rw[d];exact⟨_,N,λ_ u=>.of_eq (g _ _ _ _ _ _ u),.inl ⟨s,_,_,_,_,_,_,_,_,_,_,c,rfl,l,e,q.1,q.2.1,q.2.2,p⟩,k,W.mg_of X j a,λm y=>⟨[],[],λ_ _=>by rw[List.drop_nil];exact .nil,.nil,.all λw o=>by obtain⟨u,rfl⟩:=ZgB o;exact g _ _ _ _ _ _ u⟩⟩
end
omit [ClsTab] in
theorem Jr{l:W.OpenLaw}{q:Program}{e:Li Str}{V:(Str->Ot vL)->Heap->Prop}{r:World->Heap->Prop}{d:DefRec}{K:Params->fG7}{G:Gs}{T:Nat->Ot FD}{n i:Nat}{x:Str}(y:l.most=some 63)(o:d.params.defaults=[])(v:Room (2 * n) callerA)(I:∀ (w:World) (h:Heap),r w h->(K w.params).In h)(C:∀ [ClsTab] n,YU G (run T n))(F:∀ (w:World) (mg:Str->Ot vL) (fa:Ad) (h:Heap),(K w.params).In h->h.Ns mainGlobals mg->mg d.name=some (.ref fa)->
   ∃ _:ClsTab,Text w.params (K w.params) mg G T/\∃ (fd:FuncData) (N:Li Str),(∀ (s:sH7) (u:vL),BindsTo s fd ⟨[u],[]⟩ [(x,u)])/\DefOk (K w.params) mg G T d.name i [] fa fd [x] N)(L:∀ j:Li Int,j.length<=63->∃ st',run T n i [.lst 0] [(false,j.map .int)]=some (.bl true,st')) :
  W.WalkO q e V r l.row.toRowW d [] (λf vs=>PySem.call f vs):=
 L2.walk_of (n:=63) (k:=2 * n) (x:=x) (CX:=λ_=>CX0) (sp:=λw vs H Q E=>∀ c:ClsTab,@spD c (K w.params) (run T n i) vs H Q E) y (by decide) o v I
  (λw mg fa h Y Z m=>by
   obtain⟨c,X,fd,N,D,Dk⟩:=F w mg fa h Y Z m;refine⟨fd,D,λbase _ _=>?_⟩
   have p:=Zez (P:=l.prog) (w:=w) (base:=base) (λn=>C n) X n Dk
   exact⟨λvs H Q E z=>p.len vs H Q E (z c),λA b s H g t vs Q E U S R O z=>p.run A b s H g t vs Q E U S R O (z c)⟩)
  (λw H a j B M J c=>ZfS M J (L j B)) λ_ _ _ _ _ z=>z
end Dp
namespace Dp
open PySem
abbrev jN(n:Nat):Option D:=some (.int n)
abbrev jI(n:Int):Option D:=some (.int n)
abbrev jL(n:Nat):Option D:=some (.lst n)
abbrev CE.i(n:Int):CE:=.c (.int n)
noncomputable abbrev CE.t(s:String):CE:=.c (.str (S s))
abbrev CE.u(a:CE):CE:=.aC a .aN
abbrev CS.z(a:CS):CS:=.seq a .skip
abbrev CS.w(c:CE)(a:CS):CS:=.ite c a .skip
noncomputable def c_replaced:FD:=⟨3,3,(.z (.ret (.bin .Add (.bin .Add (.slice (.v 0) .nop (.part (.v 1))) (.tupE (.u (.v 2)))) (.slice (.v 0) (.part (.bin .Add (.v 1) (.i 1))) .nop))))⟩
noncomputable def c_operand_places:FD:=⟨1,1,(.z (.ret (.look [(S "put"),(S "if"),(S "tell"),(S "go"),(S "skip")] [(.tup [(.int 2),(.int 4)]),(.tup [(.int 1),(.int 3)]),(.tup [(.int 1)]),(.tup []),(.tup [])] (.ix (.v 0) (.i 0)))))⟩
noncomputable def Xl:CS:=(.z (.set 1 (.bin .Mult (.v 1) (.i 2))))
noncomputable def c_bit_of:FD:=⟨1,3,(.seq (.set 1 (.i 1))
 (.seq (.for1 2 true (.v 0) Xl)
 (.z (.ret (.v 1)))))⟩
noncomputable def c_has_bit:FD:=⟨2,2,(.z (.ret (.cmp .NotEq (.bin .BitAnd (.v 0) (.call 43 (.u (.v 1)) [])) (.i 0))))⟩
noncomputable def c_around:FD:=⟨1,1,(.z (.ret (.bin .Sub (.bin .Mod (.bin .Add (.v 0) (.i 1000000000)) (.i 2000000000)) (.i 1000000000))))⟩
noncomputable def c_divided:FD:=⟨2,2,(.seq (.w (.cmp .Eq (.v 1) (.i 0)) (.z (.ret (.i 0))))
 (.z (.ret (.call 0 (.u (.bin .FloorDiv (.v 0) (.v 1))) []))))⟩
noncomputable def c_left_over:FD:=⟨2,2,(.seq (.w (.cmp .Eq (.v 1) (.i 0)) (.z (.ret (.v 0))))
 (.z (.ret (.bin .Sub (.v 0) (.bin .Mult (.v 1) (.bin .FloorDiv (.v 0) (.v 1)))))))⟩
noncomputable def c_reckon:FD:=⟨3,3,(.seq (.w (.cmp .Eq (.v 1) (.t "+")) (.z (.ret (.call 0 (.u (.bin .Add (.v 0) (.v 2))) []))))
 (.seq (.w (.cmp .Eq (.v 1) (.t "-")) (.z (.ret (.call 0 (.u (.bin .Sub (.v 0) (.v 2))) []))))
 (.seq (.w (.cmp .Eq (.v 1) (.t "*")) (.z (.ret (.call 0 (.u (.bin .Mult (.v 0) (.v 2))) []))))
 (.seq (.w (.cmp .Eq (.v 1) (.t "/")) (.z (.ret (.call 1 (.aC (.v 0) (.u (.v 2))) []))))
 (.z (.ret (.call 2 (.aC (.v 0) (.u (.v 2))) [])))))))⟩
noncomputable def c_is_so:FD:=⟨3,3,(.seq (.w (.cmp .Eq (.v 1) (.t "<")) (.z (.ret (.cmp .Lt (.v 0) (.v 2)))))
 (.seq (.w (.cmp .Eq (.v 1) (.t "<=")) (.z (.ret (.cmp .LtE (.v 0) (.v 2)))))
 (.seq (.w (.cmp .Eq (.v 1) (.t "=")) (.z (.ret (.cmp .Eq (.v 0) (.v 2)))))
 (.seq (.w (.cmp .Eq (.v 1) (.t ">=")) (.z (.ret (.cmp .GtE (.v 0) (.v 2)))))
 (.seq (.w (.cmp .Eq (.v 1) (.t ">")) (.z (.ret (.cmp .Gt (.v 0) (.v 2)))))
 (.z (.ret (.cmp .NotEq (.v 0) (.v 2)))))))))⟩
noncomputable def c_behind:FD:=⟨2,2,(.z (.ret (.ix (.v 0) (.bin .Mod (.bin .Add (.tix (.v 0) (.u (.v 1))) (.i 1)) (.len (.v 0))))))⟩
noncomputable def c_Step_word:FD:=⟨1,1,(.z (.ret (.t "none")))⟩
noncomputable def c_Step_turned:FD:=⟨3,3,(.z (.ret (.tupE .aN)))⟩
noncomputable def c_Sign_word:FD:=⟨1,1,(.z (.ret (.t "sign")))⟩
noncomputable def c_Sign_turned:FD:=⟨3,3,(.seq (.w (.cmp .Eq (.ix (.v 1) (.i 0)) (.t "put")) (.z (.ret (.tupE (.u (.call 42 (.aC (.v 1) (.aC (.i 3) (.u (.call 70 (.aC (.c (.kt [(S "+"),(S "-"),(S "*"),(S "/"),(S "mod")])) (.u (.ix (.v 1) (.i 3)))) [])))) []))))))
 (.seq (.w (.cmp .Eq (.ix (.v 1) (.i 0)) (.t "if")) (.z (.ret (.tupE (.u (.call 42 (.aC (.v 1) (.aC (.i 2) (.u (.call 70 (.aC (.c (.kt [(S "<"),(S "<="),(S "="),(S ">="),(S ">"),(S "!=")])) (.u (.ix (.v 1) (.i 2)))) [])))) []))))))
 (.z (.ret (.tupE .aN)))))⟩
noncomputable def c_More_word:FD:=⟨1,1,(.z (.ret (.t "more")))⟩
noncomputable def Yk:CS:=(.z (.w (.cmp .Eq (.ix (.ix (.v 1) (.v 4)) (.i 0)) (.t "number")) (.z (.app 3 (.call 42 (.aC (.v 1) (.aC (.v 4) (.u (.tupE (.aC (.t "number") (.u (.call 0 (.u (.bin .Add (.ix (.ix (.v 1) (.v 4)) (.i 1)) (.i 1))) []))))))) [])))))
noncomputable def c_More_turned:FD:=⟨3,5,(.seq (.set 3 (.lstE .aN))
 (.seq (.for1 4 false (.call 113 (.u (.v 1)) []) Yk)
 (.z (.ret (.tOf (.v 3))))))⟩
noncomputable def c_Turn_word:FD:=⟨1,1,(.z (.ret (.t "turn")))⟩
noncomputable def c_Turn_turned:FD:=⟨3,3,(.seq (.w (.cmp .NotEq (.ix (.v 1) (.i 0)) (.t "if")) (.z (.ret (.tupE .aN))))
 (.z (.ret (.tupE (.u (.call 42 (.aC (.v 1) (.aC (.i 2) (.u (.look [(S "<"),(S ">="),(S "<="),(S ">"),(S "="),(S "!=")] [(.str (S ">=")),(.str (S "<")),(.str (S ">")),(.str (S "<=")),(.str (S "!=")),(.str (S "="))] (.ix (.v 1) (.i 2)))))) []))))))⟩
noncomputable def c_Out_word:FD:=⟨1,1,(.z (.ret (.t "out")))⟩
noncomputable def c_Out_turned:FD:=⟨3,3,(.seq (.w (.cmp .Eq (.ix (.v 1) (.i 0)) (.t "skip")) (.z (.ret (.tupE .aN))))
 (.z (.ret (.tupE (.u (.tupE (.u (.t "skip"))))))))⟩
noncomputable def c_Swap_word:FD:=⟨1,1,(.z (.ret (.t "swap")))⟩
noncomputable def c_Swap_turned:FD:=⟨3,3,(.seq (.w (.and (.cmp .Eq (.ix (.v 1) (.i 0)) (.t "put")) (.cmp .NotEq (.ix (.v 1) (.i 2)) (.ix (.v 1) (.i 4)))) (.z (.ret (.tupE (.u (.tupE (.aC (.t "put") (.aC (.ix (.v 1) (.i 1)) (.aC (.ix (.v 1) (.i 4)) (.aC (.ix (.v 1) (.i 3)) (.u (.ix (.v 1) (.i 2)))))))))))))
 (.seq (.w (.and (.cmp .Eq (.ix (.v 1) (.i 0)) (.t "if")) (.cmp .NotEq (.ix (.v 1) (.i 1)) (.ix (.v 1) (.i 3)))) (.z (.ret (.tupE (.u (.tupE (.aC (.t "if") (.aC (.ix (.v 1) (.i 3)) (.aC (.ix (.v 1) (.i 2)) (.aC (.ix (.v 1) (.i 1)) (.u (.ix (.v 1) (.i 4)))))))))))))
 (.z (.ret (.tupE .aN)))))⟩
noncomputable def c_Far_word:FD:=⟨1,1,(.z (.ret (.t "far")))⟩
noncomputable def c_Far_turned:FD:=⟨3,3,(.seq (.w (.or (.cmp .NotIn (.ix (.v 1) (.i 0)) (.tupE (.aC (.t "go") (.u (.t "if"))))) (.cmp .GtE (.ix (.v 1) (.neg (.i 1))) (.v 2))) (.z (.ret (.tupE .aN))))
 (.z (.ret (.tupE (.u (.bin .Add (.slice (.v 1) .nop (.part (.neg (.i 1)))) (.tupE (.u (.bin .Add (.ix (.v 1) (.neg (.i 1))) (.i 1))))))))))⟩
noncomputable def Jd:CE:=(.comp false [4,6] (.meth [(146,148),(169,171),(149,151),(157,159),(152,154),(160,162),(163,165)] (.v 6) (.aC (.v 5) (.u (.len (.v 1))))) (.tupE (.aC (.v 1) (.aC (.meth [(146,147),(169,170),(149,150),(157,158),(152,153),(160,161),(163,164)] (.v 2) .aN) (.u (.v 0))))) (.c (.bl true)))
noncomputable def XI:CS:=(.z (.ext 3 Jd))
noncomputable def XJ:CS:=(.z (.for1 6 false (.v 2) XI))
noncomputable def c_fakes:FD:=⟨1,7,(.seq (.set 1 (.ix (.v 0) (.i 2)))
 (.seq (.set 2 (.lstE (.aC (.new 169) (.aC (.new 149) (.aC (.new 157) (.aC (.new 152) (.aC (.new 160) (.u (.new 163)))))))))
 (.seq (.set 3 (.lstE .aN))
 (.seq (.forE 4 5 (.v 1) XJ)
 (.z (.ret (.tOf (.v 3))))))))⟩
noncomputable def c_fake_of:FD:=⟨3,3,(.z (.ret (.tupE (.aC (.ix (.v 0) (.i 0)) (.aC (.ix (.v 0) (.i 1)) (.u (.call 42 (.aC (.ix (.v 0) (.i 2)) (.aC (.v 1) (.u (.v 2)))) [])))))))⟩
noncomputable def c_worth:FD:=⟨2,2,(.seq (.w (.cmp .Eq (.ix (.v 0) (.i 0)) (.t "name")) (.z (.ret (.ix (.v 1) (.ix (.v 0) (.i 1))))))
 (.z (.ret (.ix (.v 0) (.i 1)))))⟩
noncomputable def c_began:FD:=⟨2,2,(.z (.ret (.tupE (.aC (.i 0) (.u (.bin .Add (.v 1) (.bin .Mult (.tupE (.u (.i 0))) (.bin .Sub (.ix (.v 0) (.i 1)) (.len (.v 1))))))))))⟩
noncomputable def c_at_end:FD:=⟨2,2,(.z (.ret (.cmp .GtE (.ix (.v 1) (.i 0)) (.len (.ix (.v 0) (.i 2))))))⟩
noncomputable def c_values_behind:FD:=⟨2,3,(.seq (.w (.cmp .NotEq (.ix (.v 0) (.i 0)) (.t "put")) (.z (.ret (.v 1))))
 (.seq (.set 2 (.call 3 (.aC (.call 5 (.aC (.ix (.v 0) (.i 2)) (.u (.v 1))) []) (.aC (.ix (.v 0) (.i 3)) (.u (.call 5 (.aC (.ix (.v 0) (.i 4)) (.u (.v 1))) [])))) []))
 (.z (.ret (.call 42 (.aC (.v 1) (.aC (.ix (.v 0) (.i 1)) (.u (.v 2)))) [])))))⟩
noncomputable def c_place_behind:FD:=⟨3,3,(.seq (.w (.cmp .Eq (.ix (.v 0) (.i 0)) (.t "go")) (.z (.ret (.ix (.v 0) (.i 1)))))
 (.seq (.w (.and (.cmp .Eq (.ix (.v 0) (.i 0)) (.t "if")) (.call 4 (.aC (.call 5 (.aC (.ix (.v 0) (.i 1)) (.u (.v 2))) []) (.aC (.ix (.v 0) (.i 2)) (.u (.call 5 (.aC (.ix (.v 0) (.i 3)) (.u (.v 2))) [])))) [])) (.z (.ret (.ix (.v 0) (.i 4)))))
 (.z (.ret (.bin .Add (.v 1) (.i 1))))))⟩
noncomputable def c_moved:FD:=⟨2,5,(.seq (.w (.call 7 (.aC (.v 0) (.u (.v 1))) []) (.z (.ret (.tupE (.u (.t "none"))))))
 (.seq (.set 2 (.ix (.v 1) (.i 0)))
 (.seq (.set 3 (.ix (.v 1) (.i 1)))
 (.seq (.set 4 (.ix (.ix (.v 0) (.i 2)) (.v 2)))
 (.seq (.w (.cmp .Eq (.ix (.v 4) (.i 0)) (.t "tell")) (.z (.ret (.tupE (.aC (.t "told") (.u (.call 5 (.aC (.ix (.v 4) (.i 1)) (.u (.v 3))) [])))))))
 (.z (.ret (.tupE (.aC (.call 9 (.aC (.v 4) (.aC (.v 2) (.u (.v 3)))) []) (.u (.call 8 (.aC (.v 4) (.u (.v 3))) [])))))))))))⟩
noncomputable def c_is_outcome:FD:=⟨1,1,(.z (.ret (.isi .str (.ix (.v 0) (.i 0)))))⟩
noncomputable def ZK:CS:=(.seq (.set 6 (.call 10 (.aC (.v 0) (.u (.v 3))) []))
 (.seq (.app 4 (.v 6))
 (.seq (.w (.call 11 (.u (.v 6)) []) (.z (.ret (.tOf (.v 4)))))
 (.z (.set 3 (.v 6))))))
noncomputable def c_trail:FD:=⟨3,7,(.seq (.set 3 (.call 6 (.aC (.v 0) (.u (.v 1))) []))
 (.seq (.set 4 (.lstE (.u (.v 3))))
 (.seq (.for1 5 true (.v 2) ZK)
 (.seq (.app 4 (.ife (.call 7 (.aC (.v 0) (.u (.v 3))) []) (.tupE (.u (.t "none"))) (.tupE (.u (.t "late")))))
 (.z (.ret (.tOf (.v 4))))))))⟩
noncomputable def X3:CE:=(.comp false [] (.v 1) (.ix (.v 0) (.i 0)) (.c (.bl true)))
noncomputable def c_places_done:FD:=⟨1,2,(.seq (.set 1 (.slice (.v 0) .nop (.part (.neg (.i 1)))))
 (.seq (.w (.cmp .NotEq (.ix (.ix (.v 0) (.neg (.i 1))) (.i 0)) (.t "told")) (.z (.set 1 (.slice (.v 1) .nop (.part (.neg (.i 1)))))))
 (.z (.ret X3))))⟩
noncomputable def XT:CS:=(.z (.set 1 (.bin .BitOr (.v 1) (.call 43 (.u (.v 2)) []))))
noncomputable def c_seen_in:FD:=⟨1,3,(.seq (.set 1 (.i 0))
 (.seq (.for1 2 false (.call 14 (.u (.v 0)) []) XT)
 (.z (.ret (.v 1)))))⟩
noncomputable def c_check_trials:FD:=⟨1,1,(.z (.w (.cmp .Gt (.len (.v 0)) (.i 10)) (.z .stop)))⟩
noncomputable def ZG:CS:=(.seq (.w (.cmp .NotEq (.v 4) (.v 5)) (.z (.set 2 (.bin .Add (.v 2) (.v 3)))))
 (.z (.set 3 (.bin .Mult (.v 3) (.i 2)))))
noncomputable def c_bits_unlike:FD:=⟨2,6,(.seq (.set 2 (.i 0))
 (.seq (.set 3 (.i 1))
 (.seq (.forP 4 5 (.aC (.v 0) (.u (.v 1))) ZG)
 (.z (.ret (.v 2))))))⟩
noncomputable def c_codes_of:FD:=⟨1,1,(.z (.ret (.comp3 [] (.call 172 (.u (.v 0)) []) (.tupE (.aC (.v 0) (.u (.v 2)))) (.c (.bl true)))))⟩
noncomputable def c_stays:FD:=⟨4,4,(.seq (.w (.cmp .Eq (.v 0) (.c (.tup []))) (.z (.ret (.not (.call 114 (.aC (.v 1) (.u (.v 2))) [])))))
 (.z (.ret (.and (.cmp .In (.v 0) (.v 3)) (.or (.cmp .Eq (.ix (.v 0) (.i 0)) (.v 2)) (.not (.call 114 (.aC (.v 1) (.u (.v 2))) [])))))))⟩
noncomputable def c_Book___init__:FD:=⟨4,4,(.seq (.act (.call 181 (.u (.v 2)) []))
 (.seq (.fset 0 (S "program") (.v 1))
 (.seq (.fset 0 (S "trials") (.v 2))
 (.seq (.fset 0 (S "limit") (.v 3))
 (.seq (.fset 0 (S "kept") .dnew)
 (.z (.fset 0 (S "done") (.i 0))))))))⟩
noncomputable def c_Book_program_of:FD:=⟨2,2,(.seq (.w (.cmp .Eq (.v 1) (.c (.tup []))) (.z (.ret (.fld (S "program") (.v 0)))))
 (.z (.ret (.call 180 (.aC (.fld (S "program") (.v 0)) (.aC (.ix (.v 1) (.i 0)) (.u (.ix (.v 1) (.i 1))))) []))))⟩
noncomputable def c_Book_outcome_of:FD:=⟨3,4,(.seq (.w (.cmp .NotIn (.tupE (.aC (.v 1) (.u (.v 2)))) (.fld (S "kept") (.v 0))) (.seq (.set 3 (.call 12 (.aC (.meth [(263,265)] (.v 0) (.u (.v 1))) (.aC (.v 2) (.u (.fld (S "limit") (.v 0))))) []))
 (.seq (.dput 0 (.fld (S "kept") (.v 0)) (.tupE (.aC (.v 1) (.u (.v 2)))) (.tupE (.aC (.ix (.v 3) (.neg (.i 1))) (.u (.call 44 (.u (.v 3)) [])))))
 (.z (.fset 0 (S "done") (.bin .Add (.fld (S "done") (.v 0)) (.i 1)))))))
 (.z (.ret (.ix (.ix (.fld (S "kept") (.v 0)) (.tupE (.aC (.v 1) (.u (.v 2))))) (.i 0)))))⟩
noncomputable def YY:CE:=(.comp false [1,0] (.fld (S "trials") (.v 0)) (.meth [(263,266)] (.v 2) (.aC (.v 1) (.u (.v 0)))) (.c (.bl true)))
noncomputable def c_Book_outcomes_of:FD:=⟨2,2,(.z (.ret YY))⟩
noncomputable def Xh:CE:=(.comp false [1,0] (.call 262 (.u (.fld (S "program") (.v 0))) []) (.call 183 (.aC (.v 1) (.u (.meth [(263,267)] (.v 2) (.u (.v 0))))) []) (.c (.bl true)))
noncomputable def c_Book_bits:FD:=⟨1,2,(.seq (.set 1 (.meth [(263,267)] (.v 0) (.u (.c (.tup [])))))
 (.z (.ret (.tOf Xh))))⟩
noncomputable def c_Book_runs:FD:=⟨1,1,(.z (.ret (.fld (S "done") (.v 0))))⟩
noncomputable def c_Book_now:FD:=⟨1,1,(.z (.ret (.fld (S "program") (.v 0))))⟩
noncomputable def c_Book_change:FD:=⟨3,7,(.seq (.fset 0 (S "program") (.call 180 (.aC (.fld (S "program") (.v 0)) (.aC (.v 1) (.u (.v 2)))) []))
 (.seq (.set 3 (.call 262 (.u (.fld (S "program") (.v 0))) []))
 (.seq (.set 4 .dnew)
 (.seq (.forI 5 6 (.fld (S "kept") (.v 0)) (.z (.w (.call 273 (.aC (.ix (.v 5) (.i 0)) (.aC (.ix (.v 6) (.i 1)) (.aC (.v 1) (.u (.v 3))))) []) (.z (.put 4 (.v 5) (.v 6))))))
 (.z (.fset 0 (S "kept") (.v 4)))))))⟩
noncomputable def c_Book_add:FD:=⟨2,3,(.seq (.set 2 (.bin .Add (.fld (S "trials") (.v 0)) (.tupE (.u (.v 1)))))
 (.seq (.act (.call 181 (.u (.v 2)) []))
 (.z (.fset 0 (S "trials") (.v 2)))))⟩
noncomputable def c__law_whole:FD:=⟨1,1,(.z (.ret (.and (.isi .int (.v 0)) (.not (.isi .bool (.v 0))))))⟩
noncomputable def c__law_cell_at:FD:=⟨2,2,(.seq (.w (.cmp .Lt (.v 1) (.len (.v 0))) (.z (.ret (.ix (.v 0) (.v 1)))))
 (.z (.ret (.bin .Mod (.bin .Mult (.bin .Add (.bin .Mod (.ix (.bin .Add (.v 0) (.lstE (.u (.i 0)))) (.i 0)) (.i 1000003)) (.i 41)) (.bin .Add (.bin .Mult (.v 1) (.v 1)) (.i 100003))) (.i 2147483647)))))⟩
noncomputable def c__law_number:FD:=⟨1,1,(.seq (.w (.cmp .Eq (.bin .Mod (.v 0) (.i 4)) (.i 0)) (.z (.ret (.bin .Sub (.bin .Mod (.bin .FloorDiv (.v 0) (.i 4)) (.i 2000000000)) (.i 1000000000)))))
 (.seq (.w (.cmp .Eq (.bin .Mod (.v 0) (.i 4)) (.i 1)) (.z (.ret (.ix (.lstE (.aC (.i 999999999) (.aC (.neg (.i 1000000000)) (.aC (.neg (.i 1)) (.aC (.i 0) (.u (.i 1))))))) (.bin .Mod (.bin .FloorDiv (.v 0) (.i 4)) (.i 5))))))
 (.z (.ret (.bin .Sub (.bin .Mod (.bin .FloorDiv (.v 0) (.i 4)) (.i 7)) (.i 3))))))⟩
noncomputable def c__law_operand:FD:=⟨2,2,(.seq (.w (.cmp .Eq (.bin .Mod (.v 0) (.i 3)) (.i 0)) (.z (.ret (.tupE (.aC (.t "number") (.u (.call 185 (.u (.bin .FloorDiv (.v 0) (.i 3))) [])))))))
 (.z (.ret (.tupE (.aC (.t "name") (.u (.bin .Mod (.bin .FloorDiv (.v 0) (.i 3)) (.v 1))))))))⟩
noncomputable def c__law_row:FD:=⟨3,6,(.seq (.set 3 (.bin .FloorDiv (.ix (.v 0) (.i 0)) (.i 8)))
 (.seq (.set 4 (.call 28 (.aC (.ix (.v 0) (.i 1)) (.u (.v 1))) []))
 (.seq (.set 5 (.call 28 (.aC (.ix (.v 0) (.i 2)) (.u (.v 1))) []))
 (.seq (.w (.cmp .Lt (.bin .Mod (.ix (.v 0) (.i 0)) (.i 8)) (.i 3)) (.z (.ret (.tupE (.aC (.t "put") (.aC (.bin .Mod (.v 3) (.v 1)) (.aC (.v 4) (.aC (.ix (.lstE (.aC (.t "+") (.aC (.t "-") (.aC (.t "*") (.aC (.t "/") (.u (.t "mod"))))))) (.bin .Mod (.bin .FloorDiv (.v 3) (.v 1)) (.i 5))) (.u (.v 5))))))))))
 (.seq (.w (.cmp .Lt (.bin .Mod (.ix (.v 0) (.i 0)) (.i 8)) (.i 6)) (.z (.ret (.tupE (.aC (.t "if") (.aC (.v 4) (.aC (.ix (.lstE (.aC (.t "<") (.aC (.t "<=") (.aC (.t "=") (.aC (.t ">=") (.aC (.t ">") (.u (.t "!=")))))))) (.bin .Mod (.v 3) (.i 6))) (.aC (.v 5) (.u (.bin .Mod (.bin .FloorDiv (.v 3) (.i 6)) (.bin .Add (.v 2) (.i 1))))))))))))
 (.seq (.w (.cmp .Eq (.bin .Mod (.ix (.v 0) (.i 0)) (.i 8)) (.i 6)) (.z (.ret (.tupE (.aC (.t "tell") (.u (.v 5)))))))
 (.z (.ret (.ix (.lstE (.aC (.tupE (.u (.t "skip"))) (.u (.tupE (.aC (.t "go") (.u (.bin .Mod (.bin .FloorDiv (.v 3) (.i 2)) (.bin .Add (.v 2) (.i 1))))))))) (.bin .Mod (.v 3) (.i 2)))))))))))⟩
noncomputable def c__law_round:FD:=⟨1,1,(.z (.ret (.bin .Sub (.bin .Mod (.bin .Add (.v 0) (.i 1000000000)) (.i 2000000000)) (.i 1000000000))))⟩
noncomputable def c__law_sum:FD:=⟨3,3,(.seq (.w (.cmp .Eq (.v 1) (.t "+")) (.z (.ret (.call 89 (.u (.bin .Add (.v 0) (.v 2))) []))))
 (.seq (.w (.cmp .Eq (.v 1) (.t "-")) (.z (.ret (.call 89 (.u (.bin .Sub (.v 0) (.v 2))) []))))
 (.seq (.w (.cmp .Eq (.v 1) (.t "*")) (.z (.ret (.call 89 (.u (.bin .Mult (.v 0) (.v 2))) []))))
 (.seq (.w (.cmp .Eq (.v 1) (.t "/")) (.z (.ret (.ife (.cmp .Eq (.v 2) (.i 0)) (.i 0) (.call 89 (.u (.bin .FloorDiv (.v 0) (.v 2))) [])))))
 (.z (.ret (.ife (.cmp .Eq (.v 2) (.i 0)) (.v 0) (.bin .Sub (.v 0) (.bin .Mult (.v 2) (.bin .FloorDiv (.v 0) (.v 2)))))))))))⟩
noncomputable def c__law_so:FD:=⟨3,3,(.seq (.w (.cmp .Lt (.v 0) (.v 2)) (.z (.ret (.cmp .In (.v 1) (.lstE (.aC (.t "<") (.aC (.t "<=") (.u (.t "!=")))))))))
 (.seq (.w (.cmp .Gt (.v 0) (.v 2)) (.z (.ret (.cmp .In (.v 1) (.lstE (.aC (.t ">") (.aC (.t ">=") (.u (.t "!=")))))))))
 (.z (.ret (.cmp .In (.v 1) (.lstE (.aC (.t "<=") (.aC (.t "=") (.u (.t ">="))))))))))⟩
noncomputable def c__law_worth:FD:=⟨2,2,(.seq (.w (.cmp .Eq (.ix (.v 0) (.i 0)) (.t "name")) (.z (.ret (.ix (.v 1) (.ix (.v 0) (.i 1))))))
 (.z (.ret (.ix (.v 0) (.i 1)))))⟩
noncomputable def c__law_run:FD:=⟨4,9,(.seq (.set 4 (.bin .Add (.listOf (.v 2)) (.bin .Mult (.lstE (.u (.i 0))) (.bin .Sub (.v 1) (.len (.v 2))))))
 (.seq (.set 5 (.i 0))
 (.seq (.set 6 (.lstE .aN))
 (.seq (.whl (.and (.cmp .Lt (.len (.v 6)) (.v 3)) (.cmp .Lt (.v 5) (.len (.v 0)))) (.seq (.set 7 (.ix (.v 0) (.v 5)))
 (.seq (.app 6 (.v 5))
 (.seq (.set 5 (.bin .Add (.v 5) (.i 1)))
 (.seq (.w (.cmp .Eq (.ix (.v 7) (.i 0)) (.t "tell")) (.z (.ret (.tupE (.aC (.tupE (.aC (.t "told") (.u (.call 34 (.aC (.ix (.v 7) (.i 1)) (.u (.v 4))) [])))) (.u (.v 6)))))))
 (.seq (.w (.cmp .Eq (.ix (.v 7) (.i 0)) (.t "put")) (.z (.put 4 (.ix (.v 7) (.i 1)) (.call 187 (.aC (.call 34 (.aC (.ix (.v 7) (.i 2)) (.u (.v 4))) []) (.aC (.ix (.v 7) (.i 3)) (.u (.call 34 (.aC (.ix (.v 7) (.i 4)) (.u (.v 4))) [])))) []))))
 (.seq (.w (.cmp .Eq (.ix (.v 7) (.i 0)) (.t "go")) (.z (.set 5 (.ix (.v 7) (.i 1)))))
 (.z (.w (.cmp .Eq (.ix (.v 7) (.i 0)) (.t "if")) (.seq (.set 8 (.call 34 (.aC (.ix (.v 7) (.i 1)) (.u (.v 4))) []))
 (.z (.w (.call 33 (.aC (.v 8) (.aC (.ix (.v 7) (.i 2)) (.u (.call 34 (.aC (.ix (.v 7) (.i 3)) (.u (.v 4))) [])))) []) (.z (.set 5 (.ix (.v 7) (.i 4))))))))))))))))
 (.seq (.w (.cmp .Eq (.v 5) (.len (.v 0))) (.z (.ret (.tupE (.aC (.tupE (.u (.t "none"))) (.u (.v 6)))))))
 (.z (.ret (.tupE (.aC (.tupE (.u (.t "late"))) (.u (.v 6)))))))))))⟩
noncomputable def Ya:CE:=(.comp false [] (.v 0) (.v 0) (.not (.call 17 (.u (.v 0)) [])))
noncomputable def c__law_alike:FD:=⟨2,2,(.seq (.w (.or (.not (.isi .tuple (.v 0))) (.cmp .NotEq Ya (.lstE .aN))) (.z (.ret (.c (.bl false)))))
 (.z (.ret (.cmp .Eq (.listOf (.v 0)) (.v 1)))))⟩
noncomputable def XL:CE:=(.comp true [6,0] (.i 3) (.call 27 (.aC (.v 2) (.u (.bin .Add (.bin .Add (.i 3) (.bin .Mult (.i 3) (.v 1))) (.v 0)))) []) (.c (.bl true)))
noncomputable def Yd:CS:=(.z (.app 5 (.call 29 (.aC XL (.aC (.v 3) (.u (.v 4)))) [])))
noncomputable def c__law_program:FD:=⟨1,7,(.seq (.set 1 (.call 27 (.aC (.v 0) (.u (.i 0))) []))
 (.seq (.set 2 (.bin .Mod (.v 1) (.i 3)))
 (.seq (.set 3 (.bin .Add (.max (.i 1) (.v 2)) (.bin .Mod (.bin .FloorDiv (.v 1) (.i 3)) (.bin .Sub (.i 6) (.max (.i 1) (.v 2))))))
 (.seq (.set 4 (.bin .Add (.bin .Mod (.call 27 (.aC (.v 0) (.u (.i 1))) []) (.i 3)) (.i 1)))
 (.seq (.set 5 (.lstE .aN))
 (.seq (.for1 6 true (.v 4) Yd)
 (.z (.ret (.tupE (.aC (.bin .Mult (.tupE (.u (.tupE (.aC (.neg (.i 9)) (.u (.i 9)))))) (.v 2)) (.aC (.v 3) (.u (.tOf (.v 5))))))))))))))⟩
noncomputable def c__law_codes:FD:=⟨1,1,(.z (.ret (.comp3 [] (.call 172 (.u (.v 0)) []) (.tupE (.aC (.v 0) (.u (.v 2)))) (.c (.bl true)))))⟩
noncomputable def c__law_put:FD:=⟨3,3,(.z (.ret (.tupE (.aC (.ix (.v 0) (.i 0)) (.aC (.ix (.v 0) (.i 1)) (.u (.bin .Add (.bin .Add (.slice (.ix (.v 0) (.i 2)) .nop (.part (.v 1))) (.tupE (.u (.v 2)))) (.slice (.ix (.v 0) (.i 2)) (.part (.bin .Add (.v 1) (.i 1))) .nop))))))))⟩
noncomputable def c__law_outcome:FD:=⟨5,7,(.seq (.set 5 (.ix (.v 0) (.i 2)))
 (.seq (.w (.cmp .IsNot (.v 1) (.c .non)) (.z (.set 5 (.bin .Add (.bin .Add (.slice (.v 5) .nop (.part (.ix (.v 1) (.i 0)))) (.tupE (.u (.ix (.v 1) (.i 1))))) (.slice (.v 5) (.part (.bin .Add (.ix (.v 1) (.i 0)) (.i 1))) .nop)))))
 (.seq (.set 6 (.call 40 (.aC (.v 5) (.aC (.ix (.v 0) (.i 1)) (.aC (.v 2) (.u (.v 3))))) []))
 (.seq (.act (.dget (.v 4) (.tupE (.aC (.v 1) (.u (.v 2)))) (.ix (.v 6) (.i 1))))
 (.z (.ret (.ix (.v 6) (.i 0))))))))⟩
noncomputable def Xx:CE:=(.comp false [2,0,3] (.v 1) (.call 188 (.aC (.v 2) (.aC (.c .non) (.aC (.v 0) (.aC (.v 1) (.u (.v 3)))))) []) (.c (.bl true)))
noncomputable def Z9:CS:=(.z (.w (.cmp .NotEq (.call 188 (.aC (.v 0) (.aC (.v 6) (.aC (.ix (.v 1) (.v 8)) (.aC (.v 2) (.u (.v 3)))))) []) (.ix (.v 4) (.v 8))) (.z (.set 7 (.bin .Add (.v 7) (.bin .LShift (.i 1) (.v 8)))))))
noncomputable def ZX:CS:=(.seq (.set 7 (.i 0))
 (.seq (.for1 8 true (.len (.v 1)) Z9)
 (.z (.app 5 (.v 7)))))
noncomputable def c__law_due:FD:=⟨4,9,(.seq (.set 4 Xx)
 (.seq (.set 5 (.lstE .aN))
 (.seq (.for1 6 false (.call 278 (.u (.v 0)) []) ZX)
 (.z (.ret (.v 5))))))⟩
noncomputable def c__law_asked:FD:=⟨6,9,(.seq (.set 6 (.len (.v 4)))
 (.seq (.set 7 (.call 38 (.aC (.v 1) (.aC (.v 2) (.aC (.v 3) (.u (.v 4))))) []))
 (.seq (.put 5 (.i 0) (.bin .Sub (.bin .Add (.ix (.v 5) (.i 0)) (.len (.v 4))) (.v 6)))
 (.seq (.set 8 (.meth [(263,268)] (.v 0) .aN))
 (.seq (.w (.or (.not (.call 36 (.aC (.v 8) (.u (.v 7))) [])) (.or (.not (.call 17 (.u (.meth [(263,269)] (.v 0) .aN)) [])) (.cmp .NotEq (.meth [(263,269)] (.v 0) .aN) (.ix (.v 5) (.i 0))))) (.z (.ret (.c .non))))
 (.z (.ret (.v 8))))))))⟩
noncomputable def Zt:CS:=(.seq (.set 7 (.cmp .NotIn (.v 1) (.ix (.v 2) (.tupE (.aC (.v 5) (.u (.v 6)))))))
 (.seq (.w (.and (.cmp .IsNot (.v 5) (.c .non)) (.cmp .Eq (.ix (.v 5) (.i 0)) (.v 1))) (.z (.set 7 (.c (.bl true)))))
 (.seq (.w (.and (.cmp .IsNot (.v 5) (.c .non)) (.cmp .NotIn (.v 5) (.v 3))) (.z (.set 7 (.c (.bl false)))))
 (.z (.w (.v 7) (.z (.put 4 (.tupE (.aC (.v 5) (.u (.v 6)))) (.ix (.v 2) (.tupE (.aC (.v 5) (.u (.v 6))))))))))))
noncomputable def c__law_given_up:FD:=⟨3,8,(.seq (.set 3 (.call 278 (.u (.v 0)) []))
 (.seq (.set 4 .dnew)
 (.seq (.for2 5 6 (.srt (.v 2)) Zt)
 (.z (.ret (.v 4))))))⟩
noncomputable def c__law_other_row:FD:=⟨4,5,(.seq (.set 4 (.compT [3] (.call 278 (.u (.v 1)) []) (.v 1) (.cmp .Eq (.v 0) (.v 2))))
 (.seq (.w (.and (.cmp .Eq (.bin .Mod (.bin .FloorDiv (.ix (.v 0) (.i 0)) (.i 12)) (.i 5)) (.i 0)) (.cmp .NotEq (.v 4) (.lstE .aN))) (.z (.ret (.ix (.v 4) (.bin .Mod (.bin .FloorDiv (.ix (.v 0) (.i 0)) (.i 60)) (.len (.v 4)))))))
 (.seq (.w (.cmp .Eq (.bin .Mod (.bin .FloorDiv (.ix (.v 0) (.i 0)) (.i 12)) (.i 5)) (.i 1)) (.z (.ret (.ix (.ix (.v 1) (.i 2)) (.v 3)))))
 (.seq (.w (.cmp .Eq (.bin .Mod (.bin .FloorDiv (.ix (.v 0) (.i 0)) (.i 12)) (.i 5)) (.i 2)) (.z (.ret (.ix (.ix (.v 2) (.i 2)) (.v 3)))))
 (.z (.ret (.call 29 (.aC (.slice (.v 0) (.part (.i 1)) .nop) (.aC (.ix (.v 1) (.i 1)) (.u (.len (.ix (.v 1) (.i 2)))))) [])))))))⟩
noncomputable def X2:CE:=(.comp true [0] (.v 2) (.call 185 (.u (.ix (.v 1) (.bin .Add (.i 2) (.v 0)))) []) (.c (.bl true)))
noncomputable def c__law_inputs:FD:=⟨3,3,(.seq (.w (.and (.cmp .Eq (.bin .Mod (.bin .FloorDiv (.ix (.v 0) (.i 0)) (.i 4)) (.i 3)) (.i 0)) (.cmp .NotEq (.v 1) (.lstE .aN))) (.z (.ret (.ix (.v 1) (.bin .Mod (.ix (.v 0) (.i 1)) (.len (.v 1)))))))
 (.z (.ret (.tOf X2))))⟩
noncomputable def c__law_looked:FD:=⟨4,4,(.seq (.w (.and (.cmp .Eq (.bin .Mod (.v 3) (.i 2)) (.i 0)) (.cmp .NotEq (.meth [(263,270)] (.v 0) .aN) (.v 1))) (.z (.ret (.c (.bl false)))))
 (.z (.ret (.and (.cmp .Eq (.meth [(263,269)] (.v 0) .aN) (.ix (.v 2) (.i 0))) (.cmp .Eq (.meth [(263,270)] (.v 0) .aN) (.v 1))))))⟩
noncomputable def VM:CE:=(.comp true [4,0] (.len (.ix (.v 2) (.i 0))) (.call 185 (.u (.call 27 (.aC (.v 2) (.u (.bin .Add (.bin .Add (.i 12) (.bin .Mult (.i 2) (.v 1))) (.v 0)))) [])) []) (.c (.bl true)))
noncomputable def XV:CE:=(.comp true [0,10] (.i 4) (.call 27 (.aC (.v 1) (.u (.bin .Add (.v 2) (.v 0)))) []) (.c (.bl true)))
noncomputable def Zu:CS:=(.seq (.set 11 XV)
 (.seq (.ite (.cmp .Eq (.bin .Mod (.ix (.v 11) (.i 0)) (.i 4)) (.i 0)) (.seq (.set 12 (.call 276 (.aC (.v 6) (.aC (.v 1) (.aC (.v 3) (.aC (.v 5) (.aC (.v 7) (.u (.v 8))))))) []))
 (.seq (.w (.cmp .Is (.v 12) (.c .non)) (.z (.ret (.c (.bl false)))))
 (.z (.app 9 (.tupE (.aC (.v 12) (.u (.listOf (.v 12))))))))) (.z (.ite (.and (.cmp .Eq (.bin .Mod (.ix (.v 11) (.i 0)) (.i 4)) (.i 1)) (.cmp .Lt (.len (.v 3)) (.i 4))) (.seq (.app 3 (.call 101 (.aC (.v 11) (.aC (.v 3) (.u (.len (.ix (.v 2) (.i 0)))))) []))
 (.z (.act (.meth [(263,272)] (.v 6) (.u (.ix (.v 3) (.neg (.i 1)))))))) (.seq (.set 13 (.bin .Mod (.bin .Mod (.bin .FloorDiv (.ix (.v 11) (.i 0)) (.i 4)) (.i 3)) (.len (.ix (.v 2) (.i 2)))))
 (.seq (.set 14 (.call 275 (.aC (.v 11) (.aC (.v 1) (.aC (.v 2) (.u (.v 13))))) []))
 (.seq (.set 1 (.call 92 (.aC (.v 1) (.aC (.v 13) (.u (.v 14)))) []))
 (.seq (.set 7 (.call 279 (.aC (.v 1) (.aC (.v 13) (.u (.v 7)))) []))
 (.z (.act (.meth [(263,271)] (.v 6) (.aC (.v 13) (.u (.v 14)))))))))))))
 (.z (.w (.not (.call 280 (.aC (.v 6) (.aC (.v 1) (.aC (.v 8) (.u (.ix (.v 11) (.i 1)))))) [])) (.z (.ret (.c (.bl false))))))))
noncomputable def XS:CS:=(.z (.app 3 (.tOf VM)))
noncomputable def c_law_k83:FD:=⟨1,15,(.seq (.set 1 (.call 30 (.u (.v 0)) []))
 (.seq (.set 2 (.v 1))
 (.seq (.set 3 (.lstE .aN))
 (.seq (.for1 4 true (.bin .Mod (.bin .FloorDiv (.call 27 (.aC (.v 0) (.u (.i 1))) []) (.i 3)) (.i 3)) XS)
 (.seq (.set 5 (.bin .Mod (.call 27 (.aC (.v 0) (.u (.i 2))) []) (.i 7)))
 (.seq (.set 6 (.mk 263 264 (.aC (.v 1) (.aC (.tOf (.v 3)) (.u (.v 5)))) []))
 (.seq (.set 7 .dnew)
 (.seq (.set 8 (.lstE (.u (.i 0))))
 (.seq (.set 9 (.lstE .aN))
 (.seq (.for3 10 (.aC (.i 16) (.aC (.min (.len (.v 0)) (.i 64)) (.u (.i 4)))) Zu)
 (.seq (.set 12 (.call 276 (.aC (.v 6) (.aC (.v 1) (.aC (.v 3) (.aC (.v 5) (.aC (.v 7) (.u (.v 8))))))) []))
 (.seq (.w (.or (.cmp .Is (.v 12) (.c .non)) (.cmp .NotEq (.meth [(263,268)] (.mk 263 264 (.aC (.v 1) (.aC (.tOf (.v 3)) (.u (.v 5)))) []) .aN) (.v 12))) (.z (.ret (.c (.bl false)))))
 (.z (.ret (.cmp .Eq (.compT [] (.v 9) (.i 1) (.cmp .NotEq (.listOf (.v 0)) (.v 1))) (.lstE .aN))))))))))))))))⟩
end Dp
noncomputable section
namespace Dp
open PySem
noncomputable def T:Nat->Ot FD
 |42=>some c_replaced
 |113=>some c_operand_places
 |43=>some c_bit_of
 |114=>some c_has_bit
 |0=>some c_around
 |1=>some c_divided
 |2=>some c_left_over
 |3=>some c_reckon
 |4=>some c_is_so
 |70=>some c_behind
 |147=>some c_Step_word
 |148=>some c_Step_turned
 |170=>some c_Sign_word
 |171=>some c_Sign_turned
 |150=>some c_More_word
 |151=>some c_More_turned
 |158=>some c_Turn_word
 |159=>some c_Turn_turned
 |153=>some c_Out_word
 |154=>some c_Out_turned
 |161=>some c_Swap_word
 |162=>some c_Swap_turned
 |164=>some c_Far_word
 |165=>some c_Far_turned
 |172=>some c_fakes
 |180=>some c_fake_of
 |5=>some c_worth
 |6=>some c_began
 |7=>some c_at_end
 |8=>some c_values_behind
 |9=>some c_place_behind
 |10=>some c_moved
 |11=>some c_is_outcome
 |12=>some c_trail
 |14=>some c_places_done
 |44=>some c_seen_in
 |181=>some c_check_trials
 |183=>some c_bits_unlike
 |262=>some c_codes_of
 |273=>some c_stays
 |264=>some c_Book___init__
 |265=>some c_Book_program_of
 |266=>some c_Book_outcome_of
 |267=>some c_Book_outcomes_of
 |268=>some c_Book_bits
 |269=>some c_Book_runs
 |270=>some c_Book_now
 |271=>some c_Book_change
 |272=>some c_Book_add
 |17=>some c__law_whole
 |27=>some c__law_cell_at
 |185=>some c__law_number
 |28=>some c__law_operand
 |29=>some c__law_row
 |89=>some c__law_round
 |187=>some c__law_sum
 |33=>some c__law_so
 |34=>some c__law_worth
 |40=>some c__law_run
 |36=>some c__law_alike
 |30=>some c__law_program
 |278=>some c__law_codes
 |92=>some c__law_put
 |188=>some c__law_outcome
 |38=>some c__law_due
 |276=>some c__law_asked
 |279=>some c__law_given_up
 |275=>some c__law_other_row
 |101=>some c__law_inputs
 |280=>some c__law_looked
 |16=>some c_law_k83
 |_=>none
noncomputable abbrev rT:=run T
structure Grw(s s':Za):Prop where
 old:∀ i,i < s.length->s'[i]?=s[i]?
 len:s.length<=s'.length
variable{α:Type}{U':Env}{fr:Li Nat}{it elt:CE}{lo hi:Ot Int}
variable{F:Nat->Fn}{s st:Za}{e a b c:CE}{U:Env}{d x y:D}{q:CS}{n i j w:Nat}{xs ds:Li D}
section
variable{s' s1 s2:Za}{z:D}{p:CS}{f:Nat}{k m:Bool}{t:ZI}
theorem Zd{l:Li α}{x:α}(h:l[i]?=some x):i < l.length:=(bF.mp h).1
theorem Grw.refl:Grw s s:=⟨λ_ _=>rfl,aF _⟩
theorem Grw.trans(a:Grw s s1)(b:Grw s1 s2):Grw s s2:=⟨λi h=>(b.old i (aT h a.len)).trans (a.old i h),aK a.len b.len⟩
theorem Grw.get(g:Grw s s')(h:s[i]?=some t):s'[i]?=some t:=(g.old i (Zd h)).trans h
theorem Grw.push:Grw s (s++[t]):=⟨λi h=>bT h,by rw[aI];omega⟩
theorem Grw.nil:Grw [] s:=⟨λ_ h=>absurd h (Nat.not_lt_zero _),aV _⟩
def Gv(s:Za)(f:Za->Res)(d:D):Prop:=∀ st,Grw s st->∃ st',f st=some (d,st')/\Grw st st'
def Y(F:Nat->Fn)(s:Za)(e:CE)(U:Env)(d:D):Prop:=Gv s (ev F e U) d
def C(F:Nat->Fn)(s:Za)(f:Nat)(ds:Li D)(d:D):Prop:=Gv s (F f ds) d
def R(F:Nat->Fn)(s:Za)(q:CS)(U:Env)(d:D):Prop:=∀ st,Grw s st->∃ st',ex F q U st=some (.rt d,st')/\Grw st st'
theorem rf{f:Za->Res}(x:Za):f x=f x:=rfl
theorem Y.r(h:∀ st,ev F e U st=some (d,st)):Y F s e U d:=λst _=>⟨st,h st,.refl⟩
theorem Y.at(h:∀ st,Grw s st->ev F e U st=some (d,st)):Y F s e U d:=λst g=>⟨st,h st g,.refl⟩
theorem Gv.mono{f:Za->Res}(h:Gv s f d)(g:Grw s s'):Gv s' f d:=λst k=>h st (g.trans k)
theorem C.up(h:C F [] f ds d):C F s f ds d:=Gv.mono h .nil
theorem g1{g:D->Za->Res}(e:Y F s a U x)(h:Gv s (g x) d):Gv s (Zq (ev F a) g U) d:=λst k=>by
 obtain⟨s1,i,b⟩:=e st k;obtain⟨s2,f,c⟩:=h s1 (k.trans b);exact⟨s2,by unfold Zq;rw[i];exact f,b.trans c⟩
theorem g2{g:D->D->Za->Res}(l:Y F s a U x)(j:Y F s b U y)(h:Gv s (g x y) d):Gv s (Zw (ev F a) (ev F b) g U) d:=λst k=>by
 obtain⟨s1,o,c⟩:=l st k;obtain⟨s2,n,e⟩:=j s1 (k.trans c);obtain⟨f,m,i⟩:=h s2 (k.trans (c.trans e));exact⟨f,by unfold Zw;rw[o];simp only[n];exact m,c.trans (e.trans i)⟩
theorem gp{f:Za->Res}(h:∀ st,f st=some (d,st)):Gv s f d:=λst _=>⟨st,h st,.refl⟩
theorem gs{f:Za->Res}(h:∀ st,Grw s st->f st=some (d,st)):Gv s f d:=λst k=>⟨st,h st k,.refl⟩
theorem Y.cmp{op:CmpOp}(d:Y F s a U x)(c:Y F s b U y)(h:∀ st,Xf op x y st=some k):Y F s (.cmp op a b) U (.bl k):=g2 d c (gp λst=>by unfold Z3;rw[h])
theorem gc{e b c:Ev}(i:Gv s (e U) (.bl k))(h:Gv s ((if k then b else c) U) d):Gv s (YB e b c U) d:=λst g=>by
 obtain⟨s1,l,a⟩:=i st g;obtain⟨s2,j,f⟩:=h s1 (g.trans a);exact⟨s2,by unfold YB;rw[l];cases k<;>exact j,a.trans f⟩
theorem Y.and(c:Y F s a U (.bl k))(d:k=true->Y F s b U (.bl m)):Y F s (.and a b) U (.bl (k&&m)):=by
 cases k
 .exact gc c (gp λ_=>rfl)
 .exact gc c (d rfl)
theorem Y.or(c:Y F s a U (.bl k))(d:k=false->Y F s b U (.bl m)):Y F s (.or a b) U (.bl (k||m)):=by
 cases k
 .exact gc c (d rfl)
 .exact gc c (gp λ_=>rfl)
theorem Y.not(b:Y F s a U (.bl k)):Y F s (.not a) U (.bl (!k)):=g1 b (gp λ_=>rfl)
theorem Y.ife(e:Y F s c U (.bl k))(h:Y F s (if k then a else b) U d):Y F s (.ife c a b) U d:=by
 cases k<;>exact gc e h
theorem Y.call(b:Y F s a U (.tup xs))(h:C F s f (xs++ds) d):Y F s (.call f a ds) U d:=g1 b h
theorem Y.cons(d:Y F s a U x)(c:Y F s b U (.tup xs))(hl:xs.length < 1000:=by first|decide | (simp only[aP,dI];decide)):Y F s (.aC a b) U (.tup (x :: xs)):=g2 d c (gp λst=>if_pos hl)
theorem Y.nil:Y F s .aN U (.tup []):=.r rf
theorem Y.call1(b:Y F s a U x)(h:C F s f [x] d):Y F s (.call f (.u a) []) U d:=.call (.cons b .nil) h
theorem R.ret(h:Y F s e U d):R F s (.seq (.ret e) q) U d:=λst g=>by
 obtain⟨s1,b,a⟩:=h st g;exact⟨s1,by show YG (U3 (ev F e)) (ex F q) U st=_;unfold YG U3;rw[b],a⟩
theorem R.set(h:Y F s e U x)(c:R F s q (Zh U i x) d):R F s (.seq (.set i e) q) U d:=λst g=>by
 obtain⟨s1,j,a⟩:=h st g;obtain⟨s2,f,b⟩:=c s1 (g.trans a);exact⟨s2,by show YG (Vp i (ev F e)) (ex F q) U st=_;unfold YG Vp;rw[j];exact f,a.trans b⟩
theorem R.no(h:Y F s e U (.bl false))(c:R F s q U d):R F s (.seq (.ite e p .skip) q) U d:=λst g=>by
 obtain⟨s1,i,a⟩:=h st g;obtain⟨s2,f,b⟩:=c s1 (g.trans a);exact⟨s2,by show YG (Yp (ev F e) (ex F p) (ex F .skip)) (ex F q) U st=_;unfold YG Yp;rw[i];exact f,a.trans b⟩
theorem R.yB(h:Y F s e U (.bl true))(c:R F s p U d):R F s (.seq (.ite e p .skip) q) U d:=λst g=>by
 obtain⟨s1,i,a⟩:=h st g;obtain⟨s2,f,b⟩:=c s1 (g.trans a);exact⟨s2,by show YG (Yp (ev F e) (ex F p) (ex F .skip)) (ex F q) U st=_;unfold YG Yp;rw[i];simp only[f],a.trans b⟩
theorem R.yes(h:Y F s e U (.bl true))(b:Y F s a U d):R F s (.seq (.ite e (.z (.ret a)) .skip) q) U d:=.yB h (.ret b)
theorem ZgO{v:FD}(h:T f=some v)(hl:ds.length=v.ps):rT (n+1) f ds st=match ex (rT n) v.body (ds.map some++List.replicate (v.ns - ds.length) none) st with
  |some (.rt d,st')=>some (d,st')
  |some (.nx _,st')=>some (.non,st')
  |_=>none:=by
 show(match T f with|some f=>fnD (rT n) f|none=>λ_ _=>none) ds st=_
 rw[h];exact if_pos hl
theorem Z6{v:FD}(h:T f=some v)(hl:ds.length=v.ps)(a:ex (rT n) v.body (ds.map some++List.replicate (v.ns - ds.length) none) st=some (.rt d,s')):rT (n+1) f ds st=some (d,s'):=by rw[ZgO h hl,a]
theorem ZcS{v:FD}(h:T f=some v)(hl:ds.length=v.ps)(a:ex (rT n) v.body (ds.map some++List.replicate (v.ns - ds.length) none) st=some (.nx U',s')):rT (n+1) f ds st=some (.non,s'):=by rw[ZgO h hl,a]
theorem C.of{v:FD}(h:T f=some v)(hl:ds.length=v.ps)(b:R (rT n) s v.body (ds.map some++List.replicate (v.ns - ds.length) none) d):C (rT (n+1)) s f ds d:=λst g=>by
 obtain⟨s1,c,a⟩:=b st g;exact⟨s1,Z6 h hl c,a⟩
theorem Zb(h:ex F p U st=some (.nx U',s')):ex F (.seq p q) U st=ex F q U' s':=by
 show YG (ex F p) (ex F q) U st=_;unfold YG;rw[h]
theorem Zm(h:ex F p U st=some (.rt d,s')):ex F (.seq p q) U st=some (.rt d,s'):=by
 show YG (ex F p) (ex F q) U st=_;unfold YG;rw[h]
theorem X6{α:Type}{f g:α->D}{ok:Za->Prop}{fe fc:D->Za->Res}(e:∀ d st,fc d st=some (.bl true,st))(b:∀ st,Grw s st->ok st):∀ {l:Li α},(∀ a∈l,Gv s (fe (f a)) (g a))->∀ st,Grw s st->∃ st',ZF ok fe fc (l.map f) st=some (l.map g,st')/\Grw st st'
 |[],_,st,k=>⟨st,if_pos (b st k),.refl⟩
 |x :: xs,h,st,k=>by
  obtain⟨s1,n,c⟩:=h x lQ7 st k;obtain⟨s2,m,i⟩:=X6 e b (λd j=>h d (lM7 _ j)) s1 (k.trans c)
  refine⟨s2,?_,c.trans i⟩;rw[aJ,ZF,if_pos (b st k),e];simp only[n,m,aJ]
def Lv(s:Za)(f:Za->Res)(xs:Li D):Prop:=∀ st,Grw s st->∃ st' j b,f st=some (.lst j,st')/\st'[j]?=some (b,xs)/\Grw st st'
theorem Zl:(s++[t])[s.length]?=some t:=by rw[cI (aF _),Nat.sub_self];rfl
def Wk(F:Nat->Fn)(s:Za)(it:CE)(U:Env)(b:D->Za->Ot (Li D×(Za->Prop)))(xs:Li D):Prop:=∀ st,Grw s st->∃ x a ok,ev F it U st=some (x,a)/\Grw st a/\b x a=some (xs,ok)/\∀ st',Grw a st'->ok st'
theorem Wk.of{a:D->Za->Ot (Li D×(Za->Prop))}(hi:Y F s e U x)(h:∀ st,a x st=some (xs,λ_=>True)):Wk F s e U a xs:=λst k=>by
 obtain⟨s1,c,b⟩:=hi st k;exact⟨x,s1,_,c,b,h s1,λ_ _=>trivial⟩
theorem ZaW{b:D->Li (Ot D)}{wk:D->Za->Ot (Li D×(Za->Prop))}{en g:α->D}{l:Li α}(hi:Wk F s it U wk (l.map en))(hl:l.length<=1000)(h:∀ a∈l,Y F s elt (ZJ b U fr (en a)) (g a)):Lv s (ZT b wk fr (ev F it) (ev F elt) (ev F (.c (.bl true))) U) (l.map g):=λst k=>by
 obtain⟨x,s1,ok,o,e,n,i⟩:=hi st k;obtain⟨s2,m,f⟩:=X6 (s:=s1) (ok:=ok) (fe:=λd=>ev F elt (ZJ b U fr d)) (fc:=λd=>ev F (.c (.bl true)) (ZJ b U fr d)) (λ_ _=>rfl) i (λa j=>Gv.mono (h a j) (k.trans e)) s1 .refl
 refine⟨s2++[(true,l.map g)],_,_,?_,Zl,(e.trans f).trans .push⟩;unfold ZT;simp only[o,n,aD,if_pos hl,m]
theorem UG(h:xs[j]?=some d):atD xs (j:Int)=some d:=by
 have:=Zd h;unfold atD ixN;rw[if_pos (by omega),if_pos (by omega),oB7,aZ,h]
theorem Y.ixl(c:s[w]?=some t)(f:Y F s a U (.lst w))(e:Y F s b U (.int (j:Int)))(h:t.2[j]?=some d):Y F s (.ix a b) U d:=g2 f e (gs λst k=>by
 show ixR (.lst w) (.int (j:Int)) st=_;unfold ixR ixD;simp only[k.get c,UG h])
theorem Y.ixt(e:Y F s a U (.tup xs))(c:Y F s b U (.int (j:Int)))(h:xs[j]?=some d):Y F s (.ix a b) U d:=g2 e c (gp λst=>by
 show ixR (.tup xs) (.int (j:Int)) st=_;unfold ixR ixD;simp only[UG h])
theorem Y.lenl(b:s[w]?=some t)(c:Y F s a U (.lst w)):Y F s (.len a) U (.int (t.2.length:Int)):=g1 c (gs λst k=>by
 show V6 (.lst w) st=_;unfold V6 ZcC;simp only[k.get b])
theorem Lv.sl(i:s[w]?=some t)(m:Y F s a U (.lst w))(l:Y F s b U x)(j:Y F s c U y)(h:∀ st,YS (.lst w) x y st=Yf (.lst w) lo hi st):Lv s (ev F (.slice a b c) U) (Xw t.2 lo hi):=λst k=>by
 obtain⟨s1,p,d⟩:=m st k;obtain⟨s2,o,e⟩:=l s1 (k.trans d);obtain⟨g,n,f⟩:=j s2 (k.trans (d.trans e));refine⟨g++[(true,Xw t.2 lo hi)],_,_,?_,Zl,(d.trans (e.trans f)).trans .push⟩;show WD (ev F a) (ev F b) (ev F c) YS U st=_;unfold WD;simp only[p,o,n,h];unfold Yf;simp only[(k.trans (d.trans (e.trans f))).get i]
theorem Lv.mk(h:Y F s e U (.tup xs)):Lv s (ev F (.lstE e) U) xs:=λst k=>by
 obtain⟨s1,b,a⟩:=h st k;exact⟨_,_,_,by show Zq (ev F e) Za1 U st=_;unfold Zq;rw[b];rfl,Zl,a.trans .push⟩
theorem Yo{c:ZI}(h:ev F e U st=some (.lst j,s'))(a:s'[j]?=some c):ev F (.tOf e) U st=some (.tup c.2,s'):=by
 show Zq (ev F e) Vx U st=_;unfold Zq;rw[h];show(match s'[j]? with
  |some (_,xs)=>some (D.tup xs,s')
  |none=>none)=_
 rw[a]
theorem ZC(h:ev F e U st=some (d,s')):ex F (.ret e) U st=some (.rt d,s'):=by
 show U3 (ev F e) U st=_;unfold U3;rw[h]
theorem Zi(h:ev F e U st=some (v,st')):ex F (.set i e) U st=some (.nx (Zh U i v),st'):=by
 show Vp i (ev F e) U st=_;unfold Vp;rw[h]
theorem ZN(h:ev F e U st=some (.bl false,st')):ex F (.ite e p q) U st=ex F q U st':=by
 show Yp (ev F e) (ex F p) (ex F q) U st=_;unfold Yp;rw[h]
theorem Z5(h:ev F e U st=some (.bl true,st')):ex F (.ite e p q) U st=ex F p U st':=by
 show Yp (ev F e) (ex F p) (ex F q) U st=_;unfold Yp;rw[h]
theorem Ze:ex F .skip U st=some (.nx U,st):=rfl
theorem Uw(h:ev F e U st=some (d,s')):ex F (.act e) U st=some (.nx U,s'):=by
 show JM (ev F e) U st=_;unfold JM;rw[h]
end
variable{st' st1:Za}{U':Env}{ys:Li D}
section
variable{U'':Env}{p:CS}{k:Bool}
structure Kj(j:Nat)(st st':Za):Prop where
 old:∀ i,i < st.length->i≠j->st'[i]?=st[i]?
 len:st.length<=st'.length
theorem Grw.kj(g:Grw st st'):Kj j st st':=⟨λi h _=>g.old i h,g.len⟩
theorem Kj.trans(a:Kj j st st1)(b:Kj j st1 st'):Kj j st st':=⟨λi h c=>(b.old i (aT h a.len) c).trans (a.old i h c),aK a.len b.len⟩
theorem Kj.grw(k:Kj j st st')(a:s.length<=j)(g:Grw s st):Grw s st':=⟨λi h=>(k.old i (aT h g.len) (by omega)).trans (g.old i h),aK g.len k.len⟩
theorem Zk{c:ZI}(h:i < st.length):(st.set i c)[j]?=if i=j then some c else st[j]?:=by
 rw[List.getElem?_set];split
 .rename_i e;subst e
  first|rfl|rw[if_pos h]
 .rfl
def Ap(F:Nat->Fn)(s:Za)(j:Nat)(q:CS)(U U':Env)(xs:Li D):Prop:=∀ st a,Grw s st->st[j]?=some (true,a)->a.length+xs.length<=900->∃ st',ex F q U st=some (.nx U',st')/\Kj j st st'/\st'[j]?=some (true,a++xs)
theorem Ap.skip:Ap F s j .skip U U []:=λst a g h _=>⟨st,rfl,Grw.refl.kj,by rw[bB];exact h⟩
theorem Ap.seq(i:s.length<=j)(l:Ap F s j q U U' xs)(k:Ap F s j p U' U'' ys):Ap F s j (.seq q p) U U'' (xs++ys):=λst a g h f=>by
 rw[aI]at f;obtain⟨c,n,g1,e⟩:=l st a g h (by omega)
 obtain⟨b,m,g2,d⟩:=k c _ (g1.grw i g) e (by rw[aI];omega)
 exact⟨b,by show YG (ex F q) (ex F p) U st=_;unfold YG;rw[n];exact m,g1.trans g2,by rw[<-bG];exact d⟩
theorem Ap.one(h:Ap F s j q U U' xs):Ap F s j (.z q) U U' xs:=λst a g e d=>by
 obtain⟨b,f,g1,c⟩:=h st a g e d;exact⟨b,by show YG (ex F q) (ex F .skip) U st=_;unfold YG;rw[f];rfl,g1,c⟩
theorem Ap.app(hi:U[i]?=some (jL j))(h:Y F s e U d):Ap F s j (.app i e) U U [d]:=λst a g o f=>by
 obtain⟨k,p,b⟩:=h st g;have c:=b.get o;have f:a.length+1<=900:=f;refine⟨k.set j (true,a++[d]),?_,⟨λm n l=>?_,by rw[bC];exact b.len⟩,by rw[Zk (Zd c),if_pos rfl]⟩
 .show UE i (ev F e) U st=_
  unfold UE QY;simp only[hi,p,c];rw[if_pos (by unfold Zn;omega)]
 .rw[Zk (Zd c),if_neg (Ne.symm l)]
  exact b.old m n
theorem Ap.ite(h:Y F s e U (.bl k))(i:Ap F s j (if k then q else p) U U' xs):Ap F s j (.ite e q p) U U' xs:=λst b g m l=>by
 obtain⟨d,o,a⟩:=h st g;obtain⟨c,n,g2,f⟩:=i d b (g.trans a) (a.get m) l;exact⟨c,by show Yp (ev F e) (ex F q) (ex F p) U st=_;unfold Yp;rw[o];cases k<;>exact n,a.kj.trans g2,f⟩
theorem Ap.set(h:Y F s e U d):Ap F s j (.set i e) U (Zh U i d) []:=λst k g c l=>by
 obtain⟨b,f,a⟩:=h st g;exact⟨b,by show Vp i (ev F e) U st=_;unfold Vp;rw[f],a.kj,by rw[bB];exact a.get c⟩
end
variable{st2:Za}
variable{Q:D->Za->Prop}
section
variable{m:Bool}{c:Nat}{tx:Str}{q':CS}
theorem Lv.v(c:s[j]?=some (m,xs))(h:Y F s e U (.lst j)):Lv s (ev F e U) xs:=λst g=>by
 obtain⟨b,d,a⟩:=h st g;exact⟨b,j,m,d,(g.trans a).get c,a⟩
theorem Lv.mono{f:Za->Res}(h:Lv s f xs)(g:Grw s st):Lv st f xs:=λst1 k=>h st1 (g.trans k)
theorem Lv.cat(k:Lv s (ev F a U) xs)(j:Lv s (ev F b U) ys)(hl:xs.length+ys.length<=Zn):Lv s (ev F (.bin .Add a b) U) (xs++ys):=λst g=>by
 obtain⟨f,i,q,o,m,e⟩:=k st g;obtain⟨c,h,p,n,l,d⟩:=j f (g.trans e);refine⟨c++[(true,xs++ys)],_,_,?_,Zl,(e.trans d).trans .push⟩;show Zw (ev F a) (ev F b) (VA .Add) U st=_;unfold Zw;simp only[o,n];show Q5 i h c=_;unfold Q5;simp only[d.get m,l];exact if_pos hl
def RP(F:Nat->Fn)(q:CS)(U:Env)(st:Za)(Q:D->Za->Prop):Prop:=∃ d st',ex F q U st=some (.rt d,st')/\Grw st st'/\Q d st'
theorem RP.pre(h:ex F q U st=ex F q' U' st1)(g:Grw st st1)(a:RP F q' U' st1 Q):RP F q U st Q:=by
 obtain⟨d,st',e,b,k⟩:=a;exact⟨d,st',h.trans e,g.trans b,k⟩
theorem RP.no{p:CS}(h:Y F s e U (.bl false))(g:Grw s st)(d:∀ a,Grw st a->RP F q U a Q):RP F (.seq (.ite e p .skip) q) U st Q:=by
 obtain⟨c,f,b⟩:=h st g;exact .pre (Zb ((ZN f).trans Ze)) b (d c b)
theorem RP.ret(h:Y F s e U d)(g:Grw s st)(f:∀ b,Grw st b->Q d b):RP F (.seq (.ret e) q) U st Q:=by
 obtain⟨a,i,c⟩:=h st g;exact⟨d,a,Zm (ZC i),c,f a c⟩
theorem RP.yes{p:CS}(h:Y F s e U (.bl true))(g:Grw s st)(j:∀ a,Grw st a->RP F p U a Q):RP F (.seq (.ite e p .skip) q) U st Q:=by
 obtain⟨f,m,b⟩:=h st g;obtain⟨d,c,l,i,k⟩:=j f b;exact⟨d,c,Zm ((Z5 m).trans l),b.trans i,k⟩
def CP(F:Nat->Fn)(f:Nat)(ds:Li D)(st:Za)(Q:D->Za->Prop):Prop:=∃ d st',F f ds st=some (d,st')/\Grw st st'/\Q d st'
theorem CP.of{v:FD}{f:Nat}{ds:Li D}(h:T f=some v)(hl:ds.length=v.ps)(c:RP (rT n) v.body (ds.map some++List.replicate (v.ns - ds.length) none) st Q):CP (rT (n+1)) f ds st Q:=by
 obtain⟨d,a,g,b,e⟩:=c;exact⟨d,a,Z6 h hl g,b,e⟩
end
def Sm(a:Int):Prop:=-1000000000<=a/\a<=999999999
variable{m sz:Nat}{ns:Li Int}
section
variable{i j k c:Int}{op:Operator}
theorem Y.bi(d:Y F s a U (.int i))(c:Y F s b U (.int j))(h:ZbX op i j=some k):Y F s (.bin op a b) U (.int k):=g2 d c (gp λst=>by
 show VA op (.int i) (.int j) st=_;unfold VA;simp only[h])
theorem Y.add(d:Y F s a U (.int i))(c:Y F s b U (.int j)):Y F s (.bin .Add a b) U (.int (i+j)):=.bi d c rfl
theorem Y.sub(d:Y F s a U (.int i))(c:Y F s b U (.int j)):Y F s (.bin .Sub a b) U (.int (i - j)):=.bi d c rfl
theorem Y.mul(d:Y F s a U (.int i))(c:Y F s b U (.int j))(h:Yi j=true):Y F s (.bin .Mult a b) U (.int (i * j)):=.bi d c (by show(if Yi i||Yi j then some (i * j) else none)=_;rw[h,Bool.or_true];rfl)
theorem Y.md(d:Y F s a U (.int i))(c:Y F s b U (.int j))(h:0 < j):Y F s (.bin .Mod a b) U (.int (i % j)):=.bi d c (if_pos h)
theorem Y.fd(d:Y F s a U (.int i))(c:Y F s b U (.int j))(h:0 < j/\j < 1073741824):Y F s (.bin .FloorDiv a b) U (.int (i / j)):=.bi d c (if_pos h)
theorem Y.ixL{j:Nat}(l:Lv s (ev F a U) xs)(k:Y F s b U (.int (j:Int)))(h:xs[j]?=some d):Y F s (.ix a b) U d:=λst g=>by
 obtain⟨i,q,t,o,m,f⟩:=l st g;obtain⟨c,n,e⟩:=k i (g.trans f);refine⟨c,?_,f.trans e⟩;show Zw (ev F a) (ev F b) ixR U st=_;unfold Zw;simp only[o,n];show ixR (.lst q) (.int (j:Int)) c=_;unfold ixR ixD;simp only[e.get m,UG h]
theorem Y.ixE{l:Li α}{f:α->D}(d:Lv s (ev F a U) (l.map f))(c:Y F s b U (.int i))(e:0<=i)(g:i < l.length):∃ x∈l,Y F s (.ix a b) U (f x):=by
 have hi:i.toNat < l.length:=by omega
 refine⟨l[i.toNat],dA hi,.ixL d (j:=i.toNat) (by rw[bR e];exact c) ?_⟩
 rw[aS,lG7 hi];rfl
theorem Zx(i:Int)(h:0 < j):0<=i % j/\i % j < j:=⟨Int.emod_nonneg _ (by omega),Int.emod_lt_of_pos _ h⟩
theorem ZaY(h:-(2 ^ 64) < i/\i < 2 ^ 64):Yi i=true:=by unfold Yi;rw[aG h.1,aG h.2];rfl
end
variable{N:Nat}
theorem Uo{I:Env->Prop}{P:Nat->D->Prop}(o:s.length<=j)(p:∀ k,k < N->∀ U,I U->∃ d U',P k d/\I U'/\Ap F s j q (Zh U i (.int (k:Int))) U' [d]):∀ (M a:Nat),a+M=N->∀ U,I U->∃ xs U',xs.length=M/\(∀ t d,xs[t]?=some d->P (a+t) d)/\I U'/\∀ st b,Grw s st->st[j]?=some (true,b)->b.length+M<=900->∃ st',Zp (λd U s=>ex F q (Zh U i d) s) ((List.range' a M).map λ(k:Nat)=>D.int (k:Int)) U st=some (.nx U',st')/\Kj j st st'/\st'[j]?=some (true,b++xs)
 |0,a,_,U,m=>⟨[],U,rfl,λt d h=>(nomatch h),m,λst b g h _=>⟨st,rfl,Grw.refl.kj,by rw[bB];exact h⟩⟩
 |M+1,a,L,U,m=>by
  obtain⟨d,e,A,l,B⟩:=p a (by omega) U m
  obtain⟨xs,c,z,x,f,y⟩:=Uo o p M (a+1) (by omega) e l
  refine⟨d :: xs,c,by rw[aP,z],λt J h=>?_,f,λst b g h K=>?_⟩
  .cases t with
   |zero=>cases h;exact A
   |succ t=>have:=x t J h;rw[show a+1+t=a+(t+1) by omega]at this;exact this
  .obtain⟨u,H,n,E⟩:=B st b g h (by show _+1<=900;omega)
   obtain⟨r,G,w,C⟩:=y u _ (n.grw o g) E (by rw[aI];show _+1+M<=900;omega)
   refine⟨r,?_,n.trans w,by rw[C,bG];rfl⟩
   rw[dO,aJ];show(match ex F q (Zh U i (.int (a:Int))) st with
    |some (.nx U',st')=>Zp _ _ U' st'
    |some (.ct U',st')=>Zp _ _ U' st'
    |some (.bk U',st')=>some (.nx U',st')
    |some (.rt v,st')=>some (.rt v,st')
    |none=>none)=_
   rw[H];exact G
theorem ZaQ{v:Int}(b:v < 2 ^ 62)(a:-(2 ^ 62)<=v):Wu true (.int v)=some ((List.range v.toNat).map λ(k:Nat)=>D.int (k:Int)):=by
 show(if v < 2 ^ 62/\-(2 ^ 62)<=v then some ((List.range v.toNat).map λ(k:Nat)=>D.int (k:Int)) else none)=_
 rw[if_pos ⟨b,a⟩]
theorem Xy{v:Int}{a:Za}(c:v < 2 ^ 62)(b:-(2 ^ 62)<=v)(f:ev F e U st=some (.int v,a)):ex F (.for1 i true e q) U st=Zp (λd U s=>ex F q (Zh U i d) s) ((List.range v.toNat).map λ(k:Nat)=>D.int (k:Int)) U a:=by
 show Wo i true (ev F e) (ex F q) U st=_;unfold Wo;rw[f];simp only[ZaQ c b]
theorem RP.fill{I:Nat->Env->Prop}{P:Nat->D->Prop}{v:Int}{a:Nat}{l:CS}(B:∀ j,Y F s e (Zh U a (.lst j)) (.int v))(w:v=(N:Int))(hN:N<=800)(C:∀ j,I j (Zh U a (.lst j)))(g:Grw s st)(A:∀ j,s.length<=j->∀ k,k < N->∀ U,I j U->∃ d U',P k d/\I j U'/\Ap F s j q (Zh U i (.int (k:Int))) U' [d])(y:∀ j xs U' st',xs.length=N->(∀ t d,xs[t]?=some d->P t d)->I j U'->Grw st st'->st'[j]?=some (true,xs)->RP F l U' st' Q):RP F (.seq (.set a (.lstE .aN)) (.seq (.for1 i true e q) l)) U st Q:=by
 have n:Grw s (st++[(true,[])]):=g.trans .push;obtain⟨o,H,b⟩:=B st.length (st++[(true,[])]) n;obtain⟨xs,U',z,u,c,x⟩:=Uo (I:=I st.length) g.len (A st.length g.len) N 0 (by omega) _ (C st.length)
 obtain⟨f,G,r,E⟩:=x o [] (n.trans b) (b.get Zl) (by show 0+N<=900;omega)
 have m:Grw st f:=(b.kj.trans r).grw (aF _) .push;refine .pre ((Zb (p:=.set a (.lstE .aN)) (s':=st++[(true,[])]) rfl).trans (Zb ?_)) m (y st.length xs U' f z (λt d h=>by have:=u t d h;rw[bH]at this;exact this) c m E)
 rw[Xy (v:=v) (by omega) (by omega) H,w,aZ,dW]
 exact G
def arI(x:Int):Int:=(x+1000000000) % 2000000000 - 1000000000
def fdI(i j:Int):Int:=if 0 < j then i / j else i.fdiv j
def rkI(a:Int)(g:Str)(b:Int):Int:=if g=S "+" then arI (a+b) else if g=S "-" then arI (a - b) else if g=S "*" then arI (a * b) else if g=S "/" then (if b=0 then 0 else arI (fdI a b)) else if b=0 then a else a - b * fdI a b
def soI(a:Int)(g:Str)(b:Int):Bool:=if g=S "<" then decide (a < b) else if g=S "<=" then decide (a<=b) else if g=S "=" then decide (a=b) else if g=S ">=" then decide (b<=a) else if g=S ">" then decide (b < a) else !decide (a=b)
def psL:Li Str:=[S "+",S "-",S "*",S "/",S "mod"]
def isL:Li Str:=[S "<",S "<=",S "=",S ">=",S ">",S "!="]
inductive Op where
 |nm (i:Nat)|nu (v:Int)
 deriving DecidableEq
def opE:Op->D
 |.nm i=>.tup [.str "name",.int (i:Int)]
 |.nu v=>.tup [.str "number",.int v]
def X1(m:Nat):Op->Prop
 |.nm i=>i < m
 |.nu v=>Sm v
inductive Rw where
 |put (x:Nat) (y:Op) (g:Str) (z:Op)|ifr (y:Op) (g:Str) (z:Op) (t:Nat)|go (t:Nat)|tell (y:Op)|skip
 deriving DecidableEq
def rwE:Rw->D
 |.put x y g z=>.tup [.str "put",.int (x:Int),opE y,.str g,opE z]
 |.ifr y g z t=>.tup [.str "if",opE y,.str g,opE z,.int (t:Int)]
 |.go t=>.tup [.str "go",.int (t:Int)]
 |.tell y=>.tup [.str "tell",opE y]
 |.skip=>.tup [.str "skip"]
def YI(m sz:Nat):Rw->Prop
 |.put x y g z=>x < m/\X1 m y/\g∈psL/\X1 m z
 |.ifr y g z t=>X1 m y/\g∈isL/\X1 m z/\t<=sz
 |.go t=>t<=sz
 |.tell y=>X1 m y
 |.skip=>True
def woI(vs:Li Int):Op->Int
 |.nm i=>vs.getD i 0
 |.nu v=>v
structure Vs(m:Nat)(vs:List Int):Prop where
 l:vs.length=m
 s:∀ v∈vs,Sm v
def inZ(vs:Li Int):Li D:=vs.map D.int
variable{vs:Li Int}{g:Str}{o:Op}{r:Rw}
section
variable{i j:Int}
theorem Vy:Sm (arI i):=by
 have:=Zx (i+1000000000) (j:=2000000000) (by decide)
 unfold Sm arI;omega
theorem Zhg(h:j≠0):(0 < j/\j * fdI i j<=i/\i < j * fdI i j+j)\/(j < 0/\i<=j * fdI i j/\j * fdI i j+j < i):=by
 unfold fdI;by_cases a:0 < j
 .rw[if_pos a]
  have b:=Int.mul_ediv_add_emod i j;have d:=Int.emod_nonneg i h;have e:=Int.emod_lt_of_pos i a;exact .inl ⟨a,by omega,by omega⟩
 .rw[if_neg a]
  have b:=Int.fmod_def i j;have d:j < 0:=by omega
  have e:=Int.emod_nonneg i h;have g:i % j < -j:=by have:=Int.emod_lt i h;omega
  rw[Int.fmod_eq_emod]at b;by_cases c:j ∣ i
  .rw[if_pos (.inr c),Int.emod_eq_zero_of_dvd c]at b
   exact .inr ⟨d,by omega,by omega⟩
  .have f:i % j≠0:=λz=>c (Int.dvd_of_emod_eq_zero z)
   rw[if_neg (by omega)]at b
   exact .inr ⟨d,by omega,by omega⟩
theorem ZgP(a:Sm i)(e:Sm j):Sm (rkI i g j):=by
 unfold rkI;split
 .exact Vy
 .split
  .exact Vy
  .split
   .exact Vy
   .split
    .split
     .exact⟨by decide,by decide⟩
     .exact Vy
    .split
     .exact a
     .rename_i h
      have:=Zhg (i:=i) h;unfold Sm at *
      rcases this with⟨d,c,b⟩|⟨d,c,b⟩
      .generalize j * fdI i j=q at *
       omega
      .generalize j * fdI i j=q at *
       omega
theorem Y.v{i:Nat}(h:U[i]?=some (some d)):Y F s (.v i) U d:=.r λst=>by show YZ i U st=_;unfold YZ;rw[h]
theorem Y.fdv(f:Y F s a U (.int i))(e:Y F s b U (.int j))(h:j≠0)(d:Sm j):Y F s (.bin .FloorDiv a b) U (.int (fdI i j)):=.bi f e (by
 unfold Sm at d;show(if 0 < j/\j < 1073741824 then some (i / j) else if j < 0/\-1073741824 < j then some (i.fdiv j) else none)=_
 unfold fdI;by_cases c:0 < j
 .rw[if_pos c,if_pos ⟨c,by omega⟩]
 .rw[if_neg c,if_neg (by omega),if_pos ⟨by omega,by omega⟩])
theorem Vd(h:Sm j):Yi j=true:=ZaY (by unfold Sm at h;omega)
theorem Y.arx(b:Y F s a U (.int i)):Y F s (.bin .Sub (.bin .Mod (.bin .Add a (.i 1000000000)) (.i 2000000000)) (.i 1000000000)) U (.int (arI i)):=.sub (.md (.add b (.r rf)) (.r rf) (by decide)) (.r rf)
theorem YV:C (rT (n+1)) s 0 [.int i] (.int (arI i)):=.of (v:=c_around) rfl rfl (.ret (.arx (.r rf)))
theorem Zf2(a:Sm j):C (rT (n+2)) s 1 [.int i,.int j] (.int (if j=0 then 0 else arI (fdI i j))):=by
 by_cases h:j=0
 .subst h;exact .of (v:=c_divided) rfl rfl (.yes (.r rf) (.r rf))
 .rw[if_neg h]
  exact .of (v:=c_divided) rfl rfl (.no (.cmp (.r rf) (.r rf) λ_=>congrArg some (aE h)) (.ret (.call1 (.fdv (.r rf) (.r rf) h a) YV)))
theorem Zd5(a:Sm j):C (rT (n+1)) s 2 [.int i,.int j] (.int (if j=0 then i else i - j * fdI i j)):=by
 by_cases h:j=0
 .subst h;exact .of (v:=c_left_over) rfl rfl (.yes (.r rf) (.r rf))
 .rw[if_neg h]
  refine .of (v:=c_left_over) rfl rfl (.no (.cmp (.r rf) (.r rf) λ_=>congrArg some (aE h)) (.ret (.sub (.r rf) (.bi (i:=j) (j:=fdI i j) (.r rf) (.fdv (.r rf) (.r rf) h a) ?_))))
  show(if Yi j||Yi (fdI i j) then some (j * fdI i j) else none)=_
  rw[Vd a];rfl
theorem Y.eqs{x y:Str}(d:Y F s a U (.str x))(c:Y F s b U (.str y)):Y F s (.cmp .Eq a b) U (.bl (decide (x=y))):=.cmp d c λ_=>rfl
theorem R.pick{k:Bool}{q p:CS}(h:Y F s e U (.bl k))(b:k=true->R F s p U d)(a:k=false->R F s q U d):R F s (.seq (.ite e p .skip) q) U d:=by
 cases k
 .exact .no h (a rfl)
 .exact .yB h (b rfl)
theorem Zg6(hi:Sm i)(c:Sm j):C (rT (n+3)) s 3 [.int i,.str g,.int j] (.int (rkI i g j)):=by
 unfold rkI;refine .of (v:=c_reckon) rfl rfl (.pick (.eqs (.r rf) (.r rf)) (λh=>?_) λh=>.pick (.eqs (.r rf) (.r rf)) (λa=>?_) λa=>.pick (.eqs (.r rf) (.r rf)) (λb=>?_) λb=>.pick (.eqs (.r rf) (.r rf)) (λd=>?_) λd=>?_)
 .rw[if_pos (of_decide_eq_true h)];exact .ret (.call1 (.add (.r rf) (.r rf)) YV)
 .rw[if_neg (of_decide_eq_false h),if_pos (of_decide_eq_true a)];exact .ret (.call1 (.sub (.r rf) (.r rf)) YV)
 .rw[if_neg (of_decide_eq_false h),if_neg (of_decide_eq_false a),if_pos (of_decide_eq_true b)];exact .ret (.call1 (.mul (.r rf) (.r rf) (Vd c)) YV)
 .rw[if_neg (of_decide_eq_false h),if_neg (of_decide_eq_false a),if_neg (of_decide_eq_false b),if_pos (of_decide_eq_true d)];exact .ret (.call (xs:=[.int i,.int j]) (.r rf) (Zf2 c))
 .rw[if_neg (of_decide_eq_false h),if_neg (of_decide_eq_false a),if_neg (of_decide_eq_false b),if_neg (of_decide_eq_false d)];exact .ret (.call (xs:=[.int i,.int j]) (.r rf) (Zd5 c))
theorem Zg8:C (rT (n+1)) s 4 [.int i,.str g,.int j] (.bl (soI i g j)):=by
 unfold soI;refine .of (v:=c_is_so) rfl rfl (.pick (.eqs (.r rf) (.r rf)) (λh=>?_) λh=>.pick (.eqs (.r rf) (.r rf)) (λa=>?_) λa=>.pick (.eqs (.r rf) (.r rf)) (λb=>?_) λb=>.pick (.eqs (.r rf) (.r rf)) (λc=>?_) λc=>.pick (.eqs (.r rf) (.r rf)) (λd=>?_) λd=>?_)
 .rw[if_pos (of_decide_eq_true h)];exact .ret (.r rf)
 .rw[if_neg (of_decide_eq_false h),if_pos (of_decide_eq_true a)];exact .ret (.r rf)
 .rw[if_neg (of_decide_eq_false h),if_neg (of_decide_eq_false a),if_pos (of_decide_eq_true b)];exact .ret (.r rf)
 .rw[if_neg (of_decide_eq_false h),if_neg (of_decide_eq_false a),if_neg (of_decide_eq_false b),if_pos (of_decide_eq_true c)];exact .ret (.r rf)
 .rw[if_neg (of_decide_eq_false h),if_neg (of_decide_eq_false a),if_neg (of_decide_eq_false b),if_neg (of_decide_eq_false c),if_pos (of_decide_eq_true d)];exact .ret (.r rf)
 .rw[if_neg (of_decide_eq_false h),if_neg (of_decide_eq_false a),if_neg (of_decide_eq_false b),if_neg (of_decide_eq_false c),if_neg (of_decide_eq_false d)];exact .ret (.r rf)
theorem Zd2{i:Nat}(a:Vs m vs)(h:i < m):(inZ vs)[i]?=some (.int (woI vs (.nm i))):=by
 have b:=a.l;unfold inZ;rw[aS,lG7 (by omega)]
 show some (D.int vs[i])=some (D.int (vs.getD i 0));rw[List.getD_eq_getElem?_getD,lG7 (by omega)];rfl
theorem WV(a:Vs m vs)(h:X1 m o):Sm (woI vs o):=by
 cases o with
 |nm i=>
  have b:=a.l;have hi:i < m:=h;show Sm (vs.getD i 0);rw[List.getD_eq_getElem?_getD,lG7 (by omega)]
  exact a.s _ (dA _)
 |nu v=>exact h
theorem Xv(a:Vs m vs)(h:X1 m o):C (rT (n+1)) s 5 [opE o,.tup (inZ vs)] (.int (woI vs o)):=by
 cases o with
 |nm i=>exact .of (v:=c_worth) rfl rfl (.yes (.r rf) (.ixt (j:=i) (.r rf) (.r rf) (Zd2 a h)))
 |nu v=>exact .of (v:=c_worth) rfl rfl (.no (.r rf) (.ret (.r rf)))
end
def pgD(a:D)(m:Nat)(rs:Li Rw):D:=.tup [a,.int (m:Int),.tup (rs.map rwE)]
def stD(k:Nat)(vs:Li Int):D:=.tup [.int (k:Int),.tup (inZ vs)]
def noD:D:=.tup [.str "none"]
def laD:D:=.tup [.str "late"]
def teD(v:Int):D:=.tup [.str "told",.int v]
def vsN(vs:Li Int):Rw->Li Int
 |.put x y g z=>vs.set x (rkI (woI vs y) g (woI vs z))
 |_=>vs
def pkN(k:Nat)(vs:Li Int):Rw->Nat
 |.go t=>t
 |.ifr y g z t=>if soI (woI vs y) g (woI vs z)=true then t else k+1
 |_=>k+1
def mv(rs:Li Rw)(k:Nat)(vs:Li Int):Sum D (Nat×Li Int):=match rs[k]? with
 |none=>.inl noD
 |some (.tell y)=>.inl (teD (woI vs y))
 |some r=>.inr (pkN k vs r,vsN vs r)
def oc(rs:Li Rw):Nat->Nat->Li Int->D
 |0,k,_=>if rs.length<=k then noD else laD
 |n+1,k,vs=>match mv rs k vs with
  |.inl o=>o
  |.inr p=>oc rs n p.1 p.2
def tl(rs:Li Rw):Nat->Nat->Li Int->Li D
 |0,k,_=>[if rs.length<=k then noD else laD]
 |n+1,k,vs=>match mv rs k vs with
  |.inl o=>[o]
  |.inr p=>stD p.1 p.2 :: tl rs n p.1 p.2
structure Rs(m:Nat)(rs:List Rw):Prop where
 l:rs.length<=50
 ok:∀ r∈rs,YI m rs.length r
def v0(m:Nat)(ins:Li Int):Li Int:=ins++List.replicate (m - ins.length) 0
variable{tk:D}{k:Nat}{ins:Li Int}{rs:Li Rw}
theorem J2{j:Nat}:sIx w j (some (i:Int))=Nat.min i w:=by
 show(if (i:Int) < 0 then ((i:Int)+(w:Int)).toNat else Nat.min (i:Int).toNat w)=_
 rw[if_neg (by omega),aZ]
theorem Zey(h:i<=xs.length):Xw xs none (some (i:Int))=xs.take i:=by
 unfold Xw;rw[J2,show Nat.min i xs.length=i from Nat.min_eq_left h];rfl
theorem Zex(h:i<=xs.length):Xw xs (some (i:Int)) none=xs.drop i:=by
 unfold Xw;rw[J2,show Nat.min i xs.length=i from Nat.min_eq_left h];exact dX (by rw[dF];exact aF _)
theorem sl_tup:Yf (.tup xs) lo hi st=some (.tup (Xw xs lo hi),st):=by
 show(if sIx xs.length 0 lo=0/\sIx xs.length xs.length hi=xs.length then some (D.tup xs,st) else some (.tup (Xw xs lo hi),st))=_
 split
 .rename_i h
  unfold Xw;rw[h.1,h.2,bW,Nat.sub_zero,List.take_length]
 .rfl
theorem Y.tkT(k:Y F s a U (.tup xs))(j:Y F s b U (.int (i:Int)))(h:i<=xs.length):Y F s (.slice a .nop (.part b)) U (.tup (xs.take i)):=λst g=>by
 obtain⟨e,m,d⟩:=k st g;obtain⟨c,l,f⟩:=j e (g.trans d);refine⟨c,?_,d.trans f⟩;show WD (ev F a) (evC .non) (Zq (ev F b) Uj) YS U st=_;unfold WD Zq evC;simp only[m,l];show Yf (.tup xs) none (some (i:Int)) c=_;rw[sl_tup,Zey h]
theorem Y.dpT(k:Y F s a U (.tup xs))(j:Y F s b U (.int (i:Int)))(h:i<=xs.length):Y F s (.slice a (.part b) .nop) U (.tup (xs.drop i)):=λst g=>by
 obtain⟨e,m,d⟩:=k st g;obtain⟨c,l,f⟩:=j e (g.trans d);refine⟨c,?_,d.trans f⟩;show WD (ev F a) (Zq (ev F b) Uj) (evC .non) YS U st=_;unfold WD Zq evC;simp only[m,l];show Yf (.tup xs) (some (i:Int)) none c=_;rw[sl_tup,Zex h]
theorem Y.adT(d:Y F s a U (.tup xs))(c:Y F s b U (.tup ys))(h:xs.length+ys.length<=100000):Y F s (.bin .Add a b) U (.tup (xs++ys)):=g2 d c (gp λst=>by
 show(if V3 .Add=true/\xs.length+ys.length<=Zn then some (D.tup (xs++ys),st) else none)=_
 exact if_pos ⟨rfl,by unfold Zn;omega⟩)
theorem Y.rep(e:Y F s a U d)(c:Y F s b U (.int (i:Int)))(h:i<=1000):Y F s (.bin .Mult (.tupE (.u a)) b) U (.tup (List.replicate i d)):=g2 (x:=.tup [d]) (.cons e .nil) c (gp λst=>by
 show(if (i:Int)<=1000/\-1000<=(i:Int) then some (D.tup (List.replicate (i:Int).toNat d),st) else none)=_
 rw[if_pos ⟨by omega,by omega⟩,aZ])
theorem Y.lnT(b:Y F s a U (.tup xs)):Y F s (.len a) U (.int (xs.length:Int)):=g1 b (gp λst=>rfl)
theorem XF(h:i < xs.length)(hl:xs.length<=1000):C (rT (n+1)) s 42 [.tup xs,.int (i:Int),d] (.tup (xs.set i d)):=by
 rw[show xs.set i d=(xs.take i++[d])++xs.drop (i+1) by rw[bG];exact List.set_eq_take_append_cons_drop.trans (if_pos h)]
 refine .of (v:=c_replaced) rfl rfl (.ret (.adT (.adT (.tkT (.r rf) (.r rf) (by omega)) (.cons (.r rf) .nil) ?_) (.dpT (i:=i+1) (.r rf) (by rw[bY];exact .add (.r rf) (.r rf)) (by omega)) ?_))
 .rw[bS];show _+1<=_;omega
 .rw[aI,bS,dF];show _+1+_<=_;omega
theorem Zd0(hl:ins.length<=m)(h:∀ v∈ins,Sm v):Vs m (v0 m ins):=by
 unfold v0;refine⟨by rw[aI,cA];omega,λv hv=>?_⟩
 rcases bE.mp hv with hv|hv
 .exact h v hv
 .rw[(List.mem_replicate.mp hv).2];exact⟨by decide,by decide⟩
theorem ZbO(hl:ins.length<=m)(c:m<=1000):C (rT (n+1)) s 6 [pgD tk m rs,.tup (inZ ins)] (stD 0 (v0 m ins)):=by
 unfold stD v0 inZ;rw[aX,List.map_replicate];refine .of (v:=c_began) rfl rfl (.ret (.cons (.r rf) (.cons (.adT (.r rf) (.rep (i:=m - ins.length) (.r rf) ?_ (by omega)) (by rw[aD,cA];omega)) .nil)))
 have b:Y (rT n) s (.len (.v 1)) [some (pgD tk m rs),some (.tup (ins.map D.int))] (.int (ins.length:Int)):=by
  have:=Y.lnT (F:=rT n) (s:=s) (a:=.v 1) (U:=[some (pgD tk m rs),some (.tup (ins.map D.int))]) (xs:=ins.map D.int) (.r rf);rw[aD]at this;exact this
 rw[Int.natCast_sub hl];exact .sub (.r rf) b
theorem Zdr:C (rT (n+1)) s 7 [pgD tk m rs,stD k vs] (.bl (decide (rs.length<=k))):=by
 have b:Y (rT n) s (.len (.ix (.v 0) (.i 2))) [some (pgD tk m rs),some (stD k vs)] (.int (rs.length:Int)):=by
  have:=Y.lnT (F:=rT n) (s:=s) (a:=.ix (.v 0) (.i 2)) (U:=[some (pgD tk m rs),some (stD k vs)]) (xs:=rs.map rwE) (.r rf);rw[aD]at this;exact this
 exact .of (v:=c_at_end) rfl rfl (.ret (.cmp (.r rf) b λ_=>by show some (decide ((rs.length:Int)<=(k:Int)))=_;exact congrArg some (decide_eq_decide.mpr (by omega))))
theorem Up{j:Int}:(inZ vs).set i (.int j)=inZ (vs.set i j):=by unfold inZ;rw[List.map_set]
theorem Zef(a:Vs m vs)(j:m<=1000)(h:YI m w r)(e:∀ y,r≠.tell y):C (rT (n+4)) s 8 [rwE r,.tup (inZ vs)] (.tup (inZ (vsN vs r))):=by
 cases r with
 |put x y g z=>
  obtain⟨f,c,o,b⟩:=h;have k:=a.l;refine .of (v:=c_values_behind) rfl rfl (.no (.r rf) (.set (.call (xs:=[.int (woI vs y),.str g,.int (woI vs z)]) (.cons (.call (xs:=[opE y,.tup (inZ vs)]) (.r rf) (Xv a c)) (.cons (.r rf) (.cons (.call (xs:=[opE z,.tup (inZ vs)]) (.r rf) (Xv a b)) .nil))) (Zg6 (WV a c) (WV a b))) (.ret (.call (xs:=[.tup (inZ vs),.int (x:Int),.int (rkI (woI vs y) g (woI vs z))]) (.r rf) ?_))))
  have:=XF (n:=n+2) (s:=s) (xs:=inZ vs) (i:=x) (d:=.int (rkI (woI vs y) g (woI vs z))) (by unfold inZ;rw[aD];omega) (by unfold inZ;rw[aD];omega)
  rw[Up]at this;exact this
 |ifr y g z t=>exact .of (v:=c_values_behind) rfl rfl (.yes (.r rf) (.r rf))
 |go t=>exact .of (v:=c_values_behind) rfl rfl (.yes (.r rf) (.r rf))
 |tell y=>exact absurd rfl (e y)
 |skip=>exact .of (v:=c_values_behind) rfl rfl (.yes (.r rf) (.r rf))
theorem ZbR(a:Vs m vs)(h:YI m w r)(d:∀ y,r≠.tell y):C (rT (n+2)) s 9 [rwE r,.int (k:Int),.tup (inZ vs)] (.int (pkN k vs r:Int)):=by
 have one:∀ {U:Env},U[1]?=some (jN k)->Y (rT (n+1)) s (.bin .Add (.v 1) (.i 1)) U (.int ((k+1:Nat):Int)):=λ{U} h=>by
  rw[bY];exact .add (.v h) (.r rf)
 cases r with
 |put x y g z=>exact .of (v:=c_place_behind) rfl rfl (.no (.r rf) (.no (.r rf) (.ret (one rfl))))
 |go t=>exact .of (v:=c_place_behind) rfl rfl (.yes (.r rf) (.r rf))
 |skip=>exact .of (v:=c_place_behind) rfl rfl (.no (.r rf) (.no (.r rf) (.ret (one rfl))))
 |tell y=>exact absurd rfl (d y)
 |ifr y g z t=>
  obtain⟨c,f,b,e⟩:=h;refine .of (v:=c_place_behind) rfl rfl (.no (.r rf) (.pick (k:=true&&soI (woI vs y) g (woI vs z)) (.and (.r rf) λ_=>.call (xs:=[.int (woI vs y),.str g,.int (woI vs z)]) (.cons (.call (xs:=[opE y,.tup (inZ vs)]) (.r rf) (Xv a c)) (.cons (.r rf) (.cons (.call (xs:=[opE z,.tup (inZ vs)]) (.r rf) (Xv a b)) .nil))) Zg8) (λq=>?_) λq=>?_))
  .rw[cC]at q
   show R _ _ _ _ (.int ((if soI (woI vs y) g (woI vs z)=true then t else k+1:Nat):Int))
   rw[if_pos q];exact .ret (.r rf)
  .rw[cC]at q
   show R _ _ _ _ (.int ((if soI (woI vs y) g (woI vs z)=true then t else k+1:Nat):Int))
   rw[if_neg (by rw[q];decide)]
   exact .ret (one rfl)
def mvD(rs:Li Rw)(k:Nat)(vs:Li Int):D:=match mv rs k vs with
 |.inl o=>o
 |.inr p=>stD p.1 p.2
theorem ZbQ(h:Rs m rs)(l:m<=1000)(d:Vs m vs):C (rT (n+5)) s 10 [pgD tk m rs,stD k vs] (mvD rs k vs):=by
 have c:=Y.call (F:=rT (n+4)) (s:=s) (a:=.aC (.v 0) (.u (.v 1))) (U:=[some (pgD tk m rs),some (stD k vs),none,none,none]) (xs:=[pgD tk m rs,stD k vs]) (ds:=[]) (.r rf) (Zdr (n:=n+3));unfold mvD mv;cases q:rs[k]? with
 |none=>
  rw[aG (cZ.mp q)]at c;exact .of (v:=c_moved) rfl rfl (.yes c (.r rf))
 |some r=>
  have o:=Zd q;rw[aE (by omega)]at c
  have ok:=h.ok r (aU q);have f:Y (rT (n+4)) s (.ix (.ix (.v 0) (.i 2)) (.v 2)) [some (pgD tk m rs),some (stD k vs),jN k,some (.tup (inZ vs)),none] (rwE r):=.ixt (j:=k) (xs:=rs.map rwE) (.r rf) (.r rf) (by rw[aS,q];rfl)
  refine .of (v:=c_moved) rfl rfl (.no c (.set (.r rf) (.set (.r rf) (.set f ?_))));have b:(∀ y,r≠.tell y)->R (rT (n+4)) s (.z (.ret (.tupE (.aC (.call 9 (.aC (.v 4) (.aC (.v 2) (.u (.v 3)))) []) (.u (.call 8 (.aC (.v 4) (.u (.v 3))) [])))))) [some (pgD tk m rs),some (stD k vs),jN k,some (.tup (inZ vs)),some (rwE r)] (stD (pkN k vs r) (vsN vs r)):=λe=>.ret (.cons (.call (xs:=[rwE r,.int (k:Int),.tup (inZ vs)]) (.r rf) (ZbR (n:=n+2) d ok e)) (.cons (.call (xs:=[rwE r,.tup (inZ vs)]) (.r rf) (Zef d l ok e)) .nil))
  cases r with
  |tell y=>exact .yes (.r rf) (.cons (.r rf) (.cons (.call (xs:=[opE y,.tup (inZ vs)]) (.r rf) (Xv d ok)) .nil))
  |put x y g z=>exact .no (.r rf) (b λy z=>nomatch z)
  |ifr y g z t=>exact .no (.r rf) (b λy z=>nomatch z)
  |go t=>exact .no (.r rf) (b λy z=>nomatch z)
  |skip=>exact .no (.r rf) (b λy z=>nomatch z)
variable{L:Nat}{acc:Li D}
def enD(rs:Li Rw)(k:Nat):D:=if rs.length<=k then noD else laD
def isO:D->Bool
 |.tup (.str _ :: _)=>true
 |_=>false
theorem ZdN(a:Vs m vs)(d:Rs m rs){p:Nat×Li Int}(h:mv rs k vs=.inr p):Vs m p.2:=by
 unfold mv at h;cases q:rs[k]? with
 |none=>rw[q]at h;cases h
 |some r=>
  rw[q]at h;have ok:=d.ok r (aU q);cases r with
  |tell y=>cases h
  |put x y g z=>
   cases h;obtain⟨e,c,f,b⟩:=ok;refine⟨by show(vs.set x _).length=m;rw[bC];exact a.l,λv h=>?_⟩
   rcases List.mem_or_eq_of_mem_set h with h|h
   .exact a.s v h
   .rw[h];exact ZgP (WV a c) (WV a b)
  |ifr y g z t=>cases h;exact a
  |go t=>cases h;exact a
  |skip=>cases h;exact a
theorem ZcJ{o:D}(h:mv rs k vs=.inl o):isO o=true/\∃ a,o=.tup (.str (if rs.length<=k then S "none" else S "told") :: a):=by
 unfold mv at h;cases q:rs[k]? with
 |none=>rw[q]at h;cases h;exact⟨rfl,[],by rw[if_pos (cZ.mp q)];rfl⟩
 |some r=>
  rw[q]at h;have:=Zd q;cases r with
  |tell y=>cases h;exact⟨rfl,[.int (woI vs y)],by rw[if_neg (by omega)];rfl⟩
  |_=>cases h
theorem Zdt{k:Bool}(h:(∃ x a,d=.tup (.str x :: a)/\k=true)\/(∃ i a,d=.tup (.int i :: a)/\k=false)):C (rT (n+1)) s 11 [d] (.bl k):=by
 rcases h with⟨x,a,rfl,rfl⟩|⟨i,a,rfl,rfl⟩
 .exact .of (v:=c_is_outcome) rfl rfl (.ret (g1 (x:=.str x) (.ixt (j:=0) (.r rf) (.r rf) rfl) (gp λ_=>rfl)))
 .exact .of (v:=c_is_outcome) rfl rfl (.ret (g1 (x:=.int i) (.ixt (j:=0) (.r rf) (.r rf) rfl) (gp λ_=>rfl)))
theorem Zdn{y z:Ot D}(J:Rs m rs)(L:m<=1000)(I:Vs m vs)(O:s.length<=j)(g:Grw s st)(h:st[j]?=some (true,acc))(hl:acc.length < 900){x0 x2:Ot D}:match mv rs k vs with
  |.inl o=>∃ st',Kj j st st'/\ex (rT (n+5)) ZK [some (pgD tk m rs),x0,x2,some (stD k vs),jL j,y,z] st=some (.rt (.tup (acc++[o])),st')
  |.inr p=>∃ st',Kj j st st'/\st'[j]?=some (true,acc++[stD p.1 p.2])/\ex (rT (n+5)) ZK [some (pgD tk m rs),x0,x2,some (stD k vs),jL j,y,z] st=some (.nx [some (pgD tk m rs),x0,x2,some (stD p.1 p.2),jL j,y,some (stD p.1 p.2)],st'):=by
 obtain⟨G,N,w⟩:=Y.call (F:=rT (n+5)) (s:=s) (a:=.aC (.v 0) (.u (.v 3))) (U:=[some (pgD tk m rs),x0,x2,some (stD k vs),jL j,y,z]) (xs:=[pgD tk m rs,stD k vs]) (ds:=[]) (.r rf) (ZbQ J L I) st g;obtain⟨b,M,H,l⟩:=Ap.app (F:=rT (n+5)) (s:=s) (j:=j) (i:=4) (e:=.v 6) (U:=[some (pgD tk m rs),x0,x2,some (stD k vs),jL j,y,some (mvD rs k vs)]) (d:=mvD rs k vs) rfl (.r rf) G acc (g.trans w) (w.get h) (by show _+1<=900;omega)
 have pre:∀ {r},ex (rT (n+5)) (.seq (.ite (.call 11 (.u (.v 6)) []) (.z (.ret (.tOf (.v 4)))) .skip) (.z (.set 3 (.v 6)))) [some (pgD tk m rs),x0,x2,some (stD k vs),jL j,y,some (mvD rs k vs)] b=r->ex (rT (n+5)) ZK [some (pgD tk m rs),x0,x2,some (stD k vs),jL j,y,z] st=r:=λh=>(Zb (Zi N)).trans ((Zb M).trans h)
 have C:=w.kj.trans H;cases q:mv rs k vs with
 |inl o=>
  have A:mvD rs k vs=o:=by unfold mvD;rw[q]
  rw[A]at l pre;obtain⟨_,E,K⟩:=ZcJ q;obtain⟨t,B,c⟩:=Y.call1 (F:=rT (n+5)) (s:=b) (f:=11) (a:=.v 6) (x:=o) (U:=[some (pgD tk m rs),x0,x2,some (stD k vs),jL j,y,some o]) (.r rf) (Zdt (n:=n+4) (.inl ⟨_,E,K,rfl⟩)) b .refl;exact⟨t,C.trans c.kj,pre (Zm ((Z5 B).trans (Zm (ZC (Yo rfl (c.get l))))))⟩
 |inr p=>
  have A:mvD rs k vs=stD p.1 p.2:=by unfold mvD;rw[q]
  rw[A]at l pre;obtain⟨t,B,c⟩:=Y.call1 (F:=rT (n+5)) (s:=b) (f:=11) (a:=.v 6) (x:=stD p.1 p.2) (U:=[some (pgD tk m rs),x0,x2,some (stD k vs),jL j,y,some (stD p.1 p.2)]) (.r rf) (Zdt (n:=n+4) (.inr ⟨_,_,rfl,rfl⟩)) b .refl;exact⟨t,C.trans c.kj,c.get l,pre ((Zb ((ZN B).trans Ze)).trans ((Zb (Zi rfl)).trans Ze))⟩
theorem QT(F:Rs m rs)(I:m<=1000)(H:s.length<=j){x0 x2:Ot D}:∀ (M a k:Nat) (vs:Li Int) (acc:Li D) (st:Za) (y z:Ot D),Vs m vs->Grw s st->st[j]?=some (true,acc)->acc.length+M<=900->
  (∃ l b c x w st',Vs m b/\tl rs M k vs=c++[enD rs l]/\Zp (λd U s=>ex (rT (n+5)) ZK (Zh U 5 d) s) ((List.range' a M).map λ(k:Nat)=>D.int (k:Int)) [some (pgD tk m rs),x0,x2,some (stD k vs),jL j,y,z] st=some (.nx [some (pgD tk m rs),x0,x2,some (stD l b),jL j,x,w],st')/\Kj j st st'/\st'[j]?=some (true,acc++c)) \/
  (∃ st',Zp (λd U s=>ex (rT (n+5)) ZK (Zh U 5 d) s) ((List.range' a M).map λ(k:Nat)=>D.int (k:Int)) [some (pgD tk m rs),x0,x2,some (stD k vs),jL j,y,z] st=some (.rt (.tup (acc++tl rs M k vs)),st')/\Kj j st st')
 |0,a,k,vs,acc,st,y,z,t,g,h,_=>.inl ⟨k,vs,[],y,z,st,t,rfl,rfl,Grw.refl.kj,by rw[bB];exact h⟩
 |M+1,a,k,vs,acc,st,y,z,t,g,h,O=>by
  have i:=Zdn (n:=n) (tk:=tk) (k:=k) (y:=jN a) (z:=z) (x0:=x0) (x2:=x2) F I t H g h (by omega)
  rw[dO,aJ];have E:∀ {r},ex (rT (n+5)) ZK [some (pgD tk m rs),x0,x2,some (stD k vs),jL j,jN a,z] st=r->Zp (λd U s=>ex (rT (n+5)) ZK (Zh U 5 d) s) (D.int (a:Int) :: (List.range' (a+1) M).map λ(k:Nat)=>D.int (k:Int)) [some (pgD tk m rs),x0,x2,some (stD k vs),jL j,y,z] st=match r with
    |some (.nx U',st')=>Zp (λd U s=>ex (rT (n+5)) ZK (Zh U 5 d) s) ((List.range' (a+1) M).map λ(k:Nat)=>D.int (k:Int)) U' st'
    |some (.ct U',st')=>Zp (λd U s=>ex (rT (n+5)) ZK (Zh U 5 d) s) ((List.range' (a+1) M).map λ(k:Nat)=>D.int (k:Int)) U' st'
    |some (.bk U',st')=>some (.nx U',st')
    |some (.rt v,st')=>some (.rt v,st')
    |none=>none:=λ{r} e=>by rw[<-e];rfl
  unfold tl;cases q:mv rs k vs with
  |inl o=>
   rw[q]at i;obtain⟨st',f,u⟩:=i;exact .inr ⟨st',E u,f⟩
  |inr p=>
   rw[q]at i;obtain⟨C,f,N,u⟩:=i;have G:(acc++[stD p.1 p.2]).length+M<=900:=by rw[aI];show _+1+M<=900;omega
   rcases QT F I H M (a+1) p.1 p.2 _ C (jN a) (some (stD p.1 p.2)) (ZdN t F q) (f.grw H g) N G with⟨l,b,c,x,w,st',L,K,B,A,J⟩|⟨st',B,A⟩
   .exact .inl ⟨l,b,stD p.1 p.2 :: c,x,w,st',L,by show stD p.1 p.2 :: tl rs M p.1 p.2=_;rw[K];rfl,(E u).trans B,f.trans A,by rw[J,bG];rfl⟩
   .exact .inr ⟨st',(E u).trans (B.trans (by rw[bG];rfl)),f.trans A⟩
theorem ZbT(V:Rs m rs)(J:m<=1000)(hi:ins.length<=m)(T:∀ v∈ins,Sm v)(hL:L<=800):C (rT (n+6)) s 12 [pgD tk m rs,.tup (inZ ins),.int (L:Int)] (.tup (stD 0 (v0 m ins) :: tl rs L 0 (v0 m ins))):=λst g=>by
 have S:=Zd0 hi T;obtain⟨b,O,y⟩:=Y.call (F:=rT (n+5)) (s:=s) (f:=6) (a:=.aC (.v 0) (.u (.v 1))) (U:=[some (pgD tk m rs),some (.tup (inZ ins)),jN L,none,none,none,none]) (xs:=[pgD tk m rs,.tup (inZ ins)]) (ds:=[]) (.r rf) (ZbO hi J) st g;have I:ex (rT (n+5)) (.set 4 (.lstE (.u (.v 3)))) [some (pgD tk m rs),some (.tup (inZ ins)),jN L,some (stD 0 (v0 m ins)),none,none,none] b=some (.nx [some (pgD tk m rs),some (.tup (inZ ins)),jN L,some (stD 0 (v0 m ins)),jL b.length,none,none],b++[(true,[stD 0 (v0 m ins)])]):=Zi rfl
 have g2:Grw s (b++[(true,[stD 0 (v0 m ins)])]):=(g.trans y).trans .push;have N:Grw st (b++[(true,[stD 0 (v0 m ins)])]):=y.trans .push;have fr:=Xy (F:=rT (n+5)) (i:=5) (e:=.v 2) (q:=ZK) (U:=[some (pgD tk m rs),some (.tup (inZ ins)),jN L,some (stD 0 (v0 m ins)),jL b.length,none,none]) (st:=b++[(true,[stD 0 (v0 m ins)])]) (v:=(L:Int)) (by omega) (by omega) rfl
 rw[aZ,dW]at fr;have K:s.length<=b.length:=aK g.len y.len;have w:st.length<=b.length:=y.len;rcases QT (n:=n) (tk:=tk) (x0:=some (.tup (inZ ins))) (x2:=jN L) V J K L 0 0 (v0 m ins) [stD 0 (v0 m ins)] _ none none S g2 Zl (by show 1+L<=900;omega) with⟨l,h,o,E,B,A,w1,G,z,x,P⟩|⟨A,z,x⟩
 .obtain⟨H,e4,Q,W⟩:=Ap.app (F:=rT (n+5)) (s:=s) (j:=b.length) (i:=4) (e:=.ife (.call 7 (.aC (.v 0) (.u (.v 3))) []) (.tupE (.u (.t "none"))) (.tupE (.u (.t "late")))) (U:=[some (pgD tk m rs),some (.tup (inZ ins)),jN L,some (stD l h),jL b.length,E,B]) (d:=enD rs l) rfl (.ife (.call (xs:=[pgD tk m rs,stD l h]) (.r rf) (Zdr (n:=n+4))) (by
   unfold enD;by_cases c:rs.length<=l
   .rw[if_pos c,aG c];exact .r rf
   .rw[if_neg c,aE c];exact .r rf)) A _ (x.grw K g2) P (by
    have:o.length<=L:=by
     have Z:=congrArg List.length G;rw[aI]at Z;have X:∀ {M k:Nat}{vs:Li Int},(tl rs M k vs).length<=M+1:=λ{M}=>by
      induction M with
      |zero=>intro k vs;exact aF _
      |succ M R=>
       intro k vs;unfold tl;split
       .show 1<=_;omega
       .rename_i p _;have:=R (k:=p.1) (vs:=p.2);rw[aP];omega
     have:=X (M:=L) (k:=0) (vs:=v0 m ins);have h3:([enD rs l]:Li D).length=1:=rfl;omega
    rw[aI];show 1+o.length+1<=900;omega)
  refine⟨H,Z6 (v:=c_trail) rfl rfl ((Zb (Zi O)).trans ((Zb I).trans ((Zb (fr.trans z)).trans ((Zb e4).trans (Zm (ZC ?_)))))),(x.trans Q).grw w N⟩;have:=Yo (F:=rT (n+5)) (e:=.v 4) (U:=[some (pgD tk m rs),some (.tup (inZ ins)),jN L,some (stD l h),jL b.length,E,B]) (st:=H) rfl W;rw[this,G];rfl
 .exact⟨A,Z6 (v:=c_trail) rfl rfl ((Zb (Zi O)).trans ((Zb I).trans (Zm (fr.trans z)))),x.grw w N⟩
def sn(rs:Li Rw):Nat->Nat->Li Int->Li Nat
 |0,_,_=>[]
 |n+1,k,vs=>match mv rs k vs with
  |.inl _=>if rs.length<=k then [] else [k]
  |.inr p=>k :: sn rs n p.1 p.2
def ZL(l:Li Nat):Nat:=l.foldl (λb k=>b ||| 2 ^ k) 0
def UO:D->Bool
 |.tup (.str x :: _)=>decide (x=S "told")
 |_=>false
def hdD:D->D
 |.tup (x :: _)=>x
 |_=>.non
section
variable{l:Li Nat}
theorem QS:tl rs n k vs≠[]:=by
 cases n with
 |zero=>exact dQ _ _
 |succ n=>unfold tl;split<;>exact dQ _ _
theorem Vw:∀ {n k:Nat}{vs:Li Int},(tl rs n k vs).getLastD .non=oc rs n k vs
 |0,k,vs=>rfl
 |n+1,k,vs=>by
  unfold tl oc;cases q:mv rs k vs with
  |inl o=>rfl
  |inr p=>
   show(stD p.1 p.2 :: tl rs n p.1 p.2).getLastD .non=oc rs n p.1 p.2;rw[<-Vw (n:=n)];cases h:tl rs n p.1 p.2 with
   |nil=>exact absurd h QS
   |cons z a=>rfl
theorem ZdP:∀ {n k:Nat}{vs:Li Int},isO (oc rs n k vs)=true
 |0,k,vs=>by unfold oc;split<;>rfl
 |n+1,k,vs=>by
  unfold oc;cases q:mv rs k vs with
  |inl o=>exact(ZcJ q).1
  |inr p=>exact ZdP
theorem ZdO:∃ x a,oc rs n k vs=.tup (.str x :: a):=by
 have:=ZdP (rs:=rs) (n:=n) (k:=k) (vs:=vs);unfold isO at this;split at this
 .exact⟨_,_,‹_›⟩
 .cases this
theorem ZdV:∀ {n k:Nat}{vs:Li Int},(if UO (oc rs n k vs)=true then (stD k vs :: tl rs n k vs).dropLast else (stD k vs :: tl rs n k vs).dropLast.dropLast).map hdD=(sn rs n k vs).map λ(k:Nat)=>D.int (k:Int)
 |0,k,vs=>by
  have:UO (oc rs 0 k vs)=false:=by
   unfold oc;split
   .show decide (S "none"=S "told")=false;decide +kernel
   .show decide (S "late"=S "told")=false;decide +kernel
  rw[this];rfl
 |n+1,k,vs=>by
  have a:=λp:Nat×Li Int=>@ZdV n p.1 p.2
  unfold oc tl sn;cases q:mv rs k vs with
  |inl o=>
   obtain⟨_,b,e⟩:=ZcJ q;dsimp only;rw[e];by_cases c:rs.length<=k
   .rw[if_pos c,if_pos c,show UO (.tup (.str "none" :: b))=false from by show decide (S "none"=S "told")=false;decide +kernel];rfl
   .rw[if_neg c,if_neg c,show UO (.tup (.str "told" :: b))=true from by show decide (S "told"=S "told")=true;decide +kernel];rfl
  |inr p=>
   dsimp only;have a:=a p;cases h:tl rs n p.1 p.2 with
   |nil=>exact absurd h QS
   |cons z b=>
    rw[h]at a;cases d:UO (oc rs n p.1 p.2) with
    |true=>
     rw[d,if_pos rfl]at a;rw[if_pos rfl];rw[aJ,<-a];rfl
    |false=>
     rw[d,if_neg (by decide)]at a
     rw[if_neg (by decide),aJ,<-a];rfl
theorem Ql(h:xs≠[])(hl:xs.length<=100000):atD xs (-1)=some (xs.getLastD .non):=by
 have a:0 < xs.length:=List.length_pos_iff.mpr h;unfold atD ixN;rw[if_neg (by decide),if_pos (by omega),oB7,show(-1+(xs.length:Int)).toNat=xs.length - 1 by omega,<-List.getLast?_eq_getElem?,List.getLastD_eq_getLast?]
 cases q:xs.getLast? with
 |none=>exact absurd (List.getLast?_eq_none_iff.mp q) h
 |some z=>rfl
theorem Y.lastT(b:Y F s a U (.tup xs))(h:xs≠[])(hl:xs.length<=100000):Y F s (.ix a (.neg (.i 1))) U (xs.getLastD .non):=g2 (y:=.int (-1)) b (.r rf) (gp λst=>by
 show ixR (.tup xs) (.int (-1)) st=_;unfold ixR ixD;simp only[Ql h hl])
theorem Y.dlT(d:Y F s a U (.tup xs)):Y F s (.slice a .nop (.part (.neg (.i 1)))) U (.tup xs.dropLast):=λst g=>by
 obtain⟨b,e,c⟩:=d st g;refine⟨b,?_,c⟩;show WD (ev F a) (evC .non) (λ_ st=>some (.int (-1),st)) YS U st=_
 unfold WD evC;simp only[e];show Yf (.tup xs) none (some (-1)) b=_;rw[sl_tup];unfold Xw;rw[show sIx xs.length 0 none=0 from rfl,bW,Nat.sub_zero];have:sIx xs.length xs.length (some (-1))=xs.length - 1:=by
  show(if (-1:Int) < 0 then (-1+(xs.length:Int)).toNat else Nat.min (-1:Int).toNat xs.length)=_
  rw[if_pos (by decide)];omega
 rw[this,List.dropLast_eq_take]
theorem U9:∀ {M k:Nat}{vs:Li Int},(tl rs M k vs).length<=M+1
 |0,k,vs=>aF _
 |M+1,k,vs=>by
  unfold tl;split
  .show 1<=_;omega
  .rename_i p _;have:=U9 (M:=M) (k:=p.1) (vs:=p.2);rw[aP];omega
theorem ZdG{l:Li D}(h:∀ d∈l,∃ x e,d=.tup (x :: e))(hl:l.length<=1000)(k:Y F s a U (.tup l)):Lv s (ev F (.comp false [] a (.ix (.v 0) (.i 0)) (.c (.bl true))) U) (l.map hdD):=by
 have:=ZaW (F:=F) (s:=s) (U:=U) (b:=one) (fr:=[]) (it:=a) (elt:=.ix (.v 0) (.i 0)) (en:=id) (g:=hdD) (l:=l) (wk:=Yv false) (by rw[List.map_id];exact .of k λst=>rfl) hl λd f=>by
  obtain⟨x,e,rfl⟩:=h d f;exact .ixt (j:=0) (.r rf) (.r rf) rfl
 exact this
theorem ZbA:∀ {n k:Nat}{vs:Li Int},∀ d∈stD k vs :: tl rs n k vs,∃ x a,d=.tup (x :: a)
 |0,k,vs=>λd hd=>by
  rcases aH.mp hd with rfl|hd
  .exact⟨_,_,rfl⟩
  .obtain⟨x,a,h⟩:=ZdO (rs:=rs) (n:=0) (k:=k) (vs:=vs)
   rw[aO.mp hd];exact⟨_,a,h⟩
 |n+1,k,vs=>λd hd=>by
  rcases aH.mp hd with rfl|hd
  .exact⟨_,_,rfl⟩
  .unfold tl at hd
   cases q:mv rs k vs with
   |inl o=>
    rw[q]at hd;obtain⟨_,a,b⟩:=ZcJ q;rw[aO.mp hd];exact⟨_,a,b⟩
   |inr p=>rw[q]at hd;exact ZbA (n:=n) d hd
theorem JK(R:L<=800):∀ st,Grw s st->∃ st' q b,rT (n+1) 14 [.tup (stD k vs :: tl rs L k vs)] st=some (.lst q,st')/\st'[q]?=some (b,(sn rs L k vs).map λ(k:Nat)=>D.int (k:Int))/\Grw st st':=λst g=>by
 have Q:=U9 (rs:=rs) (M:=L) (k:=k) (vs:=vs);have lo:(stD k vs :: tl rs L k vs).getLastD .non=oc rs L k vs:=by
  rw[<-Vw (n:=L)];cases h:tl rs L k vs with
  |nil=>exact absurd h QS
  |cons z o=>rfl
 obtain⟨x,o,B⟩:=ZdO (rs:=rs) (n:=L) (k:=k) (vs:=vs);have O:∀ {z:Ot D},Y (rT n) s (.cmp .NotEq (.ix (.ix (.v 0) (.neg (.i 1))) (.i 0)) (.t "told")) [some (.tup (stD k vs :: tl rs L k vs)),z] (.bl (!UO (oc rs L k vs))):=λ{z}=>by
  have y:=Y.lastT (F:=rT n) (s:=s) (a:=.v 0) (U:=[some (.tup (stD k vs :: tl rs L k vs)),z]) (xs:=stD k vs :: tl rs L k vs) (.r rf) (dQ _ _) (by rw[aP];omega)
  rw[lo,B]at y;rw[B];exact .cmp (.ixt (j:=0) y (.r rf) rfl) (.r rf) λ_=>rfl
 have P:=ZbA (rs:=rs) (n:=L) (k:=k) (vs:=vs);have E:∀ d∈(stD k vs :: tl rs L k vs).dropLast,∃ x o,d=.tup (x :: o):=λd u=>P d (List.dropLast_subset _ u)
 have f:=ZdV (rs:=rs) (n:=L) (k:=k) (vs:=vs);obtain⟨H,C,c⟩:=Y.dlT (F:=rT n) (s:=s) (a:=.v 0) (U:=[some (.tup (stD k vs :: tl rs L k vs)),none]) (xs:=stD k vs :: tl rs L k vs) (.r rf) st g;obtain⟨A,m,e⟩:=O (z:=some (.tup (stD k vs :: tl rs L k vs).dropLast)) H (g.trans c);cases q:UO (oc rs L k vs) with
 |true=>
  rw[q,if_pos rfl]at f;rw[q]at m;obtain⟨p,j,b,w,K,l⟩:=ZdG (F:=rT n) (s:=s) (a:=.v 1) (U:=[some (.tup (stD k vs :: tl rs L k vs)),some (.tup (stD k vs :: tl rs L k vs).dropLast)]) E (by rw[List.length_dropLast,aP];omega) (.r rf) A (g.trans (c.trans e))
  exact⟨p,j,b,Z6 (v:=c_places_done) rfl rfl ((Zb (Zi C)).trans ((Zb ((ZN m).trans Ze)).trans (Zm (ZC w)))),by rw[K,f],c.trans (e.trans l)⟩
 |false=>
  rw[q,if_neg (by decide)]at f
  rw[q]at m;obtain⟨p,w,l⟩:=Y.dlT (F:=rT n) (s:=s) (a:=.v 1) (U:=[some (.tup (stD k vs :: tl rs L k vs)),some (.tup (stD k vs :: tl rs L k vs).dropLast)]) (xs:=(stD k vs :: tl rs L k vs).dropLast) (.r rf) A (g.trans (c.trans e));obtain⟨G,j,b,N,J,I⟩:=ZdG (F:=rT n) (s:=s) (a:=.v 1) (U:=[some (.tup (stD k vs :: tl rs L k vs)),some (.tup (stD k vs :: tl rs L k vs).dropLast.dropLast)]) (λd u=>E d (List.dropLast_subset _ u)) (by rw[List.length_dropLast,List.length_dropLast,aP];omega) (.r rf) p (g.trans (c.trans (e.trans l)))
  exact⟨G,j,b,Z6 (v:=c_places_done) rfl rfl ((Zb (Zi C)).trans ((Zb ((Z5 m).trans ((Zb (Zi w)).trans Ze))).trans (Zm (ZC N)))),by rw[J,f],c.trans (e.trans (l.trans I))⟩
end
section
variable{l:Li Nat}
theorem Ua{I:Nat->Env->Prop}{bb:Bool}{body:D->Env->Za->Ot (Fl×Za)}(e:st[j]?=some (bb,xs))(l:∀ i d U st1,xs[i]?=some d->I i U->Grw st st1->∃ U' a,body d U st1=some (.nx U',a)/\Grw st1 a/\I (i+1) U'):∀ (M i:Nat) (U:Env) (st1:Za),i+M=xs.length->I i U->Grw st st1->∃ U' a,ZB body j M i U st1=some (.nx U',a)/\Grw st1 a/\I xs.length U'
 |0,i,U,st1,h,f,g=>⟨U,st1,by unfold ZB;rw[g.get e];exact if_pos (by omega),.refl,by rw[<-h];exact f⟩
 |M+1,i,U,st1,h,f,g=>by
  have hi:i < xs.length:=by omega
  obtain⟨c,n,q,k,s⟩:=l i _ U st1 (lG7 hi) f g;obtain⟨b,m,p,o,r⟩:=Ua e l M (i+1) c n (by omega) s (g.trans k)
  refine⟨b,m,?_,k.trans o,r⟩
  conv=>lhs;unfold ZB
  simp only[g.get e,lG7 hi,q];exact p
theorem V9{I:Nat->Env->Prop}{body:D->Env->Za->Ot (Fl×Za)}:∀ {xs:Li D} (a:Nat) (U:Env) (st1:Za),(∀ i d U b,xs[i]?=some d->I (a+i) U->Grw st1 b->∃ U' c,body d U b=some (.nx U',c)/\Grw b c/\I (a+i+1) U')->I a U->∃ U' b,Zp body xs U st1=some (.nx U',b)/\Grw st1 b/\I (a+xs.length) U'
 |[],a,U,st1,_,h=>⟨U,st1,rfl,.refl,h⟩
 |x :: xs,a,U,st1,k,h=>by
  obtain⟨f,m,r,j,t⟩:=k 0 x U st1 rfl h .refl;obtain⟨e,l,q,n,s⟩:=V9 (xs:=xs) (a+1) f m (λi d U b p o g=>by
   have:=k (i+1) d U b p (by rw[show a+(i+1)=a+1+i by omega];exact o) (j.trans g)
   rw[show a+(i+1)+1=a+1+i+1 by omega]at this
   exact this) t
  refine⟨e,l,?_,j.trans n,by rw[aP,show a+(xs.length+1)=a+1+xs.length by omega];exact s⟩
  show(match body x U st1 with
   |some (.nx U',st')=>Zp body xs U' st'
   |some (.ct U',st')=>Zp body xs U' st'
   |some (.bk U',st')=>some (.nx U',st')
   |some (.rt v,st')=>some (.rt v,st')
   |none=>none)=_
  rw[r];exact q
theorem W6{bb:Bool}(a:ev F e U st=some (.lst j,st1))(h:st1[j]?=some (bb,xs)):ex F (.for1 i false e q) U st=ZB (λd U s=>ex F q (Zh U i d) s) j xs.length 0 U st1:=by
 show Wo i false (ev F e) (ex F q) U st=_;unfold Wo;rw[a];show(match st1[j]? with
  |some (_,xs)=>ZB (λd U s=>ex F q (Zh U i d) s) j xs.length 0 U st1
  |none=>none)=_
 rw[h]
theorem for_tup(a:ev F e U st=some (.tup xs,st1)):ex F (.for1 i false e q) U st=Zp (λd U s=>ex F q (Zh U i d) s) xs U st1:=by
 show Wo i false (ev F e) (ex F q) U st=_;unfold Wo;rw[a];rfl
theorem Zdq(hk:k<=60):C (rT (n+1)) s 43 [.int (k:Int)] (.int ((2 ^ k:Nat):Int)):=λst g=>by
 obtain⟨U',j,f,m,y,rfl⟩:=V9 (st1:=st) (I:=λi U=>∃ y,U=[jN k,some (.int ((2 ^ i:Nat):Int)),y]) (body:=λd U s=>ex (rT n) Xl (Zh U 2 d) s) (xs:=(List.range k).map λ(k:Nat)=>D.int (k:Int)) 0 [jN k,some (.int ((2 ^ 0:Nat):Int)),none] (λi d U c t o g2=>by
  obtain⟨y,rfl⟩:=o;obtain⟨h,p,l⟩:=Y.mul (F:=rT n) (s:=c) (a:=.v 1) (b:=.i 2) (U:=[jN k,some (.int ((2 ^ (0+i):Nat):Int)),some d]) (.r rf) (.r rf) rfl c .refl;refine⟨_,h,(Zb (Zi p)).trans Ze,l,some d,?_⟩;rw[show((2 ^ (0+i+1):Nat):Int)=((2 ^ (0+i):Nat):Int) * 2 by rw[Nat.pow_succ,Int.natCast_mul];rfl]
  rfl) ⟨none,rfl⟩
 have fr:=Xy (F:=rT n) (i:=2) (e:=.v 0) (q:=Xl) (U:=[jN k,some (.int ((2 ^ 0:Nat):Int)),none]) (st:=st) (v:=(k:Int)) (by omega) (by omega) rfl
 rw[aZ]at fr;rw[aD,dY,bH]at f;exact⟨j,Z6 (v:=c_bit_of) rfl rfl ((Zb (Zi rfl)).trans ((Zb (fr.trans f)).trans (Zm (ZC rfl)))),m⟩
theorem Q1{z:Nat}:ZL (l++[z])=ZL l ||| 2 ^ z:=by unfold ZL;rw[List.foldl_append];rfl
theorem Zee(D:L<=800)(B:∀ z∈sn rs L k vs,z<=60):C (rT (n+2)) s 44 [.tup (stD k vs :: tl rs L k vs)] (.int (ZL (sn rs L k vs):Int)):=λst g=>by
 obtain⟨f,q,bb,H,m,A⟩:=JK (n:=n) (s:=s) (rs:=rs) (k:=k) (vs:=vs) D st g;have e:ev (rT (n+1)) (.call 14 (.u (.v 0)) []) [some (.tup (stD k vs :: tl rs L k vs)),some (.int ((0:Nat):Int)),none] st=some (.lst q,f):=H;obtain⟨U',t,o,x,y,rfl⟩:=Ua (I:=λi U=>∃ y,U=[some (.tup (stD k vs :: tl rs L k vs)),some (.int (ZL ((sn rs L k vs).take i):Int)),y]) (body:=λd U s=>ex (rT (n+1)) XT (Zh U 2 d) s) m (λi d U c l E g2=>by
  obtain⟨y,rfl⟩:=E;rw[aS]at l;obtain⟨z,h,rfl⟩:=dM.mp l;obtain⟨p,G,w⟩:=Y.bi (op:=.BitOr) (F:=rT (n+1)) (s:=c) (a:=.v 1) (b:=.call 43 (.u (.v 2)) []) (U:=[some (.tup (stD k vs :: tl rs L k vs)),some (.int (ZL ((sn rs L k vs).take i):Int)),jN z]) (i:=(ZL ((sn rs L k vs).take i):Int)) (j:=((2 ^ z:Nat):Int)) (k:=(ZL ((sn rs L k vs).take (i+1)):Int)) (.r rf) (.call1 (.r rf) (Zdq (B z (aU h)))) (by
   rw[List.take_succ,h,Option.toList_some,Q1];show(if 0<=(ZL ((sn rs L k vs).take i):Int)/\0<=((2 ^ z:Nat):Int) then some ((((ZL ((sn rs L k vs).take i):Int)).toNat ||| ((2 ^ z:Nat):Int).toNat:Nat):Int) else none)=_
   rw[if_pos ⟨dZ _,dZ _⟩,aZ,aZ]) c .refl
  exact⟨_,p,(Zb (Zi G)).trans Ze,w,jN z,rfl⟩) _ 0 [some (.tup (stD k vs :: tl rs L k vs)),some (.int ((0:Nat):Int)),none] f (bH _) ⟨none,rfl⟩ .refl
 rw[aD,List.take_length]at o;exact⟨t,Z6 (v:=c_seen_in) rfl rfl ((Zb (Zi rfl)).trans ((Zb ((W6 e m).trans (by rw[aD];exact o))).trans (Zm (ZC rfl)))),A.trans x⟩
end
def nxt(l:Li Str)(g:Str):Str:=l.getD ((l.idxOf g+1) % l.length) (S "")
def cnt(g:Str):Str:=if g=S "<" then S ">=" else if g=S ">=" then S "<" else if g=S "<=" then S ">" else if g=S ">" then S "<=" else if g=S "=" then S "!=" else S "="
def XB:Op->Li Op
 |.nu v=>[.nu (arI (v+1))]
 |.nm _=>[]
def sgR:Rw->Li Rw
 |.put x y g z=>[.put x y (nxt psL g) z]
 |.ifr y g z t=>[.ifr y (nxt isL g) z t]
 |_=>[]
def moR:Rw->Li Rw
 |.put x y g z=>(XB y).map (λq=>.put x q g z)++(XB z).map (λq=>.put x y g q)
 |.ifr y g z t=>(XB y).map (λq=>.ifr q g z t)++(XB z).map (λq=>.ifr y g q t)
 |.tell y=>(XB y).map .tell
 |_=>[]
def tuR:Rw->Li Rw
 |.ifr y g z t=>[.ifr y (cnt g) z t]
 |_=>[]
def ouR:Rw->Li Rw
 |.skip=>[]
 |_=>[.skip]
def swR:Rw->Li Rw
 |.put x y g z=>if y=z then [] else [.put x z g y]
 |.ifr y g z t=>if y=z then [] else [.ifr z g y t]
 |_=>[]
def faR(sz:Nat):Rw->Li Rw
 |.ifr y g z t=>if sz<=t then [] else [.ifr y g z (t+1)]
 |.go t=>if sz<=t then [] else [.go (t+1)]
 |_=>[]
variable{obj:D}
section
variable{z:Op}
theorem Zf1(h:(xs=[.kt psL,.str g]/\g∈psL/\d=.str (nxt psL g))\/(xs=[.kt isL,.str g]/\g∈isL/\d=.str (nxt isL g))):C (rT (n+1)) s 70 xs d:=by
 rcases h with⟨rfl,h,rfl⟩|⟨rfl,h,rfl⟩
 .simp only[psL,aH,bD,or_false]at h
  rcases h with rfl|rfl|rfl|rfl|rfl<;>exact .of (v:=c_behind) rfl rfl (.ret (.r λst=>by rfl))
 .simp only[isL,aH,bD,or_false]at h
  rcases h with rfl|rfl|rfl|rfl|rfl|rfl<;>exact .of (v:=c_behind) rfl rfl (.ret (.r λst=>by rfl))
theorem Zg7(h:YI m sz r):C (rT (n+2)) s 171 [obj,rwE r,.int (sz:Int)] (.tup ((sgR r).map rwE)):=by
 cases r with
 |put x y g z=>
  obtain⟨_,_,a,_⟩:=h;exact .of (v:=c_Sign_turned) rfl rfl (.yes (.r rf) (.cons (.call (xs:=[rwE (.put x y g z),.int ((3:Nat):Int),.str (nxt psL g)]) (.cons (.r rf) (.cons (.r rf) (.cons (.call (xs:=[.kt psL,.str g]) (.r rf) (Zf1 (.inl ⟨rfl,a,rfl⟩))) .nil))) (XF (i:=3) (by show 3 < 5;decide) (by show 5<=1000;decide))) .nil))
 |ifr y g z t=>
  obtain⟨_,a,_,_⟩:=h;exact .of (v:=c_Sign_turned) rfl rfl (.no (.r rf) (.yes (.r rf) (.cons (.call (xs:=[rwE (.ifr y g z t),.int ((2:Nat):Int),.str (nxt isL g)]) (.cons (.r rf) (.cons (.r rf) (.cons (.call (xs:=[.kt isL,.str g]) (.r rf) (Zf1 (.inr ⟨rfl,a,rfl⟩))) .nil))) (XF (i:=2) (by show 2 < 5;decide) (by show 5<=1000;decide))) .nil)))
 |go t=>exact .of (v:=c_Sign_turned) rfl rfl (.no (.r rf) (.no (.r rf) (.ret (.r rf))))
 |tell y=>exact .of (v:=c_Sign_turned) rfl rfl (.no (.r rf) (.no (.r rf) (.ret (.r rf))))
 |skip=>exact .of (v:=c_Sign_turned) rfl rfl (.no (.r rf) (.no (.r rf) (.ret (.r rf))))
theorem Zha(h:YI m sz r):C (rT (n+2)) s 159 [obj,rwE r,.int (sz:Int)] (.tup ((tuR r).map rwE)):=by
 cases r with
 |ifr y g z t=>
  obtain⟨_,a,_,_⟩:=h;refine .of (v:=c_Turn_turned) rfl rfl (.no (.r rf) (.ret (.cons (.call (xs:=[rwE (.ifr y g z t),.int ((2:Nat):Int),.str (cnt g)]) (.cons (.r rf) (.cons (.r rf) (.cons ?_ .nil))) (XF (i:=2) (by show 2 < 5;decide) (by show 5<=1000;decide))) .nil)))
  simp only[isL,aH,bD,or_false]at a;rcases a with rfl|rfl|rfl|rfl|rfl|rfl<;>exact .r λst=>rfl
 |put x y g z=>exact .of (v:=c_Turn_turned) rfl rfl (.yes (.r rf) (.r rf))
 |go t=>exact .of (v:=c_Turn_turned) rfl rfl (.yes (.r rf) (.r rf))
 |tell y=>exact .of (v:=c_Turn_turned) rfl rfl (.yes (.r rf) (.r rf))
 |skip=>exact .of (v:=c_Turn_turned) rfl rfl (.yes (.r rf) (.r rf))
theorem Zg5:C (rT (n+1)) s 154 [obj,rwE r,.int (sz:Int)] (.tup ((ouR r).map rwE)):=by
 cases r with
 |skip=>exact .of (v:=c_Out_turned) rfl rfl (.yes (.r rf) (.r rf))
 |put x y g z=>exact .of (v:=c_Out_turned) rfl rfl (.no (.r rf) (.ret (.r rf)))
 |ifr y g z t=>exact .of (v:=c_Out_turned) rfl rfl (.no (.r rf) (.ret (.r rf)))
 |go t=>exact .of (v:=c_Out_turned) rfl rfl (.no (.r rf) (.ret (.r rf)))
 |tell y=>exact .of (v:=c_Out_turned) rfl rfl (.no (.r rf) (.ret (.r rf)))
theorem op_eq:eqS st (opE o) (opE z)=some (decide (o=z)):=by
 cases o with
 |nm i=>cases z with
  |nm j=>
   show some (decide (S "name"=S "name")&&(decide ((i:Int)=(j:Int))&&true))=_;rw[aG rfl,cC,dL];exact congrArg some (decide_eq_decide.mpr ⟨λh=>by rw[Int.ofNat_inj.mp h],λh=>by cases h;rfl⟩)
  |nu v=>
   show some (decide (S "name"=S "number")&&(decide ((i:Int)=v)&&true))=_;rw[show decide (S "name"=S "number")=false by decide +kernel]
   exact congrArg some (aE λh=>nomatch h).symm
 |nu u=>cases z with
  |nm j=>
   show some (decide (S "number"=S "name")&&(decide (u=(j:Int))&&true))=_;rw[show decide (S "number"=S "name")=false by decide +kernel]
   exact congrArg some (aE λh=>nomatch h).symm
  |nu v=>
   show some (decide (S "number"=S "number")&&(decide (u=v)&&true))=_;rw[aG rfl,cC,dL];exact congrArg some (decide_eq_decide.mpr ⟨λh=>by rw[h],λh=>by cases h;rfl⟩)
theorem Y.neO(d:Y F s a U (opE o))(c:Y F s b U (opE z)):Y F s (.cmp .NotEq a b) U (.bl (!decide (o=z))):=.cmp d c λst=>by
 show(eqS st (opE o) (opE z)).map Bool.not=_;rw[op_eq];rfl
theorem Zg9:C (rT (n+1)) s 162 [obj,rwE r,.int (sz:Int)] (.tup ((swR r).map rwE)):=by
 cases r with
 |put x y g z=>
  refine .of (v:=c_Swap_turned) rfl rfl (.pick (k:=true&&!decide (y=z)) (.and (.r rf) λ_=>.neO (.r rf) (.r rf)) (λh=>?_) λh=>.no (.r rf) ?_)
  .have:¬y=z:=λe=>by rw[aG e]at h;cases h
   show R _ _ _ _ (.tup ((if y=z then [] else [Rw.put x z g y]).map rwE))
   rw[if_neg this];exact .ret (.r rf)
  .have:y=z:=by
    by_cases e:y=z
    .exact e
    .rw[aE e]at h;cases h
   show R _ _ _ _ (.tup ((if y=z then [] else [Rw.put x z g y]).map rwE))
   rw[if_pos this];exact .ret (.r rf)
 |ifr y g z t=>
  refine .of (v:=c_Swap_turned) rfl rfl (.no (.r rf) (.pick (k:=true&&!decide (y=z)) (.and (.r rf) λ_=>.neO (.r rf) (.r rf)) (λh=>?_) λh=>?_))
  .have:¬y=z:=λe=>by rw[aG e]at h;cases h
   show R _ _ _ _ (.tup ((if y=z then [] else [Rw.ifr z g y t]).map rwE))
   rw[if_neg this];exact .ret (.r rf)
  .have:y=z:=by
    by_cases e:y=z
    .exact e
    .rw[aE e]at h;cases h
   show R _ _ _ _ (.tup ((if y=z then [] else [Rw.ifr z g y t]).map rwE))
   rw[if_pos this];exact .ret (.r rf)
 |go t=>exact .of (v:=c_Swap_turned) rfl rfl (.no (.r rf) (.no (.r rf) (.ret (.r rf))))
 |tell y=>exact .of (v:=c_Swap_turned) rfl rfl (.no (.r rf) (.no (.r rf) (.ret (.r rf))))
 |skip=>exact .of (v:=c_Swap_turned) rfl rfl (.no (.r rf) (.no (.r rf) (.ret (.r rf))))
theorem Zg3:C (rT (n+1)) s 165 [obj,rwE r,.int (sz:Int)] (.tup ((faR sz r).map rwE)):=by
 have a:∀ {t:Nat},decide ((sz:Int)<=(t:Int))=decide (sz<=t):=λ{t}=>decide_eq_decide.mpr (by omega)
 cases r with
 |go t=>
  refine .of (v:=c_Far_turned) rfl rfl (.pick (k:=false||decide (sz<=t)) (.or (.r rf) λ_=>.cmp (x:=.int (t:Int)) (.r rf) (.r rf) λ_=>congrArg some a) (λh=>?_) λh=>?_)
  .show R _ _ _ _ (.tup ((if sz<=t then [] else [Rw.go (t+1)]).map rwE))
   rw[if_pos (of_decide_eq_true h)];exact .ret (.r rf)
  .show R _ _ _ _ (.tup ((if sz<=t then [] else [Rw.go (t+1)]).map rwE))
   rw[if_neg (of_decide_eq_false h)];exact .ret (.cons (.adT (xs:=[.str "go"]) (ys:=[.int ((t+1:Nat):Int)]) (.r rf) (.cons (by rw[bY];exact .add (i:=(t:Int)) (.r rf) (.r rf)) .nil) (by show 1+1<=_;decide)) .nil)
 |ifr y g z t=>
  refine .of (v:=c_Far_turned) rfl rfl (.pick (k:=false||decide (sz<=t)) (.or (.r rf) λ_=>.cmp (x:=.int (t:Int)) (.r rf) (.r rf) λ_=>congrArg some a) (λh=>?_) λh=>?_)
  .show R _ _ _ _ (.tup ((if sz<=t then [] else [Rw.ifr y g z (t+1)]).map rwE))
   rw[if_pos (of_decide_eq_true h)];exact .ret (.r rf)
  .show R _ _ _ _ (.tup ((if sz<=t then [] else [Rw.ifr y g z (t+1)]).map rwE))
   rw[if_neg (of_decide_eq_false h)];exact .ret (.cons (.adT (xs:=[.str "if",opE y,.str g,opE z]) (ys:=[.int ((t+1:Nat):Int)]) (.r rf) (.cons (by rw[bY];exact .add (i:=(t:Int)) (.r rf) (.r rf)) .nil) (by show 4+1<=_;decide)) .nil)
 |put x y g z=>exact .of (v:=c_Far_turned) rfl rfl (.yes (.or (k:=true) (m:=false) (.r rf) λh=>nomatch h) (.r rf))
 |tell y=>exact .of (v:=c_Far_turned) rfl rfl (.yes (.or (k:=true) (m:=false) (.r rf) λh=>nomatch h) (.r rf))
 |skip=>exact .of (v:=c_Far_turned) rfl rfl (.yes (.or (k:=true) (m:=false) (.r rf) λh=>nomatch h) (.r rf))
end
variable{i0:Nat}
section
variable{g0:Str}{z:Op}
theorem Zgc{α:Type}{b:α->D}{g:α->Li D}{E:Ot D->Env}(n:∀ y d,Zh (E y) i d=E (some d))(m:s.length<=j):∀ {l:Li α},(∀ a∈l,Ap F s j q (E (some (b a))) (E (some (b a))) (g a))->∀ {y:Ot D}{st:Za}{acc:Li D},Grw s st->st[j]?=some (true,acc)->acc.length+(l.flatMap g).length<=900->∃ e st',Zp (λd U s=>ex F q (Zh U i d) s) (l.map b) (E y) st=some (.nx (E e),st')/\Kj j st st'/\st'[j]?=some (true,acc++l.flatMap g)
 |[],_,y,st,acc,k,f,_=>⟨y,st,rfl,Grw.refl.kj,by rw[List.flatMap_nil,bB];exact f⟩
 |a :: l,h,y,st,acc,k,f,t=>by
  rw[cN,aI]at t;obtain⟨z,x,g1,r⟩:=h a lQ7 st acc k f (by omega)
  obtain⟨e,o,w,g2,p⟩:=Zgc n m (λc u=>h c (lM7 _ u)) (y:=some (b a)) (g1.grw m k) r (by rw[aI];omega)
  refine⟨e,o,?_,g1.trans g2,by rw[cN,<-bG];exact p⟩
  rw[aJ];show(match ex F q (Zh (E y) i (b a)) st with
   |some (.nx U',st')=>Zp _ (l.map b) U' st'
   |some (.ct U',st')=>Zp _ (l.map b) U' st'
   |some (.bk U',st')=>some (.nx U',st')
   |some (.rt v,st')=>some (.rt v,st')
   |none=>none)=_
  rw[n,x];exact w
theorem Zgd{α:Type}{en:α->D}{g:α->Li D}{E:Ot D->Env}{la:Nat}{bb:Bool}{all:Li α}(m:∀ y d,Zh (E y) i d=E (some d))(l:s.length<=j)(f:la≠j)(h:∀ a∈all,Ap F s j q (E (some (en a))) (E (some (en a))) (g a)):∀ (M t:Nat) {y:Ot D}{st:Za}{acc:Li D},t+M=all.length->Grw s st->st[la]?=some (bb,all.map en)->st[j]?=some (true,acc)->acc.length+((all.drop t).flatMap g).length<=900->∃ c st',ZB (λd U s=>ex F q (Zh U i d) s) la M t (E y) st=some (.nx (E c),st')/\Kj j st st'/\st'[j]?=some (true,acc++(all.drop t).flatMap g)
 |0,t,y,st,acc,u,k,b,e,_=>⟨y,st,by unfold ZB;rw[b];exact if_pos (by rw[aD];omega),Grw.refl.kj,by rw[eA (by omega),List.flatMap_nil,bB];exact e⟩
 |M+1,t,y,st,acc,u,k,b,e,v=>by
  have hi:t < all.length:=by omega
  rw[bP hi,cN,aI]at v;obtain⟨z,x,g1,p⟩:=h _ (dA hi) st acc k e (by omega)
  obtain⟨c,n,w,g2,o⟩:=Zgd m l f h M (t+1) (y:=some (en all[t])) (by omega) (g1.grw l k) ((g1.old _ (Zd b) f).trans b) p (by rw[aI];omega)
  refine⟨c,n,?_,g1.trans g2,by rw[bP hi,cN,<-bG];exact o⟩
  conv=>lhs;unfold ZB
  have r:(all.map en)[t]?=some (en all[t]):=by rw[aS,lG7 hi];rfl
  simp only[b,r,m,x];exact w
theorem Zhb{u v:α->D}{g:α->Li D}{E:Ot D->Ot D->Ot D->Env}{i':Nat}(H:∀ y z w u v,Zh (Zh (E y z w) i u) i' v=E (some u) (some v) w)(C:s.length<=j){l:Li α}:(∀ a∈l,∀ w st acc,Grw s st->st[j]?=some (true,acc)->acc.length+(g a).length<=900->∃ U' st',(∃ y z w,U'=E y z w)/\ex F q (E (some (u a)) (some (v a)) w) st=some (.nx U',st')/\Kj j st st'/\st'[j]?=some (true,acc++g a))->∀ {y z w:Ot D}{st:Za}{acc:Li D},Grw s st->st[j]?=some (true,acc)->acc.length+(l.flatMap g).length<=900->∃ d b e st',ZM (λ_=>True) (λx y U S=>ex F q (Zh (Zh U i x) i' y) S) (l.map λa=>(u a,v a)) (E y z w) st=some (.nx (E d b e),st')/\Kj j st st'/\st'[j]?=some (true,acc++l.flatMap g):=by
 induction l with
 |nil=>intro _ y z w st acc k f _;exact⟨y,z,w,st,if_pos trivial,Grw.refl.kj,by rw[List.flatMap_nil,bB];exact f⟩
 |cons a l A=>
  intro h y z w st acc k f B;rw[cN,aI]at B;obtain⟨_,K,⟨n,m,o,rfl⟩,J,g1,t⟩:=h a lQ7 w st acc k f (by omega)
  obtain⟨d,b,e,p,I,g2,r⟩:=A (λc G=>h c (lM7 _ G)) (y:=n) (z:=m) (w:=o) (g1.grw C k) t (by rw[aI];omega)
  refine⟨d,b,e,p,?_,g1.trans g2,by rw[cN,<-bG];exact r⟩
  rw[aJ,ZM,if_pos trivial];simp only[H,J];exact I
def Lf(s:Za)(f:Za->Res)(xs:Li D):Prop:=∀ st,Grw s st->∃ st' j,f st=some (.lst j,st')/\st'[j]?=some (true,xs)/\Grw st st'
theorem ZeV{b:D->Li (Ot D)}{e:D->Za->Ot (Li D×(Za->Prop))}{en g:α->D}{l:Li α}(hi:Wk F s it U e (l.map en))(hl:l.length<=1000)(h:∀ a∈l,Y F s elt (ZJ b U fr (en a)) (g a)):Lf s (ZT b e fr (ev F it) (ev F elt) (ev F (.c (.bl true))) U) (l.map g):=λst k=>by
 obtain⟨x,f,ok,r,i,q,n⟩:=hi st k;obtain⟨j,p,m⟩:=X6 (s:=f) (ok:=ok) (fe:=λd=>ev F elt (ZJ b U fr d)) (fc:=λd=>ev F (.c (.bl true)) (ZJ b U fr d)) (λ_ _=>rfl) n (λa o=>Gv.mono (h a o) (k.trans i)) f .refl
 refine⟨j++[(true,l.map g)],_,?_,Zl,(i.trans m).trans .push⟩;unfold ZT;simp only[r,q,aD,if_pos hl,p]
theorem Ap.ext(hi:U[i]?=some (jL j))(h:Lf s (ev F e U) xs):Ap F s j (.ext i e) U U xs:=λst acc g k o=>by
 obtain⟨c,q,n,l,a⟩:=h st g;have b:=a.get k;refine⟨c.set j (true,acc++xs),?_,⟨λm f d=>?_,by rw[bC];exact a.len⟩,by rw[Zk (Zd b),if_pos rfl]⟩
 .show Zaf i (ev F e) U st=_
  unfold Zaf ZeE;simp only[hi,n,b,l];rw[if_pos (by unfold Zn;omega)]
 .rw[Zk (Zd b),if_neg (Ne.symm d)]
  exact a.old m f
theorem R.gather{l:Li α}{en:α->D}{g:α->Li D}{E:Ot D->Nat->Env}(u:∀ j,Zh U i0 (.lst j)=E none j)(r:∀ y j d,Zh (E y j) i d=E (some d) j)(n:∀ y j,(E y j)[i0]?=some (jL j))(o:∀ j,Y F s e (E none j) (.tup (l.map en)))(p:∀ j,s.length<=j->∀ a∈l,Ap F s j q (E (some (en a)) j) (E (some (en a)) j) (g a))(hl:(l.flatMap g).length<=900):R F s (.seq (.set i0 (.lstE .aN)) (.seq (.for1 i false e q) (.z (.ret (.tOf (.v i0)))))) U (.tup (l.flatMap g)):=λst b=>by
 obtain⟨B,x,f⟩:=o st.length (st++[(true,[])]) (b.trans .push);obtain⟨A,h,w,m,t⟩:=Zgc (i:=i) (E:=λy=>E y st.length) (λy d=>r y st.length d) b.len (p st.length b.len) (y:=none) ((b.trans .push).trans f) (f.get Zl) (by rw[dI,bH];exact hl)
 refine⟨h,?_,(f.kj.trans m).grw (aF _) .push⟩;have k:ex F (.set i0 (.lstE .aN)) U st=some (.nx (E none st.length),st++[(true,[])]):=by rw[<-u];exact Zi rfl
 exact(Zb k).trans ((Zb ((for_tup x).trans w)).trans (Zm (ZC (Yo (c:=(true,[]++l.flatMap g)) (by show YZ i0 _ _=_;unfold YZ;rw[n]) t))))
theorem Zg4(h:YI m sz r):C (rT (n+2)) s 151 [obj,rwE r,.int (sz:Int)] (.tup ((moR r).map rwE)):=by
 have c:∀ (l:Li (Nat×Li Rw)),(∀ {s:Za},C (rT (n+1)) s 113 [rwE r] (.tup (l.map λp=>D.int (p.1:Int))))->(l.flatMap λp=>p.2.map rwE)=(moR r).map rwE->((moR r).map rwE).length<=900->(∀ p∈l,∀ j,s.length<=j->Ap (rT (n+1)) s j Yk [some obj,some (rwE r),jN sz,jL j,jN p.1] [some obj,some (rwE r),jN sz,jL j,jN p.1] (p.2.map rwE))->C (rT (n+2)) s 151 [obj,rwE r,.int (sz:Int)] (.tup ((moR r).map rwE)):=λl J I F H=>by
  rw[<-I]at F ⊢;exact .of (v:=c_More_turned) rfl rfl (.gather (i0:=3) (i:=4) (E:=λy j=>[some obj,some (rwE r),jN sz,jL j,y]) (en:=λp:Nat×Li Rw=>D.int (p.1:Int)) (g:=λp=>p.2.map rwE) (λ_=>rfl) (λ_ _ _=>rfl) (λ_ _=>rfl) (λj=>.call1 (.r rf) J) (λj A p b=>H p b j A) F)
 have one:∀ {a:Li D}{p j:Nat}{o:Op}{f:Op->Rw},rwE r=.tup a->a.length<=5->a[p]?=some (opE o)->(∀ q,.tup (a.set p (opE q))=rwE (f q))->Ap (rT (n+1)) s j Yk [some obj,some (rwE r),jN sz,jL j,jN p] [some obj,some (rwE r),jN sz,jL j,jN p] (((XB o).map f).map rwE):=λ{a p j o f} L M G K=>by
  rw[L];have B:∀ {s:Za},Y (rT (n+1)) s (.ix (.v 1) (.v 4)) [some obj,some (.tup a),jN sz,jL j,jN p] (opE o):=.ixt (j:=p) (.r rf) (.r rf) G;cases o with
  |nm i=>exact .one (.ite (k:=false) (.cmp (x:=.str "name") (.ixt (j:=0) B (.r rf) rfl) (.r rf) λ_=>rfl) .skip)
  |nu v=>
   refine .one (.ite (k:=true) (.cmp (x:=.str "number") (.ixt (j:=0) B (.r rf) rfl) (.r rf) λ_=>rfl) (.one (.app rfl ?_)))
   have:=XF (n:=n) (s:=s) (xs:=a) (i:=p) (d:=opE (.nu (arI (v+1)))) (Zd G) (by omega)
   rw[K]at this;exact .call (xs:=[.tup a,.int (p:Int),opE (.nu (arI (v+1)))]) (.cons (.r rf) (.cons (.r rf) (.cons (.cons (.r rf) (.cons (.call1 (.add (.ixt (j:=1) B (.r rf) rfl) (.r rf)) YV) .nil)) .nil))) this
 have w:∀ {o:Op},(XB o).length<=1:=λ{o}=>by cases o with
  |nm i=>exact aV _
  |nu v=>exact aF _
 have u:∀ {s:Za}{l:Li D},(match r with|.put _ _ _ _=>[D.int 2,.int 4]|.ifr _ _ _ _=>[.int 1,.int 3]|.tell _=>[.int 1]|_=>[])=l->C (rT (n+1)) s 113 [rwE r] (.tup l):=λ{s l} e=>by
  rw[<-e];cases r<;>exact .of (v:=c_operand_places) rfl rfl (.ret (.r rf))
 cases r with
 |put x y g z=>
  refine c [(2,(XB y).map λq=>.put x q g z),(4,(XB z).map λq=>.put x y g q)] (u rfl) (by show _++(_++[])=List.map rwE (_++_);rw[bB,aX]) (by show(List.map rwE (_++_)).length<=900;rw[aD,aI,aD,aD];have:=w (o:=y);have:=w (o:=z);omega) λp b j A=>?_
  simp only[aH,bD,or_false]at b;rcases b with rfl|rfl
  .exact one (f:=λq=>.put x q g z) rfl (by show 5<=5;decide) rfl λq=>rfl
  .exact one (f:=λq=>.put x y g q) rfl (by show 5<=5;decide) rfl λq=>rfl
 |ifr y g z t=>
  refine c [(1,(XB y).map λq=>.ifr q g z t),(3,(XB z).map λq=>.ifr y g q t)] (u rfl) (by show _++(_++[])=List.map rwE (_++_);rw[bB,aX]) (by show(List.map rwE (_++_)).length<=900;rw[aD,aI,aD,aD];have:=w (o:=y);have:=w (o:=z);omega) λp b j A=>?_
  simp only[aH,bD,or_false]at b;rcases b with rfl|rfl
  .exact one (f:=λq=>.ifr q g z t) rfl (by show 5<=5;decide) rfl λq=>rfl
  .exact one (f:=λq=>.ifr y g q t) rfl (by show 5<=5;decide) rfl λq=>rfl
 |tell y=>
  refine c [(1,(XB y).map .tell)] (u rfl) (by show _++[]=_;rw[bB];rfl) (by show(List.map rwE (List.map _ _)).length<=900;rw[aD,aD];have:=w (o:=y);omega) λp b j A=>?_
  rw[aO.mp b];exact one (f:=.tell) rfl (by show 2<=5;decide) rfl λq=>rfl
 |go t=>exact c [] (u rfl) rfl (aV _) λp b=>nomatch b
 |skip=>exact c [] (u rfl) rfl (aV _) λp b=>nomatch b
end
structure Stp where
 c:Nat
 t:Nat
 v:Nat
 w:Str
 f:Rw->List Rw
def stp(sz:Nat):Li Stp:=[⟨169,171,170,S "sign",sgR⟩,⟨149,151,150,S "more",moR⟩,⟨157,159,158,S "turn",tuR⟩,⟨152,154,153,S "out",ouR⟩,⟨160,162,161,S "swap",swR⟩,⟨163,165,164,S "far",faR sz⟩]
def tD(p:Nat×Str×Rw):D:=.tup [.int (p.1:Int),.str p.2.1,rwE p.2.2]
def fkR(sz k:Nat)(r:Rw):Li (Nat×Str×Rw):=(stp sz).flatMap λp=>(p.f r).map λq=>(k,p.w,q)
def fkL(rs:Li Rw):Li (Nat×Str×Rw):=rs.zipIdx.flatMap λp=>fkR rs.length p.2 p.1
theorem Y.methO{c:Nat}{tab:Li (Nat×Nat)}(p:Y F s e U (.obj c))(o:tab.lookup c=some j)(q:Y F s a U (.tup xs))(h:C F s j (.obj c :: xs) d):Y F s (.meth tab e a) U d:=λst g=>by
 obtain⟨f,u,i⟩:=p st g;obtain⟨m,t,k⟩:=q f (g.trans i);obtain⟨l,r,n⟩:=h m (g.trans (i.trans k));refine⟨l,?_,i.trans (k.trans n)⟩;show Wy F tab (ev F e) (ev F a) U st=_;unfold Wy;rw[u];show(match tab.lookup c with
  |some j=>(match ev F a U f with
   |some (.tup xs,b)=>F j (.obj c :: xs) b
   |_=>none)
  |none=>none)=_
 rw[o];show(match ev F a U f with
   |some (.tup xs,b)=>F j (.obj c :: xs) b
   |_=>none)=_
 rw[t];exact r
theorem Ze0:(moR r).length<=2:=by
 have a:∀ {o:Op},(XB o).length<=1:=λ{o}=>by
  cases o with
  |nm i=>exact aV _
  |nu v=>exact aF _
 cases r with
 |put x y g z=>show(_++_:Li Rw).length<=2;rw[aI,aD,aD];have:=a (o:=y);have:=a (o:=z);omega
 |ifr y g z t=>show(_++_:Li Rw).length<=2;rw[aI,aD,aD];have:=a (o:=y);have:=a (o:=z);omega
 |tell y=>show(List.map _ _).length<=2;rw[aD];have:=a (o:=y);omega
 |go t=>exact aV _
 |skip=>exact aV _
theorem QQ{p:Stp}(a:p∈stp sz):(p.f r).length<=2:=by
 simp only[stp,aH,bD,or_false]at a;rcases a with rfl|rfl|rfl|rfl|rfl|rfl
 .cases r<;>first|exact aV _|exact(by decide:1<=2)
 .exact Ze0
 .cases r<;>first|exact aV _|exact(by decide:1<=2)
 .cases r<;>first|exact aV _|exact(by decide:1<=2)
 .cases r with
  |put x y g z=>show(if y=z then [] else [Rw.put x z g y]).length<=2;split<;>first|exact aV _|exact(by decide:1<=2)
  |ifr y g z t=>show(if y=z then [] else [Rw.ifr z g y t]).length<=2;split<;>first|exact aV _|exact(by decide:1<=2)
  |_=>exact aV _
 .cases r with
  |go t=>show(if sz<=t then [] else [Rw.go (t+1)]).length<=2;split<;>first|exact aV _|exact(by decide:1<=2)
  |ifr y g z t=>show(if sz<=t then [] else [Rw.ifr y g z (t+1)]).length<=2;split<;>first|exact aV _|exact(by decide:1<=2)
  |_=>exact aV _
theorem WX{p:Stp}(a:p∈stp sz)(h:YI m sz r):C (rT (n+2)) s p.t [.obj p.c,rwE r,.int (sz:Int)] (.tup ((p.f r).map rwE))/\C (rT (n+2)) s p.v [.obj p.c] (.str p.w)/\List.lookup p.c [(146,148),(169,171),(149,151),(157,159),(152,154),(160,162),(163,165)]=some p.t/\List.lookup p.c [(146,147),(169,170),(149,150),(157,158),(152,153),(160,161),(163,164)]=some p.v:=by
 simp only[stp,aH,bD,or_false]at a;rcases a with rfl|rfl|rfl|rfl|rfl|rfl
 .exact⟨Zg7 h,.of (v:=c_Sign_word) rfl rfl (.ret (.r rf)),rfl,rfl⟩
 .exact⟨Zg4 h,.of (v:=c_More_word) rfl rfl (.ret (.r rf)),rfl,rfl⟩
 .exact⟨Zha h,.of (v:=c_Turn_word) rfl rfl (.ret (.r rf)),rfl,rfl⟩
 .exact⟨Zg5,.of (v:=c_Out_word) rfl rfl (.ret (.r rf)),rfl,rfl⟩
 .exact⟨Zg9,.of (v:=c_Swap_word) rfl rfl (.ret (.r rf)),rfl,rfl⟩
 .exact⟨Zg3,.of (v:=c_Far_word) rfl rfl (.ret (.r rf)),rfl,rfl⟩
theorem Zgs{e:Nat}{p:Stp}(i:Rs m rs)(d:p∈stp rs.length)(h:YI m rs.length r):Ap (rT (n+3)) s j XI [some (pgD tk m rs),some (.tup (rs.map rwE)),jL e,jL j,jN k,some (rwE r),some (.obj p.c)] [some (pgD tk m rs),some (.tup (rs.map rwE)),jL e,jL j,jN k,some (rwE r),some (.obj p.c)] (((p.f r).map λq=>(k,p.w,q)).map tD):=by
 refine .one (.ext rfl ?_);rw[bL];refine ZeV (b:=one) (en:=rwE) (g:=tD ∘ λq=>(k,p.w,q)) (l:=p.f r) (.of (x:=.tup ((p.f r).map rwE)) (.methO (xs:=[rwE r,.int (rs.length:Int)]) (.r rf) (WX (n:=n) (s:=s) d h).2.2.1 (.cons (.r rf) (.cons ?_ .nil)) ?_) λst=>rfl) (by have:=QQ (r:=r) d;omega) λq o=>.cons (.r rf) (.cons (.methO (xs:=[]) (.r rf) (WX (n:=n) (s:=s) d h).2.2.2 (.r rf) ?_) (.cons (.r rf) .nil))
 .have:=Y.lnT (F:=rT (n+3)) (s:=s) (a:=.v 1) (U:=[some (pgD tk m rs),some (.tup (rs.map rwE)),jL e,jL j,jN k,some (rwE r),some (.obj p.c)]) (xs:=rs.map rwE) (.r rf)
  rw[aD]at this;exact this
 .exact(WX (n:=n+1) d h).1
 .exact(WX (n:=n+1) d h).2.1
theorem ZeF:(fkR sz k r).length<=12:=by
 have h:∀ l:Li Stp,(∀ p∈l,(p.f r).length<=2)->(l.flatMap λp=>(p.f r).map λq=>(k,p.w,q)).length<=2 * l.length:=λl=>by
  induction l with
  |nil=>intro _;exact aF _
  |cons p l a=>
   intro h;rw[cN,aI,aD,aP];have e:=h p lQ7;have d:=a λq b=>h q (lM7 _ b)
   omega
 exact h (stp sz) λp c=>QQ c
theorem Zab:∀ {rs:Li Rw}{k:Nat},Wn k (rs.map rwE)=(rs.zipIdx k).map λp=>(D.int (p.2:Int),rwE p.1)
 |[],_=>rfl
 |r :: rs,k=>by
  rw[aJ,Wn,Zab,List.zipIdx_cons,aJ]
theorem Xb:(fkL rs).length<=12 * rs.length:=by
 have h:∀ {l:Li (Rw×Nat)},(l.flatMap λp=>fkR rs.length p.2 p.1).length<=12 * l.length:=λ{l}=>by
  induction l with
  |nil=>exact aF _
  |cons p l a=>
   rw[cN,aI,aP];have:=ZeF (sz:=rs.length) (k:=p.2) (r:=p.1);omega
 have:=h (l:=rs.zipIdx);rw[List.length_zipIdx]at this;exact this
theorem Qf(h:Rs m rs):C (rT (n+4)) s 172 [pgD tk m rs] (.tup ((fkL rs).map tD)):=λst g=>by
 have fl:=Xb (rs:=rs);have R:=h.l;have r:ex (rT (n+3)) (.set 2 (.lstE (.aC (.new 169) (.aC (.new 149) (.aC (.new 157) (.aC (.new 152) (.aC (.new 160) (.u (.new 163))))))))) [some (pgD tk m rs),some (.tup (rs.map rwE)),none,none,none,none,none] st=some (.nx [some (pgD tk m rs),some (.tup (rs.map rwE)),jL st.length,none,none,none,none],st++[(true,(stp rs.length).map λp=>.obj p.c)]):=Zi rfl
 have b:(st++[(true,(stp rs.length).map λp=>D.obj p.c)])[st.length]?=some (true,(stp rs.length).map λp=>.obj p.c):=Zl
 obtain⟨a,d⟩:∃ a,st++[(true,(stp rs.length).map λp=>D.obj p.c)]=a:=⟨_,rfl⟩
 rw[d]at r b;have g2:Grw st a:=by rw[<-d];exact .push
 have H:ex (rT (n+3)) (.set 3 (.lstE .aN)) [some (pgD tk m rs),some (.tup (rs.map rwE)),jL st.length,none,none,none,none] a=some (.nx [some (pgD tk m rs),some (.tup (rs.map rwE)),jL st.length,jL a.length,none,none,none],a++[(true,[])]):=Zi rfl;have M:=Zd b;obtain⟨B,A,e,o,Q,J,x⟩:=Zhb (F:=rT (n+3)) (s:=a) (j:=a.length) (q:=XJ) (i:=4) (i':=5) (E:=λy z w=>[some (pgD tk m rs),some (.tup (rs.map rwE)),jL st.length,jL a.length,y,z,w]) (u:=λp:Rw×Nat=>D.int (p.2:Int)) (v:=λp=>rwE p.1) (g:=λp=>(fkR rs.length p.2 p.1).map tD) (l:=rs.zipIdx) (λ_ _ _ _ _=>rfl) (aF _) (λp L w st1 acc g1 N k=>by
  have ok:YI m rs.length p.1:=h.ok _ (List.fst_mem_of_mem_zipIdx L);obtain⟨e,G,P,I,t⟩:=Zgd (F:=rT (n+3)) (s:=a) (j:=a.length) (q:=XI) (i:=6) (la:=st.length) (bb:=true) (E:=λw=>[some (pgD tk m rs),some (.tup (rs.map rwE)),jL st.length,jL a.length,jN p.2,some (rwE p.1),w]) (en:=λp:Stp=>D.obj p.c) (g:=λq=>((q.f p.1).map λz=>(p.2,q.w,z)).map tD) (all:=stp rs.length) (λ_ _=>rfl) (aF _) (by omega) (λq K=>Zgs h K ok) 6 0 (y:=w) rfl g1 (g1.get b) N (by rw[bW];rw[show(stp rs.length).flatMap (λq=>((q.f p.1).map λz=>(p.2,q.w,z)).map tD)=(fkR rs.length p.2 p.1).map tD from(eB ..).symm];exact k)
  rw[bW,show(stp rs.length).flatMap (λq=>((q.f p.1).map λz=>(p.2,q.w,z)).map tD)=(fkR rs.length p.2 p.1).map tD from(eB ..).symm]at t
  exact⟨_,G,⟨_,_,e,rfl⟩,(Zb ((W6 (bb:=true) (xs:=(stp rs.length).map λp=>.obj p.c) rfl (g1.get b)).trans P)).trans Ze,I,t⟩) (y:=none) (z:=none) (w:=none) (.push:Grw a (a++[(true,[])])) Zl (by rw[dI,bH,<-eB,aD];show(fkL rs).length<=900;omega)
 rw[dR,<-eB]at x;have O:ex (rT (n+3)) (.forE 4 5 (.v 1) XJ) [some (pgD tk m rs),some (.tup (rs.map rwE)),jL st.length,jL a.length,none,none,none] (a++[(true,[])])=some (.nx [some (pgD tk m rs),some (.tup (rs.map rwE)),jL st.length,jL a.length,B,A,e],o):=by
  rw[<-Q,<-Zab];rfl
 refine⟨o,Z6 (v:=c_fakes) rfl rfl ((Zb (Zi rfl)).trans ((Zb r).trans ((Zb H).trans ((Zb O).trans (Zm (ZC (Yo (c:=(true,(fkL rs).map tD)) rfl x))))))),?_⟩;exact g2.trans (J.grw (aF _) .push)
section
variable{q:Rw}{z:Op}{v:Int}
theorem ZeO(h:Sm v):arI (v+1)≠v:=by
 unfold Sm at h;unfold arI;have:=Zx (v+1+1000000000) (j:=2000000000) (by decide)
 intro e;have a:=Int.mul_ediv_add_emod (v+1+1000000000) 2000000000;generalize (v+1+1000000000) / 2000000000=u at *
 omega
theorem Wr(h:X1 m o):∀ q∈XB o,X1 m q/\q≠o:=λq a=>by
 cases o with
 |nm i=>cases a
 |nu v=>
  rw[aO.mp a];exact⟨Vy,λe=>ZeO h (by injection e)⟩
theorem ZfR:(∀ g∈psL,nxt psL g∈psL/\nxt psL g≠g)/\∀ g∈isL,(nxt isL g∈isL/\nxt isL g≠g)/\(cnt g∈isL/\cnt g≠g)/\nxt isL g≠cnt g:=by decide +kernel
theorem ZfT(h:YI m sz r){p:Stp}(b:p∈stp sz):∀ q∈p.f r,YI m sz q:=λq hq=>by
 simp only[stp,aH,bD,or_false]at b;rcases b with rfl|rfl|rfl|rfl|rfl|rfl
 .cases r with
  |put x y g z=>rw[aO.mp hq];exact⟨h.1,h.2.1,(ZfR.1 g h.2.2.1).1,h.2.2.2⟩
  |ifr y g z t=>rw[aO.mp hq];exact⟨h.1,(ZfR.2 g h.2.1).1.1,h.2.2⟩
  |_=>cases hq
 .cases r with
  |put x y g z=>
   rcases bE.mp hq with hq|hq
   .obtain⟨u,a,rfl⟩:=aR.mp hq;exact⟨h.1,(Wr h.2.1 u a).1,h.2.2⟩
   .obtain⟨u,a,rfl⟩:=aR.mp hq;exact⟨h.1,h.2.1,h.2.2.1,(Wr h.2.2.2 u a).1⟩
  |ifr y g z t=>
   rcases bE.mp hq with hq|hq
   .obtain⟨u,a,rfl⟩:=aR.mp hq;exact⟨(Wr h.1 u a).1,h.2⟩
   .obtain⟨u,a,rfl⟩:=aR.mp hq;exact⟨h.1,h.2.1,(Wr h.2.2.1 u a).1,h.2.2.2⟩
  |tell y=>obtain⟨u,a,rfl⟩:=aR.mp hq;exact(Wr h u a).1
  |_=>cases hq
 .cases r with
  |ifr y g z t=>rw[aO.mp hq];exact⟨h.1,(ZfR.2 g h.2.1).2.1.1,h.2.2⟩
  |_=>cases hq
 .cases r with
  |skip=>cases hq
  |_=>rw[aO.mp hq];trivial
 .cases r with
  |put x y g z=>
   have hq:q∈if y=z then [] else [Rw.put x z g y]:=hq
   split at hq
   .cases hq
   .rw[aO.mp hq];exact⟨h.1,h.2.2.2,h.2.2.1,h.2.1⟩
  |ifr y g z t=>
   have hq:q∈if y=z then [] else [Rw.ifr z g y t]:=hq
   split at hq
   .cases hq
   .rw[aO.mp hq];exact⟨h.2.2.1,h.2.1,h.1,h.2.2.2⟩
  |_=>cases hq
 .cases r with
  |go t=>
   have hq:q∈if sz<=t then [] else [Rw.go (t+1)]:=hq
   split at hq
   .cases hq
   .rw[aO.mp hq];show t+1<=sz;omega
  |ifr y g z t=>
   have hq:q∈if sz<=t then [] else [Rw.ifr y g z (t+1)]:=hq
   split at hq
   .cases hq
   .rw[aO.mp hq];exact⟨h.1,h.2.1,h.2.2.1,by omega⟩
  |_=>cases hq
theorem W4{p:Nat×Str×Rw}(d:Rs m rs)(h:p∈fkL rs):p.1 < rs.length/\YI m rs.length p.2.2:=by
 obtain⟨u,b,f⟩:=List.mem_flatMap.mp h;obtain⟨t,c,e⟩:=List.mem_flatMap.mp f;obtain⟨q,a,rfl⟩:=aR.mp e;exact⟨by have:=List.snd_lt_of_mem_zipIdx b;simpa using this,ZfT (d.ok _ (List.fst_mem_of_mem_zipIdx b)) c q a⟩
theorem Rs.set(a:Rs m rs)(h:YI m rs.length q):Rs m (rs.set k q):=by
 refine⟨by rw[bC];exact a.l,λr h'=>?_⟩
 rw[bC];rcases List.mem_or_eq_of_mem_set h' with h'|h'
 .exact a.ok r h'
 .rw[h'];exact h
def cdL(rs:Li Rw):Li (Nat×Rw):=(fkL rs).map λp=>(p.1,p.2.2)
end
variable{bb:Bool}
section
variable{i j:Int}
theorem QD{k:Str}:∀ {M:Li Str},YC k (M.map D.str)=some (decide (k∈M))
 |[]=>rfl
 |x :: M=>by
  show(YC k (M.map D.str)).map (λb=>decide (x=k)||b)=_
  rw[QD];show some (decide (x=k)||decide (k∈M))=_;rw[show decide (k∈x :: M)=(decide (x=k)||decide (k∈M)) by rw[<-dB];exact decide_eq_decide.mpr ⟨λh=>(aH.mp h).imp Eq.symm id,λh=>aH.mpr (h.imp Eq.symm id)⟩]
theorem Y.inL{l:Li Str}(j:Y F s a U (.str g))(i:Lv s (ev F b U) (l.map D.str)):Y F s (.cmp .In a b) U (.bl (decide (g∈l))):=λst e=>by
 obtain⟨f,n,d⟩:=j st e;obtain⟨c,q,bb,m,k,h⟩:=i f (e.trans d);refine⟨c,?_,d.trans h⟩;show Zw (ev F a) (ev F b) (Z3 .In) U st=_;unfold Zw;simp only[n,m];show Z3 .In (.str g) (.lst q) c=_;unfold Z3;have:Xf .In (.str g) (.lst q) c=some (decide (g∈l)):=by
  show(match c[q]? with
   |some (_,xs)=>YC g xs
   |none=>none)=_
  rw[k];exact QD
 rw[this]
theorem Xu:C (rT (n+1)) s 89 [.int i] (.int (arI i)):=.of (v:=c__law_round) rfl rfl (.ret (.arx (.r rf)))
theorem Y.eq0(b:Y F s a U (.int j)):Y F s (.cmp .Eq a (.i 0)) U (.bl (decide (j=0))):=.cmp b (.r rf) λ_=>rfl
theorem Zea(hi:Sm i)(b:Sm j):C (rT (n+2)) s 187 [.int i,.str g,.int j] (.int (rkI i g j)):=by
 unfold rkI;refine .of (v:=c__law_sum) rfl rfl (.pick (.eqs (.r rf) (.r rf)) (λh=>?_) λh=>.pick (.eqs (.r rf) (.r rf)) (λa=>?_) λa=>.pick (.eqs (.r rf) (.r rf)) (λd=>?_) λd=>.pick (.eqs (.r rf) (.r rf)) (λe=>?_) λe=>?_)
 .rw[if_pos (of_decide_eq_true h)];exact .ret (.call1 (.add (.r rf) (.r rf)) Xu)
 .rw[if_neg (of_decide_eq_false h),if_pos (of_decide_eq_true a)];exact .ret (.call1 (.sub (.r rf) (.r rf)) Xu)
 .rw[if_neg (of_decide_eq_false h),if_neg (of_decide_eq_false a),if_pos (of_decide_eq_true d)];exact .ret (.call1 (.mul (.r rf) (.r rf) (Vd b)) Xu)
 .rw[if_neg (of_decide_eq_false h),if_neg (of_decide_eq_false a),if_neg (of_decide_eq_false d),if_pos (of_decide_eq_true e)]
  refine .ret (.ife (.eq0 (.r rf)) ?_);by_cases c:j=0
  .rw[aG c,if_pos c];exact .r rf
  .rw[aE c,if_neg c];exact .call1 (.fdv (.r rf) (.r rf) c b) Xu
 .rw[if_neg (of_decide_eq_false h),if_neg (of_decide_eq_false a),if_neg (of_decide_eq_false d),if_neg (of_decide_eq_false e)]
  refine .ret (.ife (.eq0 (.r rf)) ?_);by_cases c:j=0
  .rw[aG c,if_pos c];exact .r rf
  .rw[aE c,if_neg c]
   refine .sub (.r rf) (.bi (i:=j) (j:=fdI i j) (.r rf) (.fdv (.r rf) (.r rf) c b) ?_);show(if Yi j||Yi (fdI i j) then some (j * fdI i j) else none)=_
   rw[Vd b];rfl
theorem Zf5(o:g∈isL):C (rT (n+1)) s 33 [.int i,.str g,.int j] (.bl (soI i g j)):=by
 have l:∀ {F:Nat->Fn}{U:Env}{a b c:Str},Lv s (ev F (.lstE (.aC (.c (.str a)) (.aC (.c (.str b)) (.u (.c (.str c)))))) U) ([a,b,c].map D.str):=.mk (.r rf);have e:∀ {k:Bool},k=soI i g j->C (rT (n+1)) s 33 [.int i,.str g,.int j] (.bl k)->C (rT (n+1)) s 33 [.int i,.str g,.int j] (.bl (soI i g j)):=λq p=>q ▸ p
 have d:g=S "<"\/g=S "<="\/g=S "="\/g=S ">="\/g=S ">"\/g=S "!=":=by simpa[isL] using o
 by_cases h:i < j
 .refine e ?_ (.of (v:=c__law_so) rfl rfl (.yes (.cmp (.r rf) (.r rf) λ_=>congrArg some (aG h)) (.inL (.r rf) l)))
  rcases d with rfl|rfl|rfl|rfl|rfl|rfl
  .exact(by decide +kernel:decide (S "<"∈[S "<",S "<=",S "!="])=true).trans (aG h).symm
  .exact(by decide +kernel:decide (S "<="∈[S "<",S "<=",S "!="])=true).trans (aG (by omega:i<=j)).symm
  .exact(by decide +kernel:decide (S "="∈[S "<",S "<=",S "!="])=false).trans (aE (by omega:¬i=j)).symm
  .exact(by decide +kernel:decide (S ">="∈[S "<",S "<=",S "!="])=false).trans (aE (by omega:¬j<=i)).symm
  .exact(by decide +kernel:decide (S ">"∈[S "<",S "<=",S "!="])=false).trans (aE (by omega:¬j < i)).symm
  .show _=!decide (i=j)
   rw[aE (by omega:¬i=j)];decide +kernel
 .have m:Y (rT n) s (.cmp .Lt (.v 0) (.v 2)) [jI i,some (.str g),jI j] (.bl false):=.cmp (.r rf) (.r rf) λ_=>congrArg some (aE h)
  by_cases f:j < i
  .refine e ?_ (.of (v:=c__law_so) rfl rfl (.no m (.yes (.cmp (.r rf) (.r rf) λ_=>congrArg some (aG f)) (.inL (.r rf) l))))
   rcases d with rfl|rfl|rfl|rfl|rfl|rfl
   .exact(by decide +kernel:decide (S "<"∈[S ">",S ">=",S "!="])=false).trans (aE h).symm
   .exact(by decide +kernel:decide (S "<="∈[S ">",S ">=",S "!="])=false).trans (aE (by omega:¬i<=j)).symm
   .exact(by decide +kernel:decide (S "="∈[S ">",S ">=",S "!="])=false).trans (aE (by omega:¬i=j)).symm
   .exact(by decide +kernel:decide (S ">="∈[S ">",S ">=",S "!="])=true).trans (aG (by omega:j<=i)).symm
   .exact(by decide +kernel:decide (S ">"∈[S ">",S ">=",S "!="])=true).trans (aG f).symm
   .show _=!decide (i=j)
    rw[aE (by omega:¬i=j)];decide +kernel
  .refine e ?_ (.of (v:=c__law_so) rfl rfl (.no m (.no (.cmp (.r rf) (.r rf) λ_=>congrArg some (aE f)) (.ret (.inL (.r rf) l)))))
   rcases d with rfl|rfl|rfl|rfl|rfl|rfl
   .exact(by decide +kernel:decide (S "<"∈[S "<=",S "=",S ">="])=false).trans (aE h).symm
   .exact(by decide +kernel:decide (S "<="∈[S "<=",S "=",S ">="])=true).trans (aG (by omega:i<=j)).symm
   .exact(by decide +kernel:decide (S "="∈[S "<=",S "=",S ">="])=true).trans (aG (by omega:i=j)).symm
   .exact(by decide +kernel:decide (S ">="∈[S "<=",S "=",S ">="])=true).trans (aG (by omega:j<=i)).symm
   .exact(by decide +kernel:decide (S ">"∈[S "<=",S "=",S ">="])=false).trans (aE f).symm
   .show _=!decide (i=j)
    rw[aG (by omega:i=j)];decide +kernel
theorem JH(b:Vs m vs)(h:X1 m o)(a:s[w]?=some (bb,inZ vs)):C (rT (n+1)) s 34 [opE o,.lst w] (.int (woI vs o)):=by
 cases o with
 |nm i=>exact .of (v:=c__law_worth) rfl rfl (.yes (.r rf) (.ixl (j:=i) a (.r rf) (.r rf) (Zd2 b h)))
 |nu v=>exact .of (v:=c__law_worth) rfl rfl (.no (.r rf) (.ret (.r rf)))
end
structure Kb(b kp:Nat)(st st':Za):Prop where
 old:∀ i,i < st.length->i≠b->i≠kp->st'[i]?=st[i]?
 len:st.length<=st'.length
def whB:CS->CE×CS
 |.seq _ (.seq _ (.seq _ (.seq (.whl c b) _)))=>(c,b)
 |_=>(.nop,.skip)
def lrB:CS:=(whB c__law_run.body).2
variable{bo kp:Nat}
theorem Grw.kb(g:Grw st st'):Kb bo kp st st':=⟨λi h _ _=>g.old i h,g.len⟩
theorem Kb.trans(a:Kb bo kp st st1)(b:Kb bo kp st1 st'):Kb bo kp st st':=⟨λi h d c=>(b.old i (aT h a.len) d c).trans (a.old i h d c),aK a.len b.len⟩
theorem Kb.get{c:ZI}(k:Kb bo kp st st')(h:st[j]?=some c)(b:j≠bo)(a:j≠kp):st'[j]?=some c:=(k.old j (Zd h) b a).trans h
theorem Kb.setK{c:ZI}:Kb bo kp st (st.set kp c):=⟨λi h b a=>by rw[bI (Ne.symm a)],by rw[bC];exact aF _⟩
theorem Kb.setB{c:ZI}:Kb bo kp st (st.set bo c):=⟨λi h a b=>by rw[bI (Ne.symm a)],by rw[bC];exact aF _⟩
theorem Kb.grw(k:Kb bo kp st st')(b:s.length<=bo)(a:s.length<=kp)(g:Grw s st):Grw s st':=⟨λi h=>(k.old i (aT h g.len) (by omega) (by omega)).trans (g.old i h),aK g.len k.len⟩
abbrev loE(m:Nat)(rs:Li Rw)(ins L:D)(w:Nat)(k:Int)(j:Nat)(z u:Ot D):Env:=[some (.tup (rs.map rwE)),jN m,some ins,some L,jL w,jI k,jL j,z,u]
theorem ZgJ(h:YI m rs.length r)(hk:k < rs.length):pkN k vs r<=rs.length:=by
 cases r with
 |put x y g z=>exact hk
 |ifr y g z t=>show(if _ then t else k+1)<=_;split;exact h.2.2.2;exact hk
 |go t=>exact h
 |tell y=>exact hk
 |skip=>exact hk
theorem Zd3{v:D}{p:Nat}(d:ev F e U st=some (v,st1))(hi:U[i0]?=some (jL w))(c:ev F a U st1=some (.int (p:Int),st1))(h:st1[w]?=some (true,xs))(f:p < xs.length):ex F (.put i0 a e) U st=some (.nx U,st1.set w (true,xs.set p v)):=by
 show U0 i0 (ev F a) (ev F e) U st=_;unfold U0;simp only[d,hi,c];show(match Wc w (p:Int) v st1 with
  |some b=>some (Fl.nx U,b)
  |none=>none)=_
 unfold Wc ixN;simp only[h];rw[if_pos (by omega),if_pos (by omega),aZ]
theorem Ux{i:Nat}(hi:U[i]?=some (jL j))(a:ev F e U st=some (d,st1))(h:st1[j]?=some (true,acc))(hl:acc.length < 900):ex F (.app i e) U st=some (.nx U,st1.set j (true,acc++[d])):=by
 show UE i (ev F e) U st=_;unfold UE QY;simp only[hi,a,h];rw[if_pos (by unfold Zn;omega)]
theorem ZcH{ins L:D}{z u:Ot D}(hr:Rs m rs)(W:Vs m vs)(hk:k < rs.length)(h:st[w]?=some (true,inZ vs))(hj:st[j]?=some (true,acc))(V:w≠j)(hl:acc.length < 900):match mv rs k vs with
  |.inl d=>∃ st',Kb w j st st'/\st'[j]?=some (true,acc++[.int (k:Int)])/\ex (rT (n+3)) lrB (loE m rs ins L w k j z u) st=some (.rt (.tup [d,.lst j]),st')
  |.inr p=>∃ st' Z u',Kb w j st st'/\st'[w]?=some (true,inZ p.2)/\st'[j]?=some (true,acc++[.int (k:Int)])/\ex (rT (n+3)) lrB (loE m rs ins L w k j z u) st=some (.nx (loE m rs ins L w p.1 j Z u'),st'):=by
 unfold mv;have q:rs[k]?=some rs[k]:=lG7 hk;generalize rs[k]=r at q;rw[q];have ok:=hr.ok r (aU q);have y7:Y (rT (n+3)) st (.ix (.v 0) (.v 5)) (loE m rs ins L w k j z u) (rwE r):=.ixt (j:=k) (xs:=rs.map rwE) (.r rf) (.r rf) (by rw[aS,q];rfl)
 obtain⟨s2,e2,P⟩:=y7 st .refl;have ap:=Ux (F:=rT (n+3)) (e:=.v 5) (U:=loE m rs ins L w k j (some (rwE r)) u) (i:=6) rfl rfl (P.get hj) hl;obtain⟨G,B⟩:∃ G,s2.set j (true,acc++[.int (k:Int)])=G:=⟨_,rfl⟩;rw[B]at ap;have ja:G[j]?=some (true,acc++[.int (k:Int)]):=by rw[<-B,Zk (Zd (P.get hj)),if_pos rfl]
 have wa:G[w]?=some (true,inZ vs):=by rw[<-B,Zk (Zd (P.get hj)),if_neg (Ne.symm V)];exact P.get h
 have ka:Kb w j st G:=by rw[<-B];exact P.kb.trans .setK
 have y5:Y (rT (n+3)) G (.bin .Add (.v 5) (.i 1)) (loE m rs ins L w k j (some (rwE r)) u) (.int ((k+1:Nat):Int)):=by rw[bY];exact .add (.r rf) (.r rf)
 obtain⟨y,e3,k3⟩:=y5 G .refl;have E:=k3.get wa;have Q:=k3.get ja;have O:Kb w j st y:=ka.trans k3.kb;have pre:∀ {H},ex (rT (n+3)) _ (loE m rs ins L w ((k+1:Nat):Int) j (some (rwE r)) u) y=H->ex (rT (n+3)) lrB (loE m rs ins L w k j z u) st=H:=λ{H} hh=>(Zb (Zi e2)).trans ((Zb ap).trans ((Zb (Zi e3)).trans hh))
 have N:∀ {s:Za}{o:Op}{a:CE}{k':Int}{u:Ot D},X1 m o->s[w]?=some (true,inZ vs)->Y (rT (n+3)) s a (loE m rs ins L w k' j (some (rwE r)) u) (opE o)->Y (rT (n+3)) s (.call 34 (.aC a (.u (.v 4))) []) (loE m rs ins L w k' j (some (rwE r)) u) (.int (woI vs o)):=λ{s o a k' u} ho V ha=>.call (xs:=[opE o,.lst w]) (.cons ha (.cons (.r rf) .nil)) (JH (n:=n+2) W ho V)
 cases r with
 |tell c=>
  obtain⟨I,K,A⟩:=Y.cons (F:=rT (n+3)) (s:=y) (a:=.tupE (.aC (.t "told") (.u (.call 34 (.aC (.ix (.v 7) (.i 1)) (.u (.v 4))) [])))) (b:=.aC (.v 6) .aN) (U:=loE m rs ins L w ((k+1:Nat):Int) j (some (rwE (.tell c))) u) (.cons (.r rf) (.cons (N (a:=.ix (.v 7) (.i 1)) ok E (.r rf)) .nil) (by show 1 < 1000;decide)) (.r rf) (by show 1 < 1000;decide) y .refl
  exact⟨I,O.trans A.kb,A.get Q,pre (Zm ((Z5 rfl).trans (Zm (ZC K))))⟩
 |put M c x g=>
  obtain⟨hx,T,hg,S⟩:=ok;obtain⟨I,K,A⟩:=Y.call (F:=rT (n+3)) (s:=y) (f:=187) (ds:=[]) (xs:=[.int (woI vs c),.str x,.int (woI vs g)]) (U:=loE m rs ins L w ((k+1:Nat):Int) j (some (rwE (.put M c x g))) u) (.cons (a:=.call 34 (.aC (.ix (.v 7) (.i 2)) (.u (.v 4))) []) (N T E (.r rf)) (.cons (a:=.ix (.v 7) (.i 3)) (.r rf) (.cons (N (a:=.ix (.v 7) (.i 4)) S E (.r rf)) .nil))) (Zea (n:=n+1) (WV W T) (WV W S)) y .refl
  have J:=A.get E;have hl:=W.l;have pu:=Zd3 (F:=rT (n+3)) (i0:=4) (a:=.ix (.v 7) (.i 1)) (p:=M) (U:=loE m rs ins L w ((k+1:Nat):Int) j (some (rwE (.put M c x g))) u) K rfl rfl J (by unfold inZ;rw[aD];omega)
  rw[Up]at pu;refine⟨I.set w (true,inZ (vs.set M (rkI (woI vs c) x (woI vs g)))),some (rwE (.put M c x g)),u,O.trans (A.kb.trans .setB),(Zk (Zd J)).trans (if_pos rfl),?_,pre ((Zb ((ZN rfl).trans Ze)).trans ((Zb ((Z5 rfl).trans ((Zb pu).trans Ze))).trans ((Zb ((ZN rfl).trans Ze)).trans ((Zb ((ZN rfl).trans Ze)).trans Ze))))⟩;rw[Zk (Zd J),if_neg V];exact A.get Q
 |go t=>exact⟨y,some (rwE (.go t)),u,O,E,Q,pre ((Zb ((ZN rfl).trans Ze)).trans ((Zb ((ZN rfl).trans Ze)).trans ((Zb ((Z5 rfl).trans ((Zb (Zi rfl)).trans Ze))).trans ((Zb ((ZN rfl).trans Ze)).trans Ze))))⟩
 |skip=>exact⟨y,some (rwE .skip),u,O,E,Q,pre ((Zb ((ZN rfl).trans Ze)).trans ((Zb ((ZN rfl).trans Ze)).trans ((Zb ((ZN rfl).trans Ze)).trans ((Zb ((ZN rfl).trans Ze)).trans Ze))))⟩
 |ifr c x g t=>
  obtain⟨T,hg,S,ht⟩:=ok;obtain⟨I,K,A⟩:=N (s:=y) (a:=.ix (.v 7) (.i 1)) (k':=((k+1:Nat):Int)) (u:=u) T E (.r rf) y .refl;have J:=A.get E;obtain⟨s5,X,k5⟩:=Y.call (F:=rT (n+3)) (s:=I) (f:=33) (ds:=[]) (xs:=[.int (woI vs c),.str x,.int (woI vs g)]) (U:=loE m rs ins L w ((k+1:Nat):Int) j (some (rwE (.ifr c x g t))) (jI (woI vs c))) (.cons (a:=.v 8) (.r rf) (.cons (a:=.ix (.v 7) (.i 2)) (.r rf) (.cons (N (a:=.ix (.v 7) (.i 3)) S J (.r rf)) .nil))) (Zf5 (n:=n+2) hg) I .refl
  have C:∀ {k':Nat},ex (rT (n+3)) (.seq (.set 8 (.call 34 (.aC (.ix (.v 7) (.i 1)) (.u (.v 4))) [])) (.z (.ite (.call 33 (.aC (.v 8) (.aC (.ix (.v 7) (.i 2)) (.u (.call 34 (.aC (.ix (.v 7) (.i 3)) (.u (.v 4))) [])))) []) (.z (.set 5 (.ix (.v 7) (.i 4)))) .skip))) (loE m rs ins L w ((k+1:Nat):Int) j (some (rwE (.ifr c x g t))) u) y=some (.nx (loE m rs ins L w (k':Int) j (some (rwE (.ifr c x g t))) (jI (woI vs c))),s5)->k'=pkN k vs (.ifr c x g t)->∃ st' Z u',Kb w j st st'/\st'[w]?=some (true,inZ (vsN vs (.ifr c x g t)))/\st'[j]?=some (true,acc++[.int (k:Int)])/\ex (rT (n+3)) lrB (loE m rs ins L w k j z u) st=some (.nx (loE m rs ins L w (pkN k vs (.ifr c x g t):Int) j Z u'),st'):=λ{k'} e6 ek=>by
   subst ek;exact⟨s5,some (rwE (.ifr c x g t)),jI (woI vs c),O.trans (A.trans k5).kb,k5.get J,(A.trans k5).get Q,pre ((Zb ((ZN rfl).trans Ze)).trans ((Zb ((ZN rfl).trans Ze)).trans ((Zb ((ZN rfl).trans Ze)).trans ((Zb ((Z5 rfl).trans e6)).trans Ze))))⟩
  cases R:soI (woI vs c) x (woI vs g) with
  |true=>
   rw[R]at X;exact C (k':=t) ((Zb (Zi K)).trans ((Zb ((Z5 X).trans ((Zb (Zi rfl)).trans Ze))).trans Ze)) (by show t=if soI (woI vs c) x (woI vs g)=true then t else k+1;rw[R,if_pos rfl])
  |false=>
   rw[R]at X;exact C (k':=k+1) ((Zb (Zi K)).trans ((Zb ((ZN X).trans Ze)).trans Ze)) (by show k+1=if soI (woI vs c) x (woI vs g)=true then t else k+1;rw[R,if_neg (by decide)])
variable{N:Nat}{st2:Za}
theorem ZgG(a:Rs m rs)(hk:k<=rs.length){p:Nat×Li Int}(h:mv rs k vs=.inr p):p.1<=rs.length:=by
 unfold mv at h;cases q:rs[k]? with
 |none=>rw[q]at h;cases h
 |some r=>
  rw[q]at h;have ok:=a.ok r (aU q);cases r with
  |tell y=>cases h
  |_=>cases h;exact ZgJ (vs:=vs) ok (Zd q)
def inN(l:Li Nat):Li D:=l.map λ(k:Nat)=>.int (k:Int)
theorem Zd1(h:ev F c U st=some (.bl false,st1)):ZW (ev F c) (ex F q) (N+1) U st=some (.nx U,st1):=by
 show Yp (ev F c) _ _ U st=_;unfold Yp;rw[h]
theorem Zg0(h:ev F c U st=some (.bl true,st1))(a:ex F q U st1=some (.nx U',st2)):ZW (ev F c) (ex F q) (N+1) U st=ZW (ev F c) (ex F q) N U' st2:=by
 show Yp (ev F c) (YA (ex F q) (ZW (ev F c) (ex F q) N)) _ U st=_;unfold Yp;rw[h];show YA (ex F q) (ZW (ev F c) (ex F q) N) U st1=_;unfold YA;rw[a]
theorem Zg1(h:ev F c U st=some (.bl true,st1))(a:ex F q U st1=some (.rt d,st2)):ZW (ev F c) (ex F q) (N+1) U st=some (.rt d,st2):=by
 show Yp (ev F c) (YA (ex F q) (ZW (ev F c) (ex F q) N)) _ U st=_;unfold Yp;rw[h];show YA (ex F q) (ZW (ev F c) (ex F q) N) U st1=_;unfold YA;rw[a]
inductive Wd(n m:Nat)(rs:List Rw)(ins L:D)(w j N:Nat)(o:D)(acc:List D)(U:Env)(st:Za):Prop
 |nx {k':Nat}{z u:Option D}{st':Za} (eo:o=enD rs k') (hk:k'<=rs.length) (e:ZW (ev (rT (n+3)) (whB c__law_run.body).1) (ex (rT (n+3)) lrB) N U st=some (.nx (loE m rs ins L w (k':Int) j z u),st')) (kb:Kb w j st st') (hj:st'[j]?=some (true,acc)):Wd n m rs ins L w j N o acc U st
 |rt {st':Za} (e:ZW (ev (rT (n+3)) (whB c__law_run.body).1) (ex (rT (n+3)) lrB) N U st=some (.rt (.tup [o,.lst j]),st')) (kb:Kb w j st st') (hj:st'[j]?=some (true,acc)):Wd n m rs ins L w j N o acc U st
theorem ZcG{ins:D}(C:Rs m rs)(T:w≠j)(Z:L<=800):∀ (M N k:Nat) (vs:Li Int) (acc:Li Nat) (st:Za) (z u:Ot D),M < N->acc.length+M=L->Vs m vs->k<=rs.length->st[w]?=some (true,inZ vs)->st[j]?=some (true,inN acc)->
  Wd n m rs ins (.int (L:Int)) w j N (oc rs M k vs) (inN (acc++sn rs M k vs)) (loE m rs ins (.int (L:Int)) w k j z u) st:=by
 have t:∀ {st:Za}{acc:Li Nat}{k:Nat}{z u:Ot D},st[j]?=some (true,inN acc)->Y (rT (n+3)) st (whB c__law_run.body).1 (loE m rs ins (.int (L:Int)) w k j z u) (.bl (decide (acc.length < L)&&decide (k < rs.length))):=λ{st acc k z u} g=>.and (.cmp (.lenl g (.r rf)) (.r rf) λ_=>by
   show some (decide (((inN acc).length:Int) < (L:Int)))=_;unfold inN;rw[aD];exact congrArg some (decide_eq_decide.mpr (by omega))) λ_=>.cmp (.r rf) (by
   have:=Y.lnT (F:=rT (n+3)) (s:=st) (a:=.v 0) (U:=loE m rs ins (.int (L:Int)) w k j z u) (xs:=rs.map rwE) (.r rf);rw[aD]at this;exact this) λ_=>by show some (decide ((k:Int) < (rs.length:Int)))=_;exact congrArg some (decide_eq_decide.mpr (by omega))
 have i:∀ {l:Li Nat}{k:Nat},inN (l++[k])=inN l++[.int (k:Int)]:=λ{l k}=>by unfold inN;rw[aX];rfl
 intro M
 induction M with
 |zero=>
  intro N k vs acc st z u W V B y K h;obtain⟨R,c,b⟩:=t (k:=k) (z:=z) (u:=u) h st .refl;rw[aE (by omega),dE]at c
  obtain⟨N,rfl⟩:∃ I,N=I+1:=⟨N - 1,by omega⟩
  exact .nx (k':=k) rfl y (Zd1 c) b.kb (by rw[show sn rs 0 k vs=[] from rfl,bB];exact b.get h)
 |succ M S=>
  intro N k vs acc st z u W V B y K h;obtain⟨N,rfl⟩:∃ I,N=I+1:=⟨N - 1,by omega⟩
  obtain⟨R,c,b⟩:=t (k:=k) (z:=z) (u:=u) h st .refl;rw[aG (by omega),cC]at c
  by_cases e:k < rs.length
  .rw[aG e]at c
   have x:=ZcH (n:=n) (ins:=ins) (L:=.int (L:Int)) (z:=z) (u:=u) C B e (b.get K) (b.get h) T (by unfold inN;rw[aD];omega)
   unfold oc sn;cases q:mv rs k vs with
   |inl o=>
    rw[q]at x;obtain⟨st',kb,g,H⟩:=x;refine .rt (Zg1 c H) (b.kb.trans kb) ?_;show _=some (true,inN (acc++if rs.length<=k then [] else [k]))
    rw[if_neg (by omega),i]
    exact g
   |inr p=>
    rw[q]at x;obtain⟨st',P,Q,kb,A,g,H⟩:=x;rw[<-i]at g;have O:=Zg0 (N:=N) c H;have la:acc++k :: sn rs M p.1 p.2=acc++[k]++sn rs M p.1 p.2:=by rw[bG];rfl
    show Wd n m rs ins (.int (L:Int)) w j (N+1) (oc rs M p.1 p.2) (inN (acc++k :: sn rs M p.1 p.2)) _ _;rw[la];cases S N p.1 p.2 (acc++[k]) st' P Q (by omega) (by rw[aI];show _+1+M=L;omega) (ZdN B C q) (ZgG C y q) A g with
    |nx X E G d f=>exact .nx X E (O.trans G) (b.kb.trans (kb.trans d)) f
    |rt G d f=>exact .rt (O.trans G) (b.kb.trans (kb.trans d)) f
  .rw[aE e]at c
   have J:mv rs k vs=.inl noD:=by unfold mv;rw[eE (by omega)]
   refine .nx (k':=k) ?_ y (Zd1 c) b.kb ?_
   .unfold oc enD;rw[J,if_pos (by omega)]
   .unfold sn
    rw[J];show _=some (true,inN (acc++if rs.length<=k then [] else [k]))
    rw[if_pos (by omega),bB]
    exact b.get h
def Lg(s:Za)(f:Za->Res)(xs:Li D):Prop:=∀ st,Grw s st->∃ st' j,f st=some (.lst j,st')/\st'[j]?=some (true,xs)/\Grw st st'/\st.length<=j
theorem Lg.of(h:Y F s a U (.tup xs)):Lg s (ev F (.listOf a) U) xs:=λst g=>by
 obtain⟨d,c,b⟩:=h st g;exact⟨_,_,by show Zq (ev F a) QF U st=_;unfold Zq;rw[c];rfl,Zl,b.trans .push,b.len⟩
theorem Lg.mk(h:Y F s a U (.tup xs)):Lg s (ev F (.lstE a) U) xs:=λst g=>by
 obtain⟨d,c,b⟩:=h st g;exact⟨_,_,by show Zq (ev F a) Za1 U st=_;unfold Zq;rw[c];rfl,Zl,b.trans .push,b.len⟩
theorem Lg.rep{i:Nat}(h:Lg s (ev F a U) [d])(l:Y F s b U (.int (i:Int)))(hi:i<=1000):Lg s (ev F (.bin .Mult a b) U) (List.replicate i d):=λst g=>by
 obtain⟨k,j,o,m,f,p⟩:=h st g;obtain⟨c,n,e⟩:=l k (g.trans f);refine⟨c++[(true,List.replicate i d)],c.length,?_,Zl,(f.trans e).trans .push,(f.trans e).len⟩;show Zw (ev F a) (ev F b) (VA .Mult) U st=_;unfold Zw;simp only[o,n];show ZcV j (i:Int) c=_;unfold ZcV;simp only[e.get m];rw[if_pos ⟨by omega,by omega⟩,aZ]
theorem Lg.cat(h:Lg s (ev F a U) xs)(m:Lg s (ev F b U) ys)(hl:xs.length+ys.length<=100000):Lg s (ev F (.bin .Add a b) U) (xs++ys):=λst g=>by
 obtain⟨f,j,o,l,e,q⟩:=h st g;obtain⟨c,i,n,k,d,p⟩:=m f (g.trans e);refine⟨c++[(true,xs++ys)],c.length,?_,Zl,(e.trans d).trans .push,(e.trans d).len⟩;show Zw (ev F a) (ev F b) (VA .Add) U st=_;unfold Zw;simp only[o,n];show Q5 j i c=_;unfold Q5;simp only[d.get l,k];rw[if_pos (by unfold Zn;omega)]
def Pv(s:Za)(f:Za->Res)(d:D)(xs:Li D):Prop:=∀ st,Grw s st->∃ st' j,f st=some (.tup [d,.lst j],st')/\st'[j]?=some (true,xs)/\Grw st st'/\st.length<=j
theorem Zd9(K:Rs m rs)(Q:m<=900)(hi:ins.length<=m)(J:∀ v∈ins,Sm v)(M:L<=800):Pv s (rT (n+4) 40 [.tup (rs.map rwE),.int (m:Int),.tup (inZ ins),.int (L:Int)]) (oc rs L 0 (v0 m ins)) (inN (sn rs L 0 (v0 m ins))):=λst g=>by
 have I:=Zd0 hi J;have E:Y (rT (n+3)) s (.len (.v 2)) [some (.tup (rs.map rwE)),jN m,some (.tup (inZ ins)),jN L,none,none,none,none,none] (.int (ins.length:Int)):=by
  have:=Y.lnT (F:=rT (n+3)) (s:=s) (a:=.v 2) (U:=[some (.tup (rs.map rwE)),jN m,some (.tup (inZ ins)),jN L,none,none,none,none,none]) (xs:=inZ ins) (.r rf);rw[show(inZ ins).length=ins.length from aD _]at this;exact this
 obtain⟨d,w,O,x,k,G⟩:=Lg.cat (F:=rT (n+3)) (s:=s) (xs:=inZ ins) (ys:=List.replicate (m - ins.length) (.int 0)) (a:=.listOf (.v 2)) (b:=.bin .Mult (.lstE (.u (.i 0))) (.bin .Sub (.v 1) (.len (.v 2)))) (U:=[some (.tup (rs.map rwE)),jN m,some (.tup (inZ ins)),jN L,none,none,none,none,none]) (.of (.r rf)) (.rep (.mk (.r rf)) (by rw[Int.natCast_sub hi];exact .sub (.r rf) E) (by omega)) (by rw[show(inZ ins).length=ins.length from aD _,cA];omega) st g
 rw[show inZ ins++List.replicate (m - ins.length) (.int 0)=inZ (v0 m ins) by unfold inZ v0;rw[aX,List.map_replicate]]at x
 have H:w≠d.length:=bA (Zd x);have C:ex (rT (n+3)) (.set 6 (.lstE .aN)) [some (.tup (rs.map rwE)),jN m,some (.tup (inZ ins)),jN L,jL w,jI 0,none,none,none] d=some (.nx (loE m rs (.tup (inZ ins)) (.int (L:Int)) w ((0:Nat):Int) d.length none none),d++[(true,[])]):=Zi rfl;have P:∀ {s:Za}{e j:Nat}{z u:Ot D},e<=rs.length->Y (rT (n+3)) s (.cmp .Eq (.v 5) (.len (.v 0))) (loE m rs (.tup (inZ ins)) (.int (L:Int)) w (e:Int) j z u) (.bl (decide (rs.length<=e))):=λ{s e j z u} B=>.cmp (.r rf) (by
  have:=Y.lnT (F:=rT (n+3)) (s:=s) (a:=.v 0) (U:=loE m rs (.tup (inZ ins)) (.int (L:Int)) w (e:Int) j z u) (xs:=rs.map rwE) (.r rf);rw[aD]at this;exact this) λ_=>by show some (decide ((e:Int)=(rs.length:Int)))=_;exact congrArg some (decide_eq_decide.mpr (by omega))
 have y:∀ {f:Za},Kb w d.length (d++[(true,[])]) f->Grw st f:=λkb=>kb.grw G k.len (k.trans .push)
 have pre:∀ {r},ex (rT (n+3)) (.seq (.whl (whB c__law_run.body).1 lrB) _) (loE m rs (.tup (inZ ins)) (.int (L:Int)) w ((0:Nat):Int) d.length none none) (d++[(true,[])])=some (.rt r.1,r.2)->rT (n+4) 40 [.tup (rs.map rwE),.int (m:Int),.tup (inZ ins),.int (L:Int)] st=some r:=λ{r} h=>Z6 (v:=c__law_run) rfl rfl ((Zb (Zi O)).trans ((Zb (Zi rfl)).trans ((Zb C).trans h)))
 cases ZcG (n:=n) (w:=w) (j:=d.length) (ins:=.tup (inZ ins)) (L:=L) K H M L 1000 0 (v0 m ins) [] (d++[(true,[])]) none none (by omega) (bH _) I (aV _) (Grw.push.get x) Zl with
 |@nx e z u f N B t kb o=>
  obtain⟨A,q,l⟩:=P (j:=d.length) (z:=z) (u:=u) B f .refl;rw[N];unfold enD;by_cases c:rs.length<=e
  .rw[aG c]at q
   rw[if_pos c];exact⟨A,d.length,pre ((Zb (p:=.whl (whB c__law_run.body).1 lrB) t).trans (Zm ((Z5 q).trans (Zm (ZC rfl))))),l.get o,(y kb).trans l,k.len⟩
  .rw[aE c]at q
   rw[if_neg c];exact⟨A,d.length,pre ((Zb (p:=.whl (whB c__law_run.body).1 lrB) t).trans ((Zb ((ZN q).trans Ze)).trans (Zm (ZC rfl)))),l.get o,(y kb).trans l,k.len⟩
 |@rt f t kb o=>exact⟨f,d.length,pre (Zm (p:=.whl (whB c__law_run.body).1 lrB) t),o,y kb,k.len⟩
inductive Oc where
 |no|la|te (v:Int)
 deriving DecidableEq
def oD:Oc->D
 |.no=>noD
 |.la=>laD
 |.te v=>teD v
def ocO(rs:Li Rw):Nat->Nat->Li Int->Oc
 |0,k,_=>if rs.length<=k then .no else .la
 |n+1,k,vs=>match rs[k]? with
  |none=>.no
  |some (.tell y)=>.te (woI vs y)
  |some r=>ocO rs n (pkN k vs r) (vsN vs r)
def unl:Nat->Li Oc->Li Oc->Nat
 |i,x :: xs,y :: ys=>(if x=y then 0 else 2 ^ i)+unl (i+1) xs ys
 |_,_,_=>0
def ocP(m:Nat)(rs:Li Rw)(L:Nat)(ins:Li Int):Oc:=ocO rs L 0 (v0 m ins)
structure Trs(m:Nat)(tr:List (List Int)):Prop where
 l:∀ t∈tr,t.length<=m
 s:∀ t∈tr,∀ v∈t,Sm v
 n:tr.length<=11
def inD(t:Li Int):D:=.tup (inZ t)
def btL(m:Nat)(rs:Li Rw)(L:Nat)(a:Li (Li Int))(p:Nat×Rw):Nat:=unl 0 (a.map (ocP m rs L)) (a.map (ocP m (rs.set p.1 p.2) L))
variable{q':Oc}{tr:Li (Li Int)}
section
variable{p:Oc}
theorem Ze2:∀ {n k:Nat}{vs:Li Int},oc rs n k vs=oD (ocO rs n k vs)
 |0,k,vs=>by unfold oc ocO;split<;>rfl
 |n+1,k,vs=>by
  have a:=λk vs=>@Ze2 n k vs
  unfold oc ocO mv;cases q:rs[k]? with
  |none=>rfl
  |some r=>cases r<;>first|rfl|exact a _ _
theorem Zgq:eqS st (oD p) (oD q')=some (decide (p=q')):=by
 have d:decide (S "none"=S "late")=false/\decide (S "none"=S "told")=false/\decide (S "late"=S "none")=false/\decide (S "late"=S "told")=false/\decide (S "told"=S "none")=false/\decide (S "told"=S "late")=false:=by decide +kernel
 have a:∀ {x y:Str},eqS st (.tup [.str x]) (.tup [.str y])=some (decide (x=y)&&true):=rfl;have c:∀ {x y:Str}{v:Int},eqS st (.tup [.str x]) (.tup [.str y,.int v])=some (decide (x=y)&&false):=rfl;have b:∀ {x y:Str}{v:Int},eqS st (.tup [.str x,.int v]) (.tup [.str y])=some (decide (x=y)&&false):=rfl;have e:∀ {x y:Str}{v w:Int},eqS st (.tup [.str x,.int v]) (.tup [.str y,.int w])=some (decide (x=y)&&(decide (v=w)&&true)):=rfl
 cases p with
 |no=>cases q' with
  |no=>rw[show oD .no=.tup [.str "none"] from rfl,a,aG rfl];rfl
  |la=>rw[show oD .no=.tup [.str "none"] from rfl,show oD .la=.tup [.str "late"] from rfl,a,d.1];rfl
  |te v=>rw[show oD .no=.tup [.str "none"] from rfl,show oD (.te v)=.tup [.str "told",.int v] from rfl,c,cK];rfl
 |la=>cases q' with
  |no=>rw[show oD .no=.tup [.str "none"] from rfl,show oD .la=.tup [.str "late"] from rfl,a,d.2.2.1];rfl
  |la=>rw[show oD .la=.tup [.str "late"] from rfl,a,aG rfl];rfl
  |te v=>rw[show oD .la=.tup [.str "late"] from rfl,show oD (.te v)=.tup [.str "told",.int v] from rfl,c,cK];rfl
 |te u=>cases q' with
  |no=>rw[show oD .no=.tup [.str "none"] from rfl,show oD (.te u)=.tup [.str "told",.int u] from rfl,b,cK];rfl
  |la=>rw[show oD .la=.tup [.str "late"] from rfl,show oD (.te u)=.tup [.str "told",.int u] from rfl,b,cK];rfl
  |te v=>
   rw[show oD (.te u)=.tup [.str "told",.int u] from rfl,show oD (.te v)=.tup [.str "told",.int v] from rfl,e,aG rfl,cC,dL];exact congrArg some (decide_eq_decide.mpr ⟨λh=>by rw[h],λh=>by injection h⟩)
theorem Y.neOc(d:Y F s a U (oD p))(c:Y F s b U (oD q')):Y F s (.cmp .NotEq a b) U (.bl (!decide (p=q'))):=.cmp d c λst=>by
 show(eqS st (oD p) (oD q')).map Bool.not=_;rw[Zgq];rfl
def snP(m:Nat)(rs:Li Rw)(L:Nat)(t:Li Int):Li Nat:=sn rs L 0 (v0 m t)
theorem Zd8(b:Rs m rs)(c:m<=900)(a:Trs m tr){t:Li Int}(h:t∈tr)(d:L<=800):Pv s (rT (n+4) 40 [.tup (rs.map rwE),.int (m:Int),inD t,.int (L:Int)]) (oD (ocP m rs L t)) (inN (snP m rs L t)):=by
 unfold ocP;rw[<-Ze2];exact Zd9 b c (a.l t h) (a.s t h) d
theorem Wk.lst{a:Li D}(j:s[w]?=some (bb,a))(h:Y F s e U (.lst w)):Wk F s e U (Yv false) a:=λst k=>by
 obtain⟨b,l,d⟩:=h st k;have g:=(k.trans d).get j;refine⟨.lst w,b,λf=>f[w]?=some (bb,a),l,d,?_,λst' i=>i.get g⟩
 show(match b[w]? with
  |some c=>some (c.2,λ(s:Za)=>s[w]?=some c)
  |none=>none)=_
 rw[g]
theorem Uu:∀ {xs ys:Li Oc}{i:Nat}{x y:Oc},xs.length=ys.length->unl i (xs++[x]) (ys++[y])=unl i xs ys+if x=y then 0 else 2 ^ (i+xs.length)
 |[],[],i,x,y,_=>by show(if x=y then 0 else 2 ^ i)+0=0+_;rw[Nat.add_zero,bH];rfl
 |[],_ :: _,_,_,_,h=>nomatch h
 |_ :: _,[],_,_,_,h=>nomatch h
 |a :: xs,b :: ys,i,x,y,h=>by
  show(if a=b then 0 else 2 ^ i)+unl (i+1) (xs++[x]) (ys++[y])=(if a=b then 0 else 2 ^ i)+unl (i+1) xs ys+_
  rw[Uu (by simpa using h),aP,show i+1+xs.length=i+(xs.length+1) by omega,cV]
end
variable{xs:Li D}
theorem Zdl{k:Nat}{d:D}(h:k < xs.length):xs.take k++[d]++xs.drop (k+1)=xs.set k d:=by
 rw[List.set_eq_take_append_cons_drop,if_pos h,bG];rfl
abbrev Cd:=Ot (Nat×Rw)
def kdE:Cd->D
 |none=>.tup []
 |some p=>.tup [.int (p.1:Int),rwE p.2]
def rO(rs:Li Rw):Cd->Li Rw
 |none=>rs
 |some p=>rs.set p.1 p.2
variable{wa wb wt:Nat}{rs':Li Rw}
section
variable{w6:Nat}{p:Oc}
theorem Qg{v:Int}:C (rT (n+1)) s 17 [.int v] (.bl true):=.of (v:=c__law_whole) rfl rfl (.ret (.r rf))
theorem W2{ok:Za->Prop}{fe fc:D->Za->Res}(b:∀ st,Grw s st->ok st):∀ {l:Li D},(∀ a∈l,Gv s (fc a) (.bl false))->∀ st,Grw s st->∃ st',ZF ok fe fc l st=some ([],st')/\Grw st st'
 |[],_,st,k=>⟨st,if_pos (b st k),.refl⟩
 |x :: xs,h,st,k=>by
  obtain⟨f,m,c⟩:=h x lQ7 st k;obtain⟨e,j,g⟩:=W2 b (λd i=>h d (lM7 _ i)) f (k.trans c)
  refine⟨e,?_,c.trans g⟩;rw[ZF,if_pos (b st k),m];exact j
theorem Wh:∀ {l:Li Int},Zy (l.map D.int) (l.map D.int)=true
 |[]=>rfl
 |x :: l=>by show(decide (x=x)&&Zy (l.map D.int) (l.map D.int))=true;rw[Wh,aG rfl];rfl
theorem Ze3{v:Int}:∀ k,okD k (.int v)=true
 |0=>rfl
 |_+1=>rfl
theorem Vl:∀ {l:Li Int}{k:Nat},ZZ k (l.map D.int)=true
 |[],0=>rfl
 |[],_+1=>rfl
 |x :: l,k=>by
  have a:=Vl (l:=l) (k:=k);rw[aJ,ZZ,Ze3,a];rfl
theorem Qv:WH (ns.map D.int) (ns.map D.int)=some true:=by
 unfold WH;split
 .rename_i h;rw[Bool.or_self]at h;rw[h];rfl
 .rw[Vl,Wh];rfl
theorem ZbN(hl:ns.length<=900)(h:s[w]?=some (bb,ns.map D.int)):C (rT (n+2)) s 36 [.tup (ns.map D.int),.lst w] (.bl true):=.of (v:=c__law_alike) rfl rfl (by
 have z:Lv s (ev (rT (n+1)) Ya [some (.tup (ns.map D.int)),jL w]) []:=λst g=>by
  obtain⟨f,t,j⟩:=W2 (s:=st) (ok:=λ_=>True) (fe:=λd=>ev (rT (n+1)) (.v 0) (ZJ one [some (.tup (ns.map D.int)),jL w] [] d)) (fc:=λd=>ev (rT (n+1)) (.not (.call 17 (.u (.v 0)) [])) (ZJ one [some (.tup (ns.map D.int)),jL w] [] d)) (l:=ns.map D.int) (λ_ _=>trivial) (λa p=>by
   obtain⟨v,_,rfl⟩:=aR.mp p;exact Y.not (k:=true) (.call1 (x:=.int v) (.r rf) Qg)) st .refl
  refine⟨f++[(true,[])],f.length,true,?_,Zl,j.trans .push⟩;show ZT one (Yv false) [] (ev (rT (n+1)) (.v 0)) (ev (rT (n+1)) (.v 0)) (ev (rT (n+1)) (.not (.call 17 (.u (.v 0)) []))) _ st=_;unfold ZT;show(if (ns.map D.int).length<=1000 then _ else none)=_
  rw[if_pos (by rw[aD];omega)]
  simp only[t]
 have i:Y (rT (n+1)) s (.cmp .NotEq Ya (.lstE .aN)) [some (.tup (ns.map D.int)),jL w] (.bl false):=λst g=>by
  obtain⟨b,e,A,y,q,o⟩:=z st g;refine⟨b++[(true,[])],?_,o.trans .push⟩;show Zw (ev (rT (n+1)) Ya) (ev (rT (n+1)) (.lstE .aN)) (Z3 .NotEq) _ st=_;unfold Zw;rw[y];show Z3 .NotEq (.lst e) (.lst b.length) (b++[(true,[])])=_;unfold Z3;have:Xf .NotEq (.lst e) (.lst b.length) (b++[(true,[])])=some false:=by
   show((o2 (λ(c d:ZI)=>WH c.2 d.2) (b++[(true,[])])[e]? (b++[(true,[])])[b.length]?).join).map not=_
   rw[Grw.push.get q,Zl];rfl
  rw[this]
 refine .no (.or (k:=false) (m:=false) (.r rf) λ_=>i) (.ret ?_)
 intro st g;refine⟨st++[(true,ns.map D.int)],?_,.push⟩;show Z3 .Eq (.lst st.length) (.lst w) (st++[(true,ns.map D.int)])=_;unfold Z3;have:Xf .Eq (.lst st.length) (.lst w) (st++[(true,ns.map D.int)])=some true:=by
  show(o2 (λ(c d:ZI)=>WH c.2 d.2) (st++[(true,ns.map D.int)])[st.length]? (st++[(true,ns.map D.int)])[w]?).join=_
  rw[(g.trans .push).get h,Zl];exact Qv
 rw[this])
theorem Qd(h:xs.length<=10):C (rT (n+1)) s 181 [.tup xs] .non:=λst g=>by
 have:Y (rT n) s (.cmp .Gt (.len (.v 0)) (.i 10)) [some (.tup xs)] (.bl false):=.cmp (.lnT (.r rf)) (.r rf) λ_=>by show some (decide ((10:Int) < (xs.length:Int)))=_;rw[aE (by omega)]
 obtain⟨a,c,b⟩:=this st g;exact⟨a,ZcS (v:=c_check_trials) rfl rfl ((Zb ((ZN c).trans Ze)).trans Ze),b⟩
theorem Zds(hk:k < rs.length)(hl:rs.length<=900):C (rT (n+2)) s 180 [pgD tk m rs,.int (k:Int),rwE r] (pgD tk m (rs.set k r)):=.of (v:=c_fake_of) rfl rfl (.ret (by
 have:=XF (n:=n) (s:=s) (i:=k) (d:=rwE r) (xs:=rs.map rwE) (by rw[aD];exact hk) (by rw[aD];omega)
 rw[<-List.map_set]at this;exact .cons (.r rf) (.cons (.r rf) (.cons (.call (xs:=[.tup (rs.map rwE),.int (k:Int),rwE r]) (.r rf) this) .nil))))
theorem UR{b:D->Li (Ot D)}{wk:D->Za->Ot (Li D×(Za->Prop))}{en g:α->D}{l:Li α}(hi:Wk F s it U wk (l.map en))(hl:l.length<=1000)(h:∀ a∈l,Y F s elt (ZJ b U fr (en a)) (g a)):Lg s (ZT b wk fr (ev F it) (ev F elt) (ev F (.c (.bl true))) U) (l.map g):=λst k=>by
 obtain⟨x,f,ok,q,e,p,m⟩:=hi st k;obtain⟨j,o,i⟩:=X6 (s:=f) (ok:=ok) (fe:=λd=>ev F elt (ZJ b U fr d)) (fc:=λd=>ev F (.c (.bl true)) (ZJ b U fr d)) (λ_ _=>rfl) m (λa n=>Gv.mono (h a n) (k.trans e)) f .refl
 refine⟨j++[(true,l.map g)],_,?_,Zl,(e.trans i).trans .push,(e.trans i).len⟩;unfold ZT;simp only[q,p,aD,if_pos hl,o]
theorem Qe(a:Rs m rs):Lg s (rT (n+5) 262 [pgD tk m rs]) ((cdL rs).map λp=>kdE (some p)):=λst g=>by
 have fl:=Xb (rs:=rs);have k:=a.l;have:Lg s (ev (rT (n+4)) (.comp3 [] (.call 172 (.u (.v 0)) []) (.tupE (.aC (.v 0) (.u (.v 2)))) (.c (.bl true))) [some (pgD tk m rs)]) ((fkL rs).map λp=>kdE (some (p.1,p.2.2))):=UR (F:=rT (n+4)) (b:=Ut) (wk:=Uv) (fr:=[]) (it:=.call 172 (.u (.v 0)) []) (elt:=.tupE (.aC (.v 0) (.u (.v 2)))) (en:=tD) (g:=λp=>kdE (some (p.1,p.2.2))) (l:=fkL rs) (.of (.call1 (.r rf) (Qf a)) λst=>by
   show(if ((fkL rs).map tD).all ZaN=true then some ((fkL rs).map tD,λ(_:Za)=>True) else none)=_
   rw[if_pos (by rw[cX];exact bU.mpr λ_ _=>rfl)]) (by omega) λp o=>.cons (.r rf) (.cons (.r rf) .nil)
 obtain⟨d,h,j,i,f,e⟩:=this st g;refine⟨d,h,Z6 (v:=c_codes_of) rfl rfl (Zm (ZC j)),?_,f,e⟩;rw[i];unfold cdL;rw[bL];rfl
theorem Qq{F:Nat->Fn}{z w:ZI}:∀ {xs ys:Li Oc}{i v:Nat}{x4 x5:Ot D}{st:Za},Grw s st->s[wa]?=some z->s[wb]?=some w->∃ e d n st',ZM (λs=>s[wa]?=some z/\s[wb]?=some w) (λx y U s=>ex F ZG (Zh (Zh U 4 x) 5 y) s) ((xs.map oD).zip (ys.map oD)) [jL wa,jL wb,jN v,some (.int ((2 ^ i:Nat):Int)),x4,x5] st=some (.nx [jL wa,jL wb,some (.int ((v+unl i xs ys:Nat):Int)),n,e,d],st')/\Grw st st'
 |[],ys,i,v,x4,x5,st,g,k,j=>⟨x4,x5,_,st,if_pos ⟨g.get k,g.get j⟩,.refl⟩
 |x :: xs,[],i,v,x4,x5,st,g,k,j=>⟨x4,x5,_,st,if_pos ⟨g.get k,g.get j⟩,.refl⟩
 |x :: xs,y :: ys,i,v,x4,x5,st,g,k,j=>by
  obtain⟨o,m,t⟩:=Y.neOc (F:=F) (s:=st) (a:=.v 4) (b:=.v 5) (p:=x) (q':=y) (U:=[jL wa,jL wb,jN v,some (.int ((2 ^ i:Nat):Int)),some (oD x),some (oD y)]) (.r rf) (.r rf) st .refl;have q:∀ v:Nat,Y F o (.bin .Mult (.v 3) (.i 2)) [jL wa,jL wb,jN v,some (.int ((2 ^ i:Nat):Int)),some (oD x),some (oD y)] (.int ((2 ^ (i+1):Nat):Int)):=λv=>by
   rw[show((2 ^ (i+1):Nat):Int)=((2 ^ i:Nat):Int) * 2 by rw[Nat.pow_succ,Int.natCast_mul];rfl]
   exact .mul (.r rf) (.r rf) rfl
  have C:∃ f,ex F ZG [jL wa,jL wb,jN v,some (.int ((2 ^ i:Nat):Int)),some (oD x),some (oD y)] st=some (.nx [jL wa,jL wb,some (.int ((v+(if x=y then 0 else 2 ^ i):Nat):Int)),some (.int ((2 ^ (i+1):Nat):Int)),some (oD x),some (oD y)],f)/\Grw st f:=by
   by_cases c:x=y
   .rw[aG c]at m
    obtain⟨f,l,h⟩:=q v o .refl;rw[if_pos c];exact⟨f,(Zb ((ZN m).trans Ze)).trans ((Zb (Zi l)).trans Ze),t.trans h⟩
   .rw[aE c]at m
    obtain⟨f,l,h⟩:=q (v+2 ^ i) o .refl;rw[if_neg c];exact⟨f,(Zb ((Z5 m).trans ((Zb (Zi rfl)).trans Ze))).trans ((Zb (Zi l)).trans Ze),t.trans h⟩
  obtain⟨f,l,h⟩:=C;obtain⟨e,d,n,A,u,B⟩:=Qq (xs:=xs) (ys:=ys) (i:=i+1) (v:=v+(if x=y then 0 else 2 ^ i)) (x4:=some (oD x)) (x5:=some (oD y)) (g.trans h) k j
  refine⟨e,d,n,A,?_,h.trans B⟩;rw[aJ,aJ,List.zip_cons_cons,ZM,if_pos ⟨g.get k,g.get j⟩];show(match ex F ZG [jL wa,jL wb,jN v,some (.int ((2 ^ i:Nat):Int)),some (oD x),some (oD y)] st with
   |some (.nx U',st')=>ZM _ _ _ U' st'
   |some (.ct U',st')=>ZM _ _ _ U' st'
   |some (.bk U',st')=>some (.nx U',st')
   |some (.rt v,st')=>some (.rt v,st')
   |none=>none)=_
  rw[l];rw[cV]at u;exact u
theorem Zg2{os pq:Li Oc}{m l:Bool}(c:s[wa]?=some (m,os.map oD))(b:s[wb]?=some (l,pq.map oD)):C (rT (n+1)) s 183 [.lst wa,.lst wb] (.int (unl 0 os pq:Int)):=λst g=>by
 obtain⟨x4,x5,h,a,k,j⟩:=Qq (F:=rT n) (s:=st) (xs:=os) (ys:=pq) (i:=0) (v:=0) (x4:=none) (x5:=none) .refl (g.get c) (g.get b);have d:ex (rT n) (.forP 4 5 (.aC (.v 0) (.u (.v 1))) ZG) [jL wa,jL wb,some (.int ((0:Nat):Int)),some (.int ((2 ^ 0:Nat):Int)),none,none] st=some (.nx [jL wa,jL wb,some (.int ((0+unl 0 os pq:Nat):Int)),h,x4,x5],a):=by
  show(match st[wa]?,st[wb]? with
   |some f,some e=>ZM (λs=>s[wa]?=some f/\s[wb]?=some e) (λx y U s=>ex (rT n) ZG (Zh (Zh U 4 x) 5 y) s) (f.2.zip e.2) _ st
   |_,_=>none)=_
  rw[g.get c,g.get b];exact k
 rw[bH]at d;exact⟨a,Z6 (v:=c_bits_unlike) rfl rfl ((Zb (Zi rfl)).trans ((Zb (Zi rfl)).trans ((Zb d).trans (Zm (ZC rfl))))),j⟩
end
mutual
theorem W0:∀ {x y:D},Zr x y=true->x=y
 |.non,.non,_=>rfl
 |.bl a,.bl b,h=>by have h:(a==b)=true:=h;rw[eq_of_beq h]
 |.int a,.int b,h=>by rw[of_decide_eq_true (p:=a=b) h]
 |.str a,.str b,h=>by rw[of_decide_eq_true (p:=a=b) h]
 |.tup a,.tup b,h=>by rw[Qn (xs:=a) (ys:=b) h]
theorem Qn:∀ {xs ys:Li D},Zy xs ys=true->xs=ys
 |[],[],_=>rfl
 |x :: xs,y :: ys,h=>by
  have h:(Zr x y&&Zy xs ys)=true:=h;rw[bA7]at h;rw[W0 h.1,Qn h.2]
end
theorem WM{n:Nat}(a:∀ x,okN n x=true->Zr x x=true):∀ {ds:Li D},ds.all (okN n)=true->Zy ds ds=true
 |[],_=>rfl
 |d :: ds,h=>by
  rw[aY,bA7]at h;show(Zr d d&&Zy ds ds)=true;rw[a d h.1,WM a h.2];rfl
theorem YW:∀ {n:Nat}{x:D},okN n x=true->Zr x x=true
 |n,x,h=>by
  cases x with
  |non=>rfl
  |int a=>exact aG rfl
  |str a=>exact aG rfl
  |tup ds=>cases n with
   |zero=>cases h
   |succ n=>exact WM (λx=>YW) h
  |_=>cases n<;>cases h
abbrev Ky:=Cd×Li Int
def kyE(k:Ky):D:=.tup [kdE k.1,inD k.2]
def vlE(m:Nat)(rs:Li Rw)(L:Nat)(k:Ky):D:=.tup [oD (ocP m (rO rs k.1) L k.2),.int (ZL (sn (rO rs k.1) L 0 (v0 m k.2)):Int)]
def enE(m:Nat)(rs:Li Rw)(L:Nat)(k:Ky):D:=.tup [kyE k,vlE m rs L k]
variable{o:Op}
variable{ks:Li Ky}
theorem ZgI:okN (n+1) (opE o)=true:=by cases o<;>cases n<;>rfl
theorem QK{r:Rw}:okN (n+2) (rwE r)=true:=by
 have h:∀ {o:Op},okN (n+1) (opE o)=true:=ZgI;cases r with
 |put x y g z=>show(true&&(true&&(okN (n+1) (opE y)&&(true&&(okN (n+1) (opE z)&&true)))))=true;rw[h,h];rfl
 |ifr y g z t=>show(true&&(okN (n+1) (opE y)&&(true&&(okN (n+1) (opE z)&&(true&&true)))))=true;rw[h,h];rfl
 |tell y=>show(true&&(okN (n+1) (opE y)&&true))=true;rw[h];rfl
 |_=>rfl
theorem ZdQ{t:Li Int}:okN (n+1) (inD t)=true:=by
 show(inZ t).all (okN n)=true;unfold inZ;rw[cX];exact bU.mpr λ_ _=>by cases n<;>rfl
theorem Uh{k:Ky}:okN 8 (kyE k)=true:=by
 show(okN 7 (kdE k.1)&&(okN 7 (inD k.2)&&true))=true;rw[ZdQ];cases k.1 with
 |none=>rfl
 |some p=>show((true&&(okN 6 (rwE p.2)&&true))&&_)=true;rw[QK];rfl
theorem Z0{a b:Str}{ys:Li D}(h:D.tup (.str a :: xs)=.tup (.str b :: ys)):a=b:=by injection h with h;injection h with h _;injection h
theorem WA{z:Op}(h:opE o=opE z):o=z:=by
 cases o with
 |nm i=>cases z with
  |nm j=>
   have h:D.tup [.str "name",.int (i:Int)]=.tup [.str "name",.int (j:Int)]:=h
   injection h with h;injection h with _ h;injection h with h _;injection h with h;rw[Int.ofNat.inj h]
  |nu v=>exact absurd (Z0 h) (by decide +kernel)
 |nu u=>cases z with
  |nm j=>exact absurd (Z0 h) (by decide +kernel)
  |nu v=>
   have h:D.tup [.str "number",.int u]=.tup [.str "number",.int v]:=h
   injection h with h;injection h with _ h;injection h with h _;injection h with h;rw[h]
theorem U5{r q:Rw}(h:rwE r=rwE q):r=q:=by
 have B:S "put"≠S "if"/\S "put"≠S "go"/\S "put"≠S "tell"/\S "put"≠S "skip"/\S "if"≠S "go"/\S "if"≠S "tell"/\S "if"≠S "skip"/\S "go"≠S "tell"/\S "go"≠S "skip"/\S "tell"≠S "skip":=by decide +kernel
 obtain⟨w,v,u,s,p,o,n,m,l,f⟩:=B;cases r with
 |put x y g z=>cases q with
  |put A a k i=>
   have h:D.tup [.str "put",.int (x:Int),opE y,.str g,opE z]=.tup [.str "put",.int (A:Int),opE a,.str k,opE i]:=h
   injection h with h;injection h with _ h;injection h with e h;injection h with d h;injection h with c h;injection h with b _;injection e with e;injection c with c
   rw[Int.ofNat.inj e,WA d,c,WA b]
  |ifr _ _ _ _=>exact absurd (Z0 h) w
  |go _=>exact absurd (Z0 h) v
  |tell _=>exact absurd (Z0 h) u
  |skip=>exact absurd (Z0 h) s
 |ifr y g z t=>cases q with
  |put _ _ _ _=>exact absurd (Z0 h) w.symm
  |ifr a k i j=>
   have h:D.tup [.str "if",opE y,.str g,opE z,.int (t:Int)]=.tup [.str "if",opE a,.str k,opE i,.int (j:Int)]:=h
   injection h with h;injection h with _ h;injection h with e h;injection h with d h;injection h with c h;injection h with b _;injection b with b;injection d with d
   rw[WA e,d,WA c,Int.ofNat.inj b]
  |go _=>exact absurd (Z0 h) p
  |tell _=>exact absurd (Z0 h) o
  |skip=>exact absurd (Z0 h) n
 |go t=>cases q with
  |put _ _ _ _=>exact absurd (Z0 h) v.symm
  |ifr _ _ _ _=>exact absurd (Z0 h) p.symm
  |go j=>
   have h:D.tup [.str "go",.int (t:Int)]=.tup [.str "go",.int (j:Int)]:=h
   injection h with h;injection h with _ h;injection h with h _;injection h with h;rw[Int.ofNat.inj h]
  |tell _=>exact absurd (Z0 h) m
  |skip=>exact absurd (Z0 h) l
 |tell y=>cases q with
  |put _ _ _ _=>exact absurd (Z0 h) u.symm
  |ifr _ _ _ _=>exact absurd (Z0 h) o.symm
  |go _=>exact absurd (Z0 h) m.symm
  |tell a=>
   have h:D.tup [.str "tell",opE y]=.tup [.str "tell",opE a]:=h
   injection h with h;injection h with _ h;injection h with h _;rw[WA h]
  |skip=>exact absurd (Z0 h) f
 |skip=>cases q with
  |put _ _ _ _=>exact absurd (Z0 h) s.symm
  |ifr _ _ _ _=>exact absurd (Z0 h) n.symm
  |go _=>exact absurd (Z0 h) l.symm
  |tell _=>exact absurd (Z0 h) f.symm
  |skip=>rfl
theorem V2:∀ {a b:Li Int},a.map D.int=b.map D.int->a=b
 |[],[],_=>rfl
 |x :: a,y :: b,h=>by
  rw[aJ,aJ]at h
  injection h with c d;injection c with c
  rw[c,V2 d]
theorem ZaV{a b:Ky}(h:kyE a=kyE b):a=b:=by
 obtain⟨c,t⟩:=a;obtain⟨f,g⟩:=b;have h:D.tup [kdE c,inD t]=.tup [kdE f,inD g]:=h
 injection h with h;injection h with d h;injection h with e _
 have e:D.tup (t.map D.int)=.tup (g.map D.int):=e
 injection e with e
 rw[V2 e];cases c with
 |none=>cases f with
  |none=>rfl
  |some p=>exact nomatch d
 |some p=>cases f with
  |none=>exact nomatch d
  |some k=>
   obtain⟨i,r⟩:=p;obtain⟨l,j⟩:=k;have d:D.tup [.int (i:Int),rwE r]=.tup [.int (l:Int),rwE j]:=d
   injection d with d;injection d with d h;injection h with m _;injection d with d
   rw[Int.ofNat.inj d,U5 m]
theorem ZdJ{a b:Ky}:XO (kyE a) (enE m rs L b)=decide (b=a):=by
 show Zr (kyE b) (kyE a)=_;by_cases h:b=a
 .rw[h,aG rfl];exact YW Uh
 .rw[aE h]
  cases q:Zr (kyE b) (kyE a) with
  |false=>rfl
  |true=>exact absurd (ZaV (W0 q)) h
theorem UD{k:Ky}:∀ {ks:Li Ky},(ks.map (enE m rs L)).any (XO (kyE k))=decide (k∈ks)
 |[]=>rfl
 |a :: ks=>by
  rw[aJ,cJ,UD,ZdJ,<-dB];exact decide_eq_decide.mpr ⟨λh=>aH.mpr (h.imp Eq.symm id),λh=>(aH.mp h).imp Eq.symm id⟩
theorem Vg{k:Ky}:∀ {ks:Li Ky},ZR (ks.map (enE m rs L)) (kyE k)=if k∈ks then some (vlE m rs L k) else none
 |[]=>rfl
 |a :: ks=>by
  have b:=Vg (k:=k) (ks:=ks);unfold ZR at b ⊢
  rw[aJ,cL,ZdJ];by_cases h:a=k
  .rw[aG h,if_pos (aH.mpr (.inl h.symm)),h];rfl
  .rw[aE h]
   by_cases c:k∈ks
   .rw[if_pos c]at b
    rw[if_pos (lM7 _ c)];exact b
   .rw[if_neg c]at b
    rw[if_neg λz=>c ((aH.mp z).resolve_left λz=>h z.symm)]
    exact b
theorem Ug:Yh (ks.map (enE m rs L))=false:=by cases ks<;>rfl
theorem ZdW:∀ {n k:Nat}{vs:Li Int},∀ z∈sn rs n k vs,z < rs.length
 |0,_,_,z,h=>nomatch h
 |n+1,k,vs,z,h=>by
  unfold sn at h;cases q:mv rs k vs with
  |inl o=>
   rw[q]at h;have h:z∈if rs.length<=k then [] else [k]:=h
   split at h
   .cases h
   .rw[aO.mp h];omega
  |inr p=>
   rw[q]at h;rcases aH.mp h with h|h
   .rw[h]
    unfold mv at q;cases c:rs[k]? with
    |none=>rw[c]at q;cases q
    |some r=>exact Zd c
   .exact ZdW z h
def Xe(ks:Li Ky)(k:Ky):Li Ky:=if k∈ks then ks else ks++[k]
def bkF(b:D)(m:Nat)(rs:Li Rw)(a:Li (Li Int))(L c d:Nat):Li D:=[.tup [.str "program",pgD b m rs],.tup [.str "trials",.tup (a.map inD)],.tup [.str "limit",.int (L:Int)],.tup [.str "kept",.dic c],.tup [.str "done",.int (d:Int)]]
structure Bk(tk:D)(m:Nat)(rs:List Rw)(tr:List (List Int))(L b kp d0:Nat)(ks:List Ky)(s:Za):Prop where
 ob:s[b]?=some (true,.int 263 :: bkF tk m rs tr L kp (d0+ks.length))
 ke:s[kp]?=some (true,ks.map (enE m rs L))
 ne:b≠kp
structure Fit(m:Nat)(rs:List Rw)(tr:List (List Int))(L:Nat):Prop where
 r:Rs m rs
 b:m<=900
 t:Trs m tr
 l:L<=800
def JA(rs:Li Rw):Cd->Prop
 |none=>True
 |some p=>p∈cdL rs
variable{dn d0:Nat}{t:Li Int}{es:Li D}{f:Str}{cd:Cd}
theorem Bk.grw(h:Bk tk m rs tr L bo kp d0 ks s)(g:Grw s st):Bk tk m rs tr L bo kp d0 ks st:=⟨g.get h.ob,g.get h.ke,h.ne⟩
theorem Y0:YK (bkF tk m rs tr L kp dn) (S "program")=some (pgD tk m rs)/\YK (bkF tk m rs tr L kp dn) (S "trials")=some (.tup (tr.map inD))/\YK (bkF tk m rs tr L kp dn) (S "limit")=jN L/\YK (bkF tk m rs tr L kp dn) (S "kept")=some (.dic kp)/\YK (bkF tk m rs tr L kp dn) (S "done")=jN dn:=by
 have c:∀ {x:Str},decide (x=x)=true:=aG rfl;have b:decide (S "program"=S "trials")=false/\decide (S "program"=S "limit")=false/\decide (S "program"=S "kept")=false/\decide (S "program"=S "done")=false/\decide (S "trials"=S "limit")=false/\decide (S "trials"=S "kept")=false/\decide (S "trials"=S "done")=false/\decide (S "limit"=S "kept")=false/\decide (S "limit"=S "done")=false/\decide (S "kept"=S "done")=false:=by decide +kernel
 obtain⟨l,k,j,i,h,g,f,e,d,a⟩:=b;unfold YK bkF;refine⟨?_,?_,?_,?_,?_⟩<;>simp only[List.find?,isK,c,l,k,j,i,h,g,f,e,d,a]<;>rfl
theorem Y.fl(b:s[w]?=some (bb,.int k' :: es))(h:Y F s a U (.dic w))(hd:YK es f=some d):Y F s (.fld f a) U d:=g1 h (gs λst g=>by
 show(match st[w]? with
  |some (_,.int _ :: es)=>(match YK es f with
   |some v=>some (v,st)
   |none=>none)
  |_=>none)=_
 rw[g.get b];show(match YK es f with
   |some v=>some (v,st)
   |none=>none)=_
 rw[hd])
theorem Zew(a:s[w]?=some (bb,.int 263 :: es)):Zev s (.dic w)=some 263:=by
 show(match s[w]? with
  |some (_,.int c :: _)=>some c.toNat
  |_=>none)=_
 rw[a];rfl
theorem Y3{tab:Li (Nat×Nat)}(f:st1[w]?=some (bb,.int 263 :: es))(h:ev F a U st=some (.dic w,st1))(e:tab.lookup 263=some j)(g:ev F b U st1=some (.tup xs,st')):ev F (.meth tab a b) U st=F j (.dic w :: xs) st':=by
 show Wy F tab (ev F a) (ev F b) U st=_;unfold Wy;rw[h];show(match (Zev st1 (.dic w)).bind λc=>tab.lookup c with
  |some j=>(match ev F b U st1 with
   |some (.tup xs,d)=>F j (.dic w :: xs) d
   |_=>none)
  |none=>none)=_
 rw[Zew f,oB7,e];show(match ev F b U st1 with
   |some (.tup xs,d)=>F j (.dic w :: xs) d
   |_=>none)=_
 rw[g]
theorem Y.meth{tab:Li (Nat×Nat)}(n:s[w]?=some (bb,.int 263 :: es))(o:Y F s a U (.dic w))(m:tab.lookup 263=some j)(p:Y F s b U (.tup xs))(h:C F s j (.dic w :: xs) d):Y F s (.meth tab a b) U d:=λst g=>by
 obtain⟨k,t,c⟩:=o st g;obtain⟨i,r,e⟩:=p k (g.trans c);obtain⟨f,q,l⟩:=h i (g.trans (c.trans e));exact⟨f,(Y3 ((g.trans c).get n) t m r).trans q,c.trans (e.trans l)⟩
theorem Zf7(a:Fit m rs tr L)(b:Bk tk m rs tr L bo kp d0 ks s)(f:JA rs cd):C (rT (n+3)) s 265 [.dic bo,kdE cd] (pgD tk m (rO rs cd)):=.of (v:=c_Book_program_of) rfl rfl (by
 have c:=Y0 (tk:=tk) (m:=m) (rs:=rs) (tr:=tr) (L:=L) (kp:=kp) (dn:=ks.length);cases cd with
 |none=>exact .yes (.r rf) (.fl b.ob (.r rf) c.1)
 |some p=>
  have e:p.1 < rs.length:=by
   obtain⟨u,d,rfl⟩:=aR.mp (show p∈(fkL rs).map λp=>(p.1,p.2.2) from f)
   exact(W4 a.r d).1
  have i:=a.r.l;refine .no (.cmp (x:=.tup [.int (p.1:Int),rwE p.2]) (y:=.tup []) (.r rf) (.r rf) λst=>?_) (.ret (.call (xs:=[pgD tk m rs,.int (p.1:Int),rwE p.2]) (.cons (.fl b.ob (.r rf) c.1) (.cons (.r rf) (.cons (.r rf) .nil))) (Zds e (by omega))))
  show(match eqT [.int (p.1:Int),rwE p.2] (.tup []) with
   |some k=>some k
   |none=>QN st [.int (p.1:Int),rwE p.2] [])=_
  have:eqT [.int (p.1:Int),rwE p.2] (.tup [])=some false:=by
   unfold eqT;have:okD 8 (.tup [.int (p.1:Int),rwE p.2])=true:=by
    have h:∀ {o:Op},okD 6 (opE o)=true:=λ{o}=>by cases o<;>rfl
    show(true&&(okD 7 (rwE p.2)&&true))=true;cases p.2 with
    |put x y g z=>show(true&&((true&&(true&&(okD 6 (opE y)&&(true&&(okD 6 (opE z)&&true)))))&&true))=true;rw[h,h];rfl
    |ifr y g z t=>show(true&&((true&&(okD 6 (opE y)&&(true&&(okD 6 (opE z)&&(true&&true)))))&&true))=true;rw[h,h];rfl
    |tell y=>show(true&&((true&&(okD 6 (opE y)&&true))&&true))=true;rw[h];rfl
    |_=>rfl
   rw[this];rfl
  rw[this])
theorem Y.ky(c:Bk tk m rs tr L bo kp d0 ks s)(d:Y F s a U (kyE (cd,t)))(hd:Y F s b U (.dic kp)):Y F s (.cmp .NotIn a b) U (.bl (!decide ((cd,t)∈ks))):=g2 d hd (gs λst g=>by
 show Z3 .NotIn (kyE (cd,t)) (.dic kp) st=_;unfold Z3;have:Xf .NotIn (kyE (cd,t)) (.dic kp) st=some (!decide ((cd,t)∈ks)):=by
  show(((match st[kp]? with
   |some (_,xs)=>if Yh xs=false/\okN 8 (kyE (cd,t))=true then some (ZR xs (kyE (cd,t))) else none
   |none=>none)).map Option.isSome).map Bool.not=_
  rw[g.get c.ke];show(((if Yh (ks.map (enE m rs L))=false/\okN 8 (kyE (cd,t))=true then some (ZR (ks.map (enE m rs L)) (kyE (cd,t))) else none)).map Option.isSome).map Bool.not=_
  rw[if_pos ⟨Ug,Uh⟩,Vg];by_cases h:(cd,t)∈ks
  .rw[if_pos h,aG h];rfl
  .rw[if_neg h,aE h];rfl
 rw[this])
theorem Y.kv(c:Bk tk m rs tr L bo kp d0 ks s)(d:Y F s a U (kyE (cd,t)))(hd:Y F s b U (.dic kp))(h:(cd,t)∈ks):Y F s (.ix b a) U (vlE m rs L (cd,t)):=g2 hd d (gs λst g=>by
 show ixR (.dic kp) (kyE (cd,t)) st=_;unfold ixR;have:ixD (.dic kp) (kyE (cd,t)) st=some (vlE m rs L (cd,t)):=by
  show(match st[kp]? with
   |some (_,xs)=>if Yh xs=false/\okN 8 (kyE (cd,t))=true then some (ZR xs (kyE (cd,t))) else none
   |none=>none).join=_
  rw[g.get c.ke];show(if Yh (ks.map (enE m rs L))=false/\okN 8 (kyE (cd,t))=true then some (ZR (ks.map (enE m rs L)) (kyE (cd,t))) else none).join=_
  rw[if_pos ⟨Ug,Uh⟩,Vg,if_pos h];rfl
 rw[this])
def Xj(a:Cd)(ks:Li Ky)(l:Li (Li Int)):Li Ky:=l.foldl (λks t=>Xe ks (a,t)) ks
variable{st3 st4:Za}
theorem ZfZ(g:ev F e U st=some (d,st1))(f:ev F a U st1=some (.dic w,st2))(c:ev F b U st2=some (.tup xs,st3))(h:dput w (.tup xs) d st3=some st4):ex F (.dput i a b e) U st=some (.nx U,st4):=by
 show Wm (ev F a) (ev F b) (ev F e) U st=_;unfold Wm;simp only[g,f,c,h]
theorem YT{c:Int}(b:ev F e U st=some (d,st1))(h:U[i]?=some (some (.dic w)))(a:st1[w]?=some (true,.int c :: es))(hl:es.length < 900):ex F (.fset i f e) U st=some (.nx U,st1.set w (true,.int c :: Yb f d es)):=by
 show VS i f (ev F e) U st=_;unfold VS;simp only[b,h,a];rw[if_pos hl]
theorem Zcb:Yb (S "done") (.int ((dn+1:Nat):Int)) (bkF tk m rs tr L kp dn)=bkF tk m rs tr L kp (dn+1):=by
 have b:∀ {x:Str},decide (x=x)=true:=aG rfl;have a:decide (S "program"=S "done")=false/\decide (S "trials"=S "done")=false/\decide (S "limit"=S "done")=false/\decide (S "kept"=S "done")=false:=by decide +kernel
 obtain⟨f,e,d,c⟩:=a;unfold bkF;simp only[Yb,isK,b,f,e,d,c,bV,if_false,if_true];rfl
theorem ZgN(a:Fit m rs tr L)(c:JA rs cd):Rs m (rO rs cd):=by
 cases cd with
 |none=>exact a.r
 |some p=>
  obtain⟨u,b,rfl⟩:=aR.mp (show p∈(fkL rs).map λp=>(p.1,p.2.2) from c)
  exact a.r.set (W4 a.r b).2
theorem ZeU{l:Li D}(h:l≠[]):(x :: l).getLastD y=l.getLastD y:=by
 cases l with
 |nil=>exact absurd rfl h
 |cons a l=>rfl
theorem XD{k:Ky}:(Xe ks k).length<=ks.length+1:=by
 unfold Xe;split
 .omega
 .rw[aI];exact aF _
theorem Zec(hn:ks.length < 900000)(o:Fit m rs tr L)(c:Bk tk m rs tr L bo kp d0 ks s)(hc:JA rs cd)(Z:t∈tr):∃ st',rT (n+7) 266 [.dic bo,kdE cd,inD t] s=some (oD (ocP m (rO rs cd) L t),st')/\Kb bo kp s st'/\Bk tk m rs tr L bo kp d0 (Xe ks (cd,t)) st':=by
 have y:=λdn=>Y0 (tk:=tk) (m:=m) (rs:=rs) (tr:=tr) (L:=L) (kp:=kp) (dn:=dn)
 have x:∀ {s:Za}{ks:Li Ky}{z:Ot D},Bk tk m rs tr L bo kp d0 ks s->(cd,t)∈ks->Y (rT (n+6)) s (.ix (.ix (.fld (S "kept") (.v 0)) (.tupE (.aC (.v 1) (.u (.v 2))))) (.i 0)) [some (.dic bo),some (kdE cd),some (inD t),z] (oD (ocP m (rO rs cd) L t)):=λc h=>.ixt (j:=0) (xs:=[oD (ocP m (rO rs cd) L t),.int (ZL (sn (rO rs cd) L 0 (v0 m t)):Int)]) (.kv (cd:=cd) (t:=t) c (.r rf) (.fl c.ob (.r rf) (y _).2.2.2.1) h) (.r rf) rfl
 obtain⟨R,B,p⟩:=Y.ky (F:=rT (n+6)) (cd:=cd) (t:=t) (a:=.tupE (.aC (.v 1) (.u (.v 2)))) (b:=.fld (S "kept") (.v 0)) (U:=[some (.dic bo),some (kdE cd),some (inD t),none]) c (.r rf) (.fl c.ob (.r rf) (y _).2.2.2.1) s .refl;unfold Xe;by_cases h:(cd,t)∈ks
 .rw[aG h]at B
  obtain⟨E,P,w⟩:=x (z:=none) (c.grw p) h R .refl;rw[if_pos h];exact⟨E,Z6 (v:=c_Book_outcome_of) rfl rfl ((Zb ((ZN B).trans Ze)).trans (Zm (ZC P))),(p.trans w).kb,c.grw (p.trans w)⟩
 .rw[aE h]at B
  rw[if_neg h];have T:=ZgN o hc;have C:=o.t.l t Z;have ts:=o.t.s t Z;have mb:=o.b;have y3:Y (rT (n+6)) s (.call 12 (.aC (.meth [(263,265)] (.v 0) (.u (.v 1))) (.aC (.v 2) (.u (.fld (S "limit") (.v 0))))) []) [some (.dic bo),some (kdE cd),some (inD t),none] (.tup (stD 0 (v0 m t) :: tl (rO rs cd) L 0 (v0 m t))):=.call (xs:=[pgD tk m (rO rs cd),inD t,.int (L:Int)]) (.cons (.meth c.ob (.r rf) rfl (.cons (.r rf) .nil) (Zf7 o c hc)) (.cons (.r rf) (.cons (.fl c.ob (.r rf) (y _).2.2.1) .nil))) (ZbT T (by omega) C ts o.l)
  obtain⟨E,P,w⟩:=y3 R p;have lo:(stD 0 (v0 m t) :: tl (rO rs cd) L 0 (v0 m t)).getLastD .non=oD (ocP m (rO rs cd) L t):=by
   rw[ZeU QS,Vw,Ze2];rfl
  have hL:=o.l;have ll:(stD 0 (v0 m t) :: tl (rO rs cd) L 0 (v0 m t)).length<=100000:=by
   have:=U9 (rs:=rO rs cd) (M:=L) (k:=0) (vs:=v0 m t);rw[aP];omega
  have rl:=T.l;have y4:Y (rT (n+6)) s (.tupE (.aC (.ix (.v 3) (.neg (.i 1))) (.u (.call 44 (.u (.v 3)) [])))) [some (.dic bo),some (kdE cd),some (inD t),some (.tup (stD 0 (v0 m t) :: tl (rO rs cd) L 0 (v0 m t)))] (vlE m rs L (cd,t)):=.cons (by rw[<-lo];exact .lastT (.r rf) (dQ _ _) ll) (.cons (.call1 (.r rf) (Zee hL λz hz=>by have:=ZdW z hz;omega)) .nil)
  obtain⟨s3,e3,k3⟩:=y4 E (p.trans w);have g3:=p.trans (w.trans k3);obtain⟨A,e4,k4⟩:=Y.fl (F:=rT (n+6)) (a:=.v 0) (U:=[some (.dic bo),some (kdE cd),some (inD t),some (.tup (stD 0 (v0 m t) :: tl (rO rs cd) L 0 (v0 m t)))]) c.ob (.r rf) (y _).2.2.2.1 s3 g3;have O:=g3.trans k4;have N:=O.get c.ke;have ho:=O.get c.ob;have V:dput kp (kyE (cd,t)) (vlE m rs L (cd,t)) A=some (A.set kp (true,(ks++[(cd,t)]).map (enE m rs L))):=by
   unfold dput;rw[N];show(if ((Yh (ks.map (enE m rs L))=false/\okN 8 (kyE (cd,t))=true)/\Xp (vlE m rs L (cd,t))=true)/\(ks.map (enE m rs L)).length < Zn/\(ks.map (enE m rs L)).any (XO (kyE (cd,t)))=false then _ else none)=_
   rw[if_pos ⟨⟨⟨Ug,Uh⟩,rfl⟩,by rw[aD];unfold Zn;omega,by rw[UD,aE h]⟩,aX]
   rfl
  obtain⟨g,e⟩:∃ g,A.set kp (true,(ks++[(cd,t)]).map (enE m rs L))=g:=⟨_,rfl⟩;have W:g[bo]?=some (true,.int 263 :: bkF tk m rs tr L kp (d0+ks.length)):=by rw[<-e,Zk (Zd N),if_neg (Ne.symm c.ne)];exact ho
  have d5:g[kp]?=some (true,(ks++[(cd,t)]).map (enE m rs L)):=by rw[<-e,Zk (Zd N),if_pos rfl]
  have J:Kb bo kp A g:=by rw[<-e];exact .setK
  rw[e]at V;have y6:Y (rT (n+6)) g (.bin .Add (.fld (S "done") (.v 0)) (.i 1)) [some (.dic bo),some (kdE cd),some (inD t),some (.tup (stD 0 (v0 m t) :: tl (rO rs cd) L 0 (v0 m t)))] (.int ((d0+ks.length+1:Nat):Int)):=by
   rw[bY];exact .add (.fl W (.r rf) (y _).2.2.2.2) (.r rf)
  obtain⟨Q,e6,K⟩:=y6 g .refl;have H:=K.get W;have G:=YT (f:=S "done") (i:=0) e6 rfl H (by show 5 < 900;decide)
  rw[Zcb]at G;obtain⟨q,d⟩:∃ q,Q.set bo (true,.int 263 :: bkF tk m rs tr L kp (d0+ks.length+1))=q:=⟨_,rfl⟩;rw[d]at G;have b7:Bk tk m rs tr L bo kp d0 (ks++[(cd,t)]) q:=by
   refine⟨?_,?_,c.ne⟩
   .rw[<-d,Zk (Zd H),if_pos rfl,aI];rfl
   .rw[<-d,Zk (Zd H),if_neg c.ne];exact K.get d5
  have I:Kb bo kp Q q:=by rw[<-d];exact .setB
  obtain⟨s8,e8,X⟩:=x (z:=some (.tup (stD 0 (v0 m t) :: tl (rO rs cd) L 0 (v0 m t)))) b7 (bE.mpr (.inr lQ7)) q .refl;exact⟨s8,Z6 (v:=c_Book_outcome_of) rfl rfl ((Zb ((Z5 B).trans ((Zb (Zi P)).trans ((Zb (ZfZ e3 e4 rfl V)).trans ((Zb G).trans Ze))))).trans (Zm (ZC e8))),O.kb.trans (J.trans (K.kb.trans (I.trans X.kb))),b7.grw X⟩
theorem YO{l:Li (Li Int)}:∀ {ks:Li Ky},(Xj cd ks l).length<=ks.length+l.length:=by
 induction l with
 |nil=>intro ks;exact aF _
 |cons t l a=>
  intro ks;have c:(Xj cd (Xe ks (cd,t)) l).length<=_:=a;have b:=XD (ks:=ks) (k:=(cd,t));show(Xj cd (Xe ks (cd,t)) l).length<=_;rw[aP];omega
theorem Zbf(j:Fit m rs tr L)(n:JA rs cd){F:Nat->Fn}{g:D->Za->Res}(c:∀ t ks s,t∈tr->ks.length < 900000->Bk tk m rs tr L bo kp d0 ks s->∃ st',g (inD t) s=some (oD (ocP m (rO rs cd) L t),st')/\Kb bo kp s st'/\Bk tk m rs tr L bo kp d0 (Xe ks (cd,t)) st'):∀ {l:Li (Li Int)}{ks:Li Ky}{s:Za},(∀ t∈l,t∈tr)->ks.length+l.length < 900000->Bk tk m rs tr L bo kp d0 ks s->∃ st',ZF (λ_=>True) g (λ_ st=>some (.bl true,st)) (l.map inD) s=some ((l.map (ocP m (rO rs cd) L)).map oD,st')/\Kb bo kp s st'/\Bk tk m rs tr L bo kp d0 (Xj cd ks l) st'
 |[],ks,s,_,_,a=>⟨s,if_pos trivial,Grw.refl.kb,a⟩
 |t :: l,ks,s,b,i,a=>by
  rw[aP]at i;obtain⟨v,p,f,r⟩:=c t ks s (b t lQ7) (by omega) a
  have w:=XD (ks:=ks) (k:=(cd,t));obtain⟨d,o,e,q⟩:=Zbf j n (F:=F) c (l:=l) (λu h=>b u (lM7 _ h)) (by omega) r
  refine⟨d,?_,f.trans e,q⟩;rw[aJ,ZF,if_pos trivial];simp only[p,o,aJ]
theorem JJ(q:ks.length < 800000)(i:Fit m rs tr L)(e:Bk tk m rs tr L bo kp d0 ks s)(w:JA rs cd):∃ st' j,rT (n+8) 267 [.dic bo,kdE cd] s=some (.lst j,st')/\st'[j]?=some (true,(tr.map (ocP m (rO rs cd) L)).map oD)/\s.length<=j/\Kb bo kp s st'/\Bk tk m rs tr L bo kp d0 (Xj cd ks tr) st':=by
 have B:=i.t.n;obtain⟨f,k,b⟩:=Y.fl (F:=rT (n+7)) (a:=.v 0) (U:=[some (.dic bo),some (kdE cd)]) e.ob (.r rf) (Y0 (tk:=tk) (m:=m) (rs:=rs) (tr:=tr) (L:=L) (kp:=kp) (dn:=d0+ks.length)).2.1 s .refl;obtain⟨o,y,p,z⟩:=Zbf i w (F:=rT (n+7)) (g:=λd s=>ev (rT (n+7)) (.meth [(263,266)] (.v 2) (.aC (.v 1) (.u (.v 0)))) (ZJ one [some (.dic bo),some (kdE cd)] [1,0] d) s) (λt ks s x q e=>by
  obtain⟨f,k,b,A⟩:=Zec (n:=n) q i e w x;exact⟨f,(Y3 (st':=s) e.ob rfl rfl rfl).trans k,b,A⟩) (l:=tr) (λ_ h=>h) (by omega) (e.grw b)
 refine⟨o++[(true,(tr.map (ocP m (rO rs cd) L)).map oD)],o.length,Z6 (v:=c_Book_outcomes_of) rfl rfl (Zm (ZC ?_)),Zl,aK b.len p.len,b.kb.trans (p.trans Grw.push.kb),z.grw .push⟩;show ZT one (Yv false) [1,0] (ev (rT (n+7)) (.fld (S "trials") (.v 0))) (ev (rT (n+7)) (.meth [(263,266)] (.v 2) (.aC (.v 1) (.u (.v 0))))) (ev (rT (n+7)) (.c (.bl true))) [some (.dic bo),some (kdE cd)] s=_
 unfold ZT;rw[k];show(if (tr.map inD).length<=1000 then _ else none)=_
 rw[if_pos (by rw[aD];omega)]
 show(match ZF (λ_=>True) (λd s=>ev (rT (n+7)) (.meth [(263,266)] (.v 2) (.aC (.v 1) (.u (.v 0)))) (ZJ one [some (.dic bo),some (kdE cd)] [1,0] d) s) (λ_ st=>some (.bl true,st)) (tr.map inD) f with
  |some (ys,st2)=>some (D.lst st2.length,st2++[(true,ys)])
  |none=>none)=_
 rw[y]
def UA(a:Li (Li Int))(ks:Li Ky)(l:Li (Nat×Rw)):Li Ky:=l.foldl (λks p=>Xj (some p) ks a) ks
variable{j0 j1:Nat}
theorem ZaX{l:Li (Nat×Rw)}:∀ {ks:Li Ky},(UA tr ks l).length<=ks.length+l.length * tr.length:=by
 induction l with
 |nil=>intro ks;show ks.length<=_;omega
 |cons p l a=>
  intro ks;have c:(UA tr (Xj (some p) ks tr) l).length<=_:=a;have b:=YO (cd:=some p) (ks:=ks) (l:=tr);show(UA tr (Xj (some p) ks tr) l).length<=_;rw[aP,Nat.add_mul];omega
theorem JU{i:ZI}{b0:Bool}(q:Fit m rs tr L){g:D->Za->Res}(h:∀ p ks s,p∈cdL rs->ks.length < 800000->Bk tk m rs tr L bo kp d0 ks s->s[j0]?=some (b0,(tr.map (ocP m rs L)).map oD)->∃ st',g (kdE (some p)) s=some (.int (btL m rs L tr p:Int),st')/\Kb bo kp s st'/\Bk tk m rs tr L bo kp d0 (Xj (some p) ks tr) st')(a:j0≠bo/\j0≠kp/\j1≠bo/\j1≠kp):∀ {l:Li (Nat×Rw)}{ks:Li Ky}{s:Za},(∀ p∈l,p∈cdL rs)->ks.length+l.length * tr.length < 800000->Bk tk m rs tr L bo kp d0 ks s->s[j0]?=some (b0,(tr.map (ocP m rs L)).map oD)->s[j1]?=some i->∃ st',ZF (λs=>s[j1]?=some i) g (λ_ st=>some (.bl true,st)) (l.map λp=>kdE (some p)) s=some (l.map λp=>.int (btL m rs L tr p:Int),st')/\Kb bo kp s st'/\Bk tk m rs tr L bo kp d0 (UA tr ks l) st'
 |[],ks,s,_,_,d,e,b=>⟨s,if_pos b,Grw.refl.kb,d⟩
 |p :: l,ks,s,f,o,d,e,b=>by
  rw[aP,Nat.add_mul]at o;obtain⟨x,t,c,w⟩:=h p ks s (f p lQ7) (by omega) d e
  have y:=YO (cd:=some p) (ks:=ks) (l:=tr);obtain⟨j,r,k,v⟩:=JU q h a (l:=l) (λu n=>f u (lM7 _ n)) (by omega) w (c.get e a.1 a.2.1) (c.get b a.2.2.1 a.2.2.2)
  refine⟨j,?_,c.trans k,v⟩;rw[aJ,ZF,if_pos b];simp only[t,r,aJ]
def JN(rs:Li Rw)(tr:Li (Li Int))(ks:Li Ky):Li Ky:=UA tr (Xj none ks tr) (cdL rs)
theorem JB(B:ks.length < 700000)(f:Fit m rs tr L)(b:Bk tk m rs tr L bo kp d0 ks s):∃ st',rT (n+9) 268 [.dic bo] s=some (.tup ((cdL rs).map λp=>.int (btL m rs L tr p:Int)),st')/\Kb bo kp s st'/\Bk tk m rs tr L bo kp d0 (JN rs tr ks) st':=by
 have H:=f.t.n;have fl:=Xb (rs:=rs);have rl:=f.r.l;have cl:(cdL rs).length<=600:=by unfold cdL;rw[aD];omega
 have cm:(cdL rs).length * tr.length<=600 * 11:=Nat.mul_le_mul cl H;have N:=Zd b.ob;have M:=Zd b.ke;obtain⟨e,j0,e1,T,g1,A,E⟩:=JJ (n:=n) (cd:=none) (by omega) f b trivial
 have J:ex (rT (n+8)) (.set 1 (.meth [(263,267)] (.v 0) (.u (.c (.tup []))))) [some (.dic bo),none] s=some (.nx [some (.dic bo),jL j0],e):=Zi ((Y3 (st':=s) b.ob rfl rfl rfl).trans e1);obtain⟨k,e2,j⟩:=Y.fl (F:=rT (n+8)) (a:=.v 0) (U:=[some (.dic bo),jL j0]) E.ob (.r rf) (Y0 (tk:=tk) (m:=m) (rs:=rs) (tr:=tr) (L:=L) (kp:=kp) (dn:=d0+(Xj none ks tr).length)).1 e .refl
 obtain⟨i,j1,e3,C,o,l3⟩:=Qe (n:=n+3) (tk:=tk) f.r k (.refl:Grw k k);have c3:ev (rT (n+8)) (.call 262 (.u (.fld (S "program") (.v 0))) []) [some (.dic bo),jL j0] e=some (.lst j1,i):=by
  show Zq (Zw (ev (rT (n+8)) (.fld (S "program") (.v 0))) (ev (rT (n+8)) .aN) Xg) (Wi (rT (n+8) 262) []) [some (.dic bo),jL j0] e=_;unfold Zq Zw;rw[e2];exact e3
 have b3:=E.grw (j.trans o);have q1:=A.len;have q2:=j.len;have la:=YO (cd:=none) (ks:=ks) (l:=tr);obtain⟨x,Z,O,b4⟩:=JU (g:=λd s=>ev (rT (n+8)) (.call 183 (.aC (.v 1) (.u (.meth [(263,267)] (.v 2) (.u (.v 0))))) []) (ZJ one [some (.dic bo),jL j0] [1,0] d) s) (j0:=j0) (j1:=j1) (b0:=true) f (λp ks s Q B b V=>by
  have N:=Zd b.ob;have M:=Zd b.ke;obtain⟨w,P,X,R,g5,z,b5⟩:=JJ (n:=n) (cd:=some p) B f b Q;have q:=z.get V (by omega) (by omega)
  obtain⟨I,W,y⟩:=Zg2 (n:=n+7) (os:=tr.map (ocP m rs L)) (pq:=tr.map (ocP m (rs.set p.1 p.2) L)) q R w .refl;refine⟨I,?_,z.trans y.kb,b5.grw y⟩;have K:ev (rT (n+8)) (.meth [(263,267)] (.v 2) (.u (.v 0))) [some (kdE (some p)),jL j0,some (.dic bo)] s=some (.lst P,w):=(Y3 (st':=s) b.ob rfl rfl rfl).trans X;show Zq (Zw (ev (rT (n+8)) (.v 1)) (Zw (ev (rT (n+8)) (.meth [(263,267)] (.v 2) (.u (.v 0)))) (ev (rT (n+8)) .aN) Xg) Xg) (Wi (rT (n+8) 183) []) [some (kdE (some p)),jL j0,some (.dic bo)] s=_
  unfold Zq Zw;rw[show ev (rT (n+8)) (CE.v 1) [some (kdE (some p)),some (D.lst j0),some (D.dic bo)] s=some (.lst j0,s) from rfl];dsimp only;rw[K];exact W) ⟨by omega,by omega,by omega,by omega⟩ (l:=cdL rs) (λ_ h=>h) (by omega) b3 ((j.trans o).get T) C
 have c4:ev (rT (n+8)) Xh [some (.dic bo),jL j0] e=some (.lst x.length,x++[(true,(cdL rs).map λp=>.int (btL m rs L tr p:Int))]):=by
  show ZT one (Yv false) [1,0] (ev (rT (n+8)) (.call 262 (.u (.fld (S "program") (.v 0))) [])) (ev (rT (n+8)) (.call 183 (.aC (.v 1) (.u (.meth [(263,267)] (.v 2) (.u (.v 0))))) [])) (ev (rT (n+8)) (.c (.bl true))) [some (.dic bo),jL j0] e=_;unfold ZT;rw[c3];have G:Yv false (.lst j1) i=some ((cdL rs).map λp=>kdE (some p),λs=>s[j1]?=some (true,(cdL rs).map λp=>kdE (some p))):=by
   show(match i[j1]? with
    |some c=>some (c.2,λ(s:Za)=>s[j1]?=some c)
    |none=>none)=_
   rw[C]
  simp only[G];rw[if_pos (by rw[aD];omega)]
  show(match ZF (λs=>s[j1]?=some (true,(cdL rs).map λp=>kdE (some p))) (λd s=>ev (rT (n+8)) (.call 183 (.aC (.v 1) (.u (.meth [(263,267)] (.v 2) (.u (.v 0))))) []) (ZJ one [some (.dic bo),jL j0] [1,0] d) s) (λ_ st=>some (.bl true,st)) ((cdL rs).map λp=>kdE (some p)) i with
   |some (ys,st2)=>some (D.lst st2.length,st2++[(true,ys)])
   |none=>none)=_
  rw[Z]
 exact⟨_,Z6 (v:=c_Book_bits) rfl rfl ((Zb J).trans (Zm (ZC (Yo c4 Zl)))),A.trans ((j.trans o).kb.trans (O.trans Grw.push.kb)),b4.grw .push⟩
theorem JL(a:Bk tk m rs tr L bo kp d0 ks s):C (rT (n+1)) s 269 [.dic bo] (.int ((d0+ks.length:Nat):Int)):=.of (v:=c_Book_runs) rfl rfl (.ret (.fl a.ob (.r rf) Y0.2.2.2.2))
theorem Zf6(a:Bk tk m rs tr L bo kp d0 ks s):C (rT (n+1)) s 270 [.dic bo] (pgD tk m rs):=.of (v:=c_Book_now) rfl rfl (.ret (.fl a.ob (.r rf) Y0.1))
variable{l:Li (Li Int)}{z:Ky}
theorem Wl{α:Type}{n g:α->D}{p:α->Bool}{ok:Za->Prop}{fe fc:D->Za->Res}(f:∀ st,Grw s st->ok st):∀ {l:Li α},(∀ a∈l,Gv s (fc (n a)) (.bl (p a)))->(∀ a∈l,Gv s (fe (n a)) (g a))->∀ st,Grw s st->∃ st',ZF ok fe fc (l.map n) st=some ((l.filter p).map g,st')/\Grw st st'
 |[],_,_,st,k=>⟨st,if_pos (f st k),.refl⟩
 |x :: xs,h,m,st,k=>by
  obtain⟨q,r,e⟩:=h x lQ7 st k;cases c:p x with
  |false=>
   obtain⟨j,o,i⟩:=Wl f (λd b=>h d (lM7 _ b)) (λd b=>m d (lM7 _ b)) q (k.trans e)
   refine⟨j,?_,e.trans i⟩;rw[aJ,ZF,if_pos (f st k),r,c,eI (by rw[c];decide)]
   exact o
  |true=>
   obtain⟨j,o,i⟩:=m x lQ7 q (k.trans e);obtain⟨t,v,u⟩:=Wl f (λd b=>h d (lM7 _ b)) (λd b=>m d (lM7 _ b)) j (k.trans (e.trans i))
   refine⟨t,?_,e.trans (i.trans u)⟩;rw[aJ,ZF,if_pos (f st k),r,c,eJ c];simp only[o,v,aJ]
theorem ZeG{v1 v2 v3 v4 v5:D}:Yb (S "program") v1 []=[.tup [.str "program",v1]]/\Yb (S "trials") v2 [.tup [.str "program",v1]]=[.tup [.str "program",v1],.tup [.str "trials",v2]]/\Yb (S "limit") v3 [.tup [.str "program",v1],.tup [.str "trials",v2]]=[.tup [.str "program",v1],.tup [.str "trials",v2],.tup [.str "limit",v3]]/\Yb (S "kept") v4 [.tup [.str "program",v1],.tup [.str "trials",v2],.tup [.str "limit",v3]]=[.tup [.str "program",v1],.tup [.str "trials",v2],.tup [.str "limit",v3],.tup [.str "kept",v4]]/\Yb (S "done") v5 [.tup [.str "program",v1],.tup [.str "trials",v2],.tup [.str "limit",v3],.tup [.str "kept",v4]]=[.tup [.str "program",v1],.tup [.str "trials",v2],.tup [.str "limit",v3],.tup [.str "kept",v4],.tup [.str "done",v5]]:=by
 have b:decide (S "program"=S "trials")=false/\decide (S "program"=S "limit")=false/\decide (S "program"=S "kept")=false/\decide (S "program"=S "done")=false/\decide (S "trials"=S "limit")=false/\decide (S "trials"=S "kept")=false/\decide (S "trials"=S "done")=false/\decide (S "limit"=S "kept")=false/\decide (S "limit"=S "done")=false/\decide (S "kept"=S "done")=false:=by decide +kernel
 obtain⟨k,j,i,h,g,f,e,d,c,a⟩:=b;refine⟨rfl,?_,?_,?_,?_⟩<;>simp only[Yb,isK,k,j,i,h,g,f,e,d,c,a,bV,if_false]
theorem Zd4(B:tr.length<=10)(C:st[bo]?=some (true,[.int 263])):∃ st' kp,rT (n+2) 264 [.dic bo,pgD tk m rs,.tup (tr.map inD),.int (L:Int)] st=some (.non,st')/\Kj bo st st'/\Bk tk m rs tr L bo kp 0 [] st'/\st.length<=kp:=by
 obtain⟨k,K,o⟩:=Y.call1 (F:=rT (n+1)) (s:=st) (a:=.v 2) (U:=[some (.dic bo),some (pgD tk m rs),some (.tup (tr.map inD)),jN L]) (.r rf) (Qd (n:=n) (s:=st) (xs:=tr.map inD) (by rw[aD];exact B)) st .refl
 have y:=o.get C;have st1:∀ {s:Za}{c c':ZI},s[bo]?=some c->(s.set bo c')[bo]?=some c':=λh=>by rw[Zk (Zd h),if_pos rfl]
 have kj:∀ {s:Za}{c':ZI},Kj bo s (s.set bo c'):=λ{s c'}=>⟨λi _ h=>by rw[bI (Ne.symm h)],by rw[bC];exact aF _⟩
 obtain⟨b,g⟩:∃ b,((k.set bo (true,[.int 263,.tup [.str "program",pgD tk m rs]])).set bo (true,[.int 263,.tup [.str "program",pgD tk m rs],.tup [.str "trials",.tup (tr.map inD)]])).set bo (true,[.int 263,.tup [.str "program",pgD tk m rs],.tup [.str "trials",.tup (tr.map inD)],.tup [.str "limit",.int (L:Int)]])=b:=⟨_,rfl⟩;obtain⟨J,I,H,G,E⟩:=ZeG (v1:=pgD tk m rs) (v2:=.tup (tr.map inD)) (v3:=.int (L:Int)) (v4:=.dic b.length) (v5:=.int ((0:Nat):Int))
 have w:=YT (F:=rT (n+1)) (U:=[some (.dic bo),some (pgD tk m rs),some (.tup (tr.map inD)),jN L]) (i:=0) (f:=S "program") (e:=.v 1) (st:=k) rfl rfl y (by decide)
 rw[J]at w;have o2:=st1 (c':=(true,[.int 263,.tup [.str "program",pgD tk m rs]])) y;have u:=YT (F:=rT (n+1)) (U:=[some (.dic bo),some (pgD tk m rs),some (.tup (tr.map inD)),jN L]) (i:=0) (f:=S "trials") (e:=.v 2) rfl rfl o2 (by show 1 < 900;decide)
 rw[I]at u;have o3:=st1 (c':=(true,[.int 263,.tup [.str "program",pgD tk m rs],.tup [.str "trials",.tup (tr.map inD)]])) o2;have l:=YT (F:=rT (n+1)) (U:=[some (.dic bo),some (pgD tk m rs),some (.tup (tr.map inD)),jN L]) (i:=0) (f:=S "limit") (e:=.v 3) rfl rfl o3 (by show 2 < 900;decide)
 rw[H]at l;have j:=st1 (c':=(true,[.int 263,.tup [.str "program",pgD tk m rs],.tup [.str "trials",.tup (tr.map inD)],.tup [.str "limit",.int (L:Int)]])) o3;rw[g]at l j;have q:=YT (F:=rT (n+1)) (U:=[some (.dic bo),some (pgD tk m rs),some (.tup (tr.map inD)),jN L]) (i:=0) (f:=S "kept") (e:=.dnew) (st:=b) (d:=.dic b.length) (st1:=b++[(true,[])]) rfl rfl (Grw.push.get j) (by show 3 < 900;decide)
 rw[G]at q;have x:=st1 (c':=(true,[.int 263,.tup [.str "program",pgD tk m rs],.tup [.str "trials",.tup (tr.map inD)],.tup [.str "limit",.int (L:Int)],.tup [.str "kept",.dic b.length]])) ((Grw.push (t:=(true,[]))).get j);have p:=YT (F:=rT (n+1)) (U:=[some (.dic bo),some (pgD tk m rs),some (.tup (tr.map inD)),jN L]) (i:=0) (f:=S "done") (e:=.i 0) rfl rfl x (by show 4 < 900;decide)
 rw[show D.int 0=.int ((0:Nat):Int) from rfl,E]at p;have A:=st1 (c':=(true,.int 263 :: bkF tk m rs tr L b.length 0)) x;have M:=Zd j;have z:Kj bo k b:=by rw[<-g];exact kj.trans (kj.trans kj)
 refine⟨_,b.length,ZcS (v:=c_Book___init__) rfl rfl ((Zb (Uw K)).trans ((Zb w).trans ((Zb u).trans ((Zb l).trans ((Zb q).trans ((Zb p).trans Ze)))))),o.kj.trans (z.trans ((Grw.push (t:=(true,[]))).kj.trans (kj.trans kj))),⟨A,?_,by omega⟩,aK o.len z.len⟩
 rw[bI (by omega),bI (by omega)]
 exact Zl
theorem ZdM(f:tr.length<=10)(h:ev (rT (n+2)) a U st=some (.tup xs,st1))(e:xs++ds=[pgD tk m rs,.tup (tr.map inD),.int (L:Int)]):∃ st' kp,ev (rT (n+2)) (.mk 263 264 a ds) U st=some (.dic st1.length,st')/\Grw st1 st'/\Bk tk m rs tr L st1.length kp 0 [] st'/\st1.length<=kp:=by
 obtain⟨b,kp,g,d,i,c⟩:=Zd4 (n:=n) (tk:=tk) (m:=m) (rs:=rs) (L:=L) (bo:=st1.length) f (Zl (s:=st1) (t:=(true,[.int 263])));refine⟨b,kp,?_,d.grw (aF _) .push,i,?_⟩
 .show Zq (ev (rT (n+2)) a) (mkR (rT (n+2)) 263 264 ds) U st=_
  unfold Zq;rw[h];show(match rT (n+2) 264 (.dic st1.length :: (xs++ds)) (st1++[(true,[.int 263])]) with
   |some (.non,st')=>some (D.dic st1.length,st')
   |_=>none)=_
  rw[e,g]
 .rw[aI]at c;omega
theorem Qi{α:Type}[DecidableEq α]{c:α->D}(inj:∀ a b,c a=c b->a=b)(self:∀ a,Zr (c a) (c a)=true){x:α}:∀ {l:Li α},(l.map c).any (λd=>Zr d (c x))=decide (x∈l)
 |[]=>rfl
 |a :: l=>by
  have:Zr (c a) (c x)=decide (a=x):=by
   by_cases h:a=x
   .rw[h,aG rfl];exact self x
   .rw[aE h]
    cases q:Zr (c a) (c x) with
    |false=>rfl
    |true=>exact absurd (inj _ _ (W0 q)) h
  rw[aJ,cJ,Qi inj self,this,<-dB];exact decide_eq_decide.mpr ⟨λh=>aH.mpr (h.imp Eq.symm id),λh=>(aH.mp h).imp Eq.symm id⟩
theorem Wz{α:Type}{b:α->D}{n:Nat}(h:∀ a,okD n (b a)=true):∀ {l:Li α},ZZ n (l.map b)=true
 |[]=>rfl
 |a :: l=>by
  show(okD n (b a)&&ZZ n (l.map b))=true;rw[h,Wz h];rfl
structure En{α:Type}[DecidableEq α](en:α->D):Prop where
 inj:∀ a b,en a=en b->a=b
 self:∀ a,Zr (en a) (en a)=true
 ok:∀ a,okD 8 (en a)=true
 tp:∀ a,∃ xs,en a=.tup xs
theorem ZaH[DecidableEq α]{a:α->D}(E:En a){x:α}{l:Li α}[Decidable (x∈l)]{q:Nat}(h:st[q]?=some (bb,l.map a)):inS st (a x) (.lst q)=some (decide (x∈l)):=by
 obtain⟨xs,c⟩:=E.tp x;have ok:=E.ok x;have b:=Qi E.inj E.self (x:=x) (l:=l);rw[c]at ok b ⊢;show(match st[q]? with
  |some (_,ys)=>if okD 8 (.tup xs)&&ZZ 8 ys then some (ys.any λd=>Zr d (.tup xs)) else none
  |none=>none)=_
 rw[h];show(if okD 8 (.tup xs)&&ZZ 8 (l.map a) then some ((l.map a).any λd=>Zr d (.tup xs)) else none)=_
 rw[ok,Wz E.ok,b];exact congrArg some (decide_eq_decide.mpr Iff.rfl)
theorem Y.inE[DecidableEq α]{c:α->D}(E:En c){x:α}{l:Li α}[Decidable (x∈l)](j:Y F s a U (c x))(i:Lv s (ev F b U) (l.map c)):Y F s (.cmp .In a b) U (.bl (decide (x∈l))):=λst g=>by
 obtain⟨f,n,e⟩:=j st g;obtain⟨d,q,bb,m,k,h⟩:=i f (g.trans e);refine⟨d,?_,e.trans h⟩;show Zw (ev F a) (ev F b) (Z3 .In) U st=_;unfold Zw;simp only[n,m];unfold Z3;rw[show Xf .In (c x) (.lst q) d=inS d (c x) (.lst q) from rfl,ZaH E k]
theorem Y.niE[DecidableEq α]{c:α->D}(E:En c){x:α}{l:Li α}[Decidable (x∈l)](j:Y F s a U (c x))(i:Lv s (ev F b U) (l.map c)):Y F s (.cmp .NotIn a b) U (.bl (!decide (x∈l))):=λst g=>by
 obtain⟨f,n,e⟩:=j st g;obtain⟨d,q,bb,m,k,h⟩:=i f (g.trans e);refine⟨d,?_,e.trans h⟩;show Zw (ev F a) (ev F b) (Z3 .NotIn) U st=_;unfold Zw;simp only[n,m];unfold Z3;rw[show Xf .NotIn (c x) (.lst q) d=(inS d (c x) (.lst q)).map Bool.not from rfl,ZaH E k];rfl
theorem QC{k:Int}:∀ {l:Li Int},Ys k (l.map D.int)=some (decide (k∈l))
 |[]=>rfl
 |x :: M=>by
  show(Ys k (M.map D.int)).map (λb=>decide (x=k)||b)=_
  rw[QC];show some (decide (x=k)||decide (k∈M))=_;rw[<-dB];exact congrArg some (decide_eq_decide.mpr ⟨λh=>aH.mpr (h.imp Eq.symm id),λh=>(aH.mp h).imp Eq.symm id⟩)
theorem Y.inN{l:Li Nat}(n:Y F s a U (.int (k:Int)))(m:Lv s (ev F b U) (inN l)):Y F s (.cmp .In a b) U (.bl (decide (k∈l))):=λst g=>by
 obtain⟨f,r,d⟩:=n st g;obtain⟨c,q,bb,p,o,i⟩:=m f (g.trans d);refine⟨c,?_,d.trans i⟩;show Zw (ev F a) (ev F b) (Z3 .In) U st=_;unfold Zw;simp only[r,p];unfold Z3;have:Xf .In (.int (k:Int)) (.lst q) c=some (decide (k∈l)):=by
  show(match c[q]? with
   |some (_,xs)=>Ys (k:Int) xs
   |none=>none)=_
  rw[o];show Ys (k:Int) (Dp.inN l)=_;rw[show Dp.inN l=(l.map λ(k:Nat)=>(k:Int)).map D.int by unfold Dp.inN;rw[bL];rfl,QC]
  exact congrArg some (decide_eq_decide.mpr ⟨λh=>by obtain⟨z,j,e⟩:=aR.mp h;rw[<-Int.ofNat.inj e];exact j,λh=>aR.mpr ⟨k,h,rfl⟩⟩)
 rw[this]
theorem Ze4:okD (n+1) (opE o)=true:=by cases o<;>cases n<;>rfl
theorem UX{r:Rw}:okD (n+2) (rwE r)=true:=by
 have h:∀ {o:Op},okD (n+1) (opE o)=true:=Ze4;cases r with
 |put x y g z=>show(true&&(true&&(okD (n+1) (opE y)&&(true&&(okD (n+1) (opE z)&&true)))))=true;rw[h,h];rfl
 |ifr y g z t=>show(true&&(okD (n+1) (opE y)&&(true&&(okD (n+1) (opE z)&&(true&&true)))))=true;rw[h,h];rfl
 |tell y=>show(true&&(okD (n+1) (opE y)&&true))=true;rw[h];rfl
 |_=>rfl
theorem En.rw:En rwE:=⟨λ_ _=>U5,λa=>YW (n:=8) QK,λa=>UX,λr=>by cases r<;>exact⟨_,rfl⟩⟩
theorem En.code:En (λp:Nat×Rw=>kdE (some p)):=⟨λa b h=>by
  have h:D.tup [.int (a.1:Int),rwE a.2]=.tup [.int (b.1:Int),rwE b.2]:=h
  injection h with h;injection h with c h;injection h with d _;injection c with c
  exact Prod.ext (Int.ofNat.inj c) (U5 d),λp=>YW (n:=8) (by show(true&&(okN 7 (rwE p.2)&&true))=true;rw[QK];rfl),λp=>by show(true&&(okD 7 (rwE p.2)&&true))=true;rw[UX];rfl,λp=>⟨_,rfl⟩⟩
theorem ZbY{l:Li Nat}:∀ {b:Nat},(l.foldl (λb k=>b ||| 2 ^ k) b).testBit k=(b.testBit k||decide (k∈l)):=by
 induction l with
 |nil=>intro b;rw[aE (λh=>nomatch h),dG];rfl
 |cons x l a=>
  intro b;show(l.foldl _ (b ||| 2 ^ x)).testBit k=_;rw[a,Nat.testBit_or,Nat.testBit_two_pow,Bool.or_assoc,<-dB];exact congrArg _ (decide_eq_decide.mpr ⟨λh=>aH.mpr (h.imp Eq.symm id),λh=>(aH.mp h).imp Eq.symm id⟩)
theorem ZbV{a:Nat}:decide (((a &&& 2 ^ k:Nat):Int)=0)=!a.testBit k:=by
 have:(a &&& 2 ^ k=0)↔a.testBit k=false:=by
  constructor
  .intro h
   have:=congrArg (λz=>z.testBit k) h
   simp only[Nat.testBit_and,Nat.testBit_two_pow_self,dL,Nat.zero_testBit]at this;exact this
  .intro h
   refine Nat.eq_of_testBit_eq λi=>?_
   rw[Nat.testBit_and,Nat.testBit_two_pow,Nat.zero_testBit];by_cases c:k=i
   .rw[<-c,h];rfl
   .rw[aE c,cK]
 cases q:a.testBit k with
 |false=>rw[aG (by rw[this.mpr q];rfl)];rfl
 |true=>rw[aE (λh=>by have:=this.mp (Int.ofNat.inj h);rw[q]at this;cases this)];rfl
theorem Zf4{l:Li Nat}(hk:k<=60):C (rT (n+2)) s 114 [.int (ZL l:Int),.int (k:Int)] (.bl (decide (k∈l))):=by
 have a:Y (rT (n+1)) s (.bin .BitAnd (.v 0) (.call 43 (.u (.v 1)) [])) [jI (ZL l:Int),jN k] (.int ((ZL l &&& 2 ^ k:Nat):Int)):=.bi (.r rf) (.call1 (.r rf) (Zdq hk)) (by
  show(if 0<=(ZL l:Int)/\0<=((2 ^ k:Nat):Int) then some ((((ZL l:Int)).toNat &&& ((2 ^ k:Nat):Int).toNat:Nat):Int) else if 0<=(ZL l:Int)/\((2 ^ k:Nat):Int) < 0 then some ((ZL l:Int) - (((ZL l:Int).toNat &&& (-((2 ^ k:Nat):Int) - 1).toNat:Nat):Int)) else none)=_
  rw[if_pos ⟨dZ _,dZ _⟩,aZ,aZ])
 exact .of (v:=c_has_bit) rfl rfl (.ret (.cmp a (.r rf) λst=>by
  show(some (decide (((ZL l &&& 2 ^ k:Nat):Int)=0))).map Bool.not=_;rw[ZbV];unfold ZL;rw[ZbY,Nat.zero_testBit,Bool.false_or];show some (!!decide (k∈l))=_;rw[Bool.not_not]))
def stB(rs':Li Rw)(k:Nat)(l:Li Nat):Cd->Bool
 |none=>!decide (k∈l)
 |some p=>decide (p∈cdL rs')&&(decide (p.1=k)||!decide (k∈l))
theorem ZeC:∀ {cd:Cd},eqS st (kdE cd) (.tup [])=some cd.isNone
 |none=>rfl
 |some p=>by
  show(match (if okD 8 (.tup [.int (p.1:Int),rwE p.2])&&okD 8 (.tup []) then some (Zy [.int (p.1:Int),rwE p.2] []) else none) with
   |some k=>some k
   |none=>QN st [.int (p.1:Int),rwE p.2] [])=_
  rw[show okD 8 (.tup [.int (p.1:Int),rwE p.2])=true from En.code.ok p];rfl
theorem ZbS{l:Li Nat}(hk:k<=60)(d:s[w]?=some (bb,(cdL rs').map λp=>kdE (some p))):C (rT (n+3)) s 273 [kdE cd,.int (ZL l:Int),.int (k:Int),.lst w] (.bl (stB rs' k l cd)):=by
 have a:∀ {x:D},Y (rT (n+2)) s (.not (.call 114 (.aC (.v 1) (.u (.v 2))) [])) [some x,jI (ZL l:Int),jN k,jL w] (.bl (!decide (k∈l))):=.not (.call (xs:=[.int (ZL l:Int),.int (k:Int)]) (.r rf) (Zf4 hk));have b:Y (rT (n+2)) s (.cmp .Eq (.v 0) (.c (.tup []))) [some (kdE cd),jI (ZL l:Int),jN k,jL w] (.bl cd.isNone):=.cmp (.r rf) (.r rf) λst=>ZeC
 cases cd with
 |none=>exact .of (v:=c_stays) rfl rfl (.yes b a)
 |some p=>exact .of (v:=c_stays) rfl rfl (.no b (.ret (.and (.inE En.code (x:=p) (.r rf) (.v d (.r rf))) λ_=>.or (.cmp (.ixt (j:=0) (xs:=[.int (p.1:Int),rwE p.2]) (.r rf) (.r rf) rfl) (.r rf) λst=>by
   show some (decide ((p.1:Int)=(k:Int)))=_;exact congrArg some (decide_eq_decide.mpr (by omega))) λ_=>a)))
variable{wc:Nat}
theorem Vr:∀ {n p:Nat}{vs:Li Int},k∉sn rs n p vs->ocO (rs.set k r) n p vs=ocO rs n p vs/\sn (rs.set k r) n p vs=sn rs n p vs
 |0,p,vs,_=>by
  refine⟨?_,rfl⟩;unfold ocO;rw[bC]
 |n+1,p,vs,h=>by
  unfold sn at h;cases q:rs[p]? with
  |none=>
   have a:(rs.set k r)[p]?=none:=by rw[cZ,bC];exact cZ.mp q
   have j:mv rs p vs=.inl noD:=by unfold mv;rw[q]
   have i:mv (rs.set k r) p vs=.inl noD:=by unfold mv;rw[a]
   unfold ocO sn;rw[q,a,j,i,bC];exact⟨rfl,rfl⟩
  |some x=>
   have l:=Zd q;have b:k≠p:=λe=>by
    subst e;cases c:mv rs k vs with
    |inl o=>
     rw[c]at h;have h:k∉if rs.length<=k then [] else [k]:=h
     rw[if_neg (by omega)]at h
     exact h lQ7
    |inr u=>rw[c]at h;exact h lQ7
   have a:(rs.set k r)[p]?=some x:=by rw[bI b];exact q
   have d:mv (rs.set k r) p vs=mv rs p vs:=by unfold mv;rw[q,a]
   cases c:mv rs p vs with
   |inl o=>
    unfold ocO sn;rw[d,c,q,a,bC];cases x with
    |tell y=>exact⟨rfl,rfl⟩
    |_=>unfold mv at c;rw[q]at c;cases c
   |inr u=>
    rw[c]at h;have f:=Vr (n:=n) (p:=u.1) (vs:=u.2) λz=>h (lM7 _ z)
    have g:∀ {rs':Li Rw},rs'[p]?=some x->ocO rs' (n+1) p vs=ocO rs' n u.1 u.2:=λ{rs'} e=>by
     show(match rs'[p]? with
      |none=>Oc.no
      |some (.tell y)=>.te (woI vs y)
      |some r=>ocO rs' n (pkN p vs r) (vsN vs r))=_
     rw[e];unfold mv at c;rw[q]at c;cases x with
     |tell y=>cases c
     |_=>cases c;rfl
    refine⟨by rw[g q,g a,f.1],?_⟩
    unfold sn;rw[d,c];show p :: sn (rs.set k r) n u.1 u.2=p :: _;rw[f.2]
theorem Zfy{p:Nat×Rw}:rO (rs.set k r) (some p)=if p.1=k then rO rs (some p) else (rO rs (some p)).set k r:=by
 show(rs.set k r).set p.1 p.2=if p.1=k then rs.set p.1 p.2 else (rs.set p.1 p.2).set k r
 by_cases h:p.1=k
 .rw[if_pos h,h,List.set_set]
 .rw[if_neg h,List.set_comm _ _ (Ne.symm h)]
theorem QP(h:stB rs' k (snP m (rO rs cd) L t) cd=true):ocP m (rO (rs.set k r) cd) L t=ocP m (rO rs cd) L t/\snP m (rO (rs.set k r) cd) L t=snP m (rO rs cd) L t:=by
 cases cd with
 |none=>
  have h:(!decide (k∈snP m rs L t))=true:=h;rw[cY,decide_eq_false_iff_not]at h;exact Vr h
 |some p=>
  have h:(decide (p∈cdL rs')&&(decide (p.1=k)||!decide (k∈snP m (rO rs (some p)) L t)))=true:=h;rw[bA7,bX,decide_eq_true_iff,cY,decide_eq_false_iff_not]at h;rw[Zfy];by_cases c:p.1=k
  .rw[if_pos c];exact⟨rfl,rfl⟩
  .rw[if_neg c]
   exact Vr (h.2.resolve_left λz=>c (of_decide_eq_true z))
def stP(m:Nat)(rs:Li Rw)(L k:Nat)(r:Rw)(z:Ky):Bool:=stB (rs.set k r) k (snP m (rO rs z.1) L z.2) z.1
theorem Zb7(h:stP m rs L k r z=true):enE m rs L z=enE m (rs.set k r) L z:=by
 have:=QP (m:=m) (L:=L) (r:=r) h;unfold enE vlE;rw[this.1,show sn (rO (rs.set k r) z.1) L 0 (v0 m z.2)=sn (rO rs z.1) L 0 (v0 m z.2) from this.2]
theorem Zaa:∀ {ks:Li Ky},(ks.filter (stP m rs L k r)).map (enE m rs L)=(ks.filter (stP m rs L k r)).map (enE m (rs.set k r) L):=List.map_congr_left λz a=>Zb7 (bM.mp a).2
theorem ZaS:∀ {ks:Li Ky},(ks.map (enE m rs L)).filterMap itQ=ks.map λz=>(kyE z,vlE m rs L z)
 |[]=>rfl
 |z :: ks=>by rw[aJ,aJ,<-ZaS];rfl
abbrev chE(bo k:Nat)(r:Rw)(wc w:Nat)(x y:Ot D):Env:=[some (.dic bo),jN k,some (rwE r),jL wc,some (.dic w),x,y]
def fiB:CS->CS
 |.seq _ (.seq _ (.seq _ (.seq (.forI _ _ _ b) _)))=>b
 |_=>.skip
def chB:CS:=fiB c_Book_change.body
theorem ZbJ{ks:Li D}(f:ev F e U st=some (d,st1))(b:U[i0]?=some (some (.dic w)))(c:ev F a U st1=some (.tup ks,st2))(h:dput w (.tup ks) d st2=some st'):ex F (.put i0 a e) U st=some (.nx U,st'):=by
 show U0 i0 (ev F a) (ev F e) U st=_;unfold U0;simp only[f,b,c,h]
theorem Zb6(hk:st[w]?=some (true,ks.map (enE m rs L)))(a:ks.length < 900000)(h:z∉ks):dput w (kyE z) (vlE m rs L z) st=some (st.set w (true,(ks++[z]).map (enE m rs L))):=by
 unfold dput;rw[hk];show(if ((Yh (ks.map (enE m rs L))=false/\okN 8 (kyE z)=true)/\Xp (vlE m rs L z)=true)/\(ks.map (enE m rs L)).length < Zn/\(ks.map (enE m rs L)).any (XO (kyE z))=false then _ else none)=_
 rw[if_pos ⟨⟨⟨Ug,Uh⟩,rfl⟩,by rw[aD];unfold Zn;omega,by rw[UD,aE h]⟩,aX]
 rfl
theorem W1{c0:ZI}(hk:k<=60)(P:w≠wc)(O:w≠kp):∀ {l acc:Li Ky}{x y:Ot D}{st:Za},(acc++l).Nodup->acc.length+l.length < 900000->st[w]?=some (true,acc.map (enE m rs L))->st[wc]?=some (bb,(cdL (rs.set k r)).map λp=>kdE (some p))->st[kp]?=some c0->∃ A t st',ZM (λs=>s[kp]?=some c0) (λx y U s=>ex (rT (n+3)) chB (Zh (Zh U 5 x) 6 y) s) (l.map λz=>(kyE z,vlE m rs L z)) (chE bo k r wc w x y) st=some (.nx (chE bo k r wc w A t),st')/\Kj w st st'/\st'[w]?=some (true,(acc++l.filter (stP m rs L k r)).map (enE m rs L))
 |[],acc,x,y,st,_,_,B,I,C=>⟨x,y,st,if_pos C,Grw.refl.kj,by rw[List.filter_nil,bB];exact B⟩
 |z :: l,acc,x,y,st,o,W,B,I,C=>by
  rw[aP]at W;have S:∀ {st2:Za},ex (rT (n+3)) chB (chE bo k r wc w (some (kyE z)) (some (vlE m rs L z))) st=some (.nx (chE bo k r wc w (some (kyE z)) (some (vlE m rs L z))),st2)->ZM (λs=>s[kp]?=some c0) (λx y U s=>ex (rT (n+3)) chB (Zh (Zh U 5 x) 6 y) s) ((z :: l).map λz=>(kyE z,vlE m rs L z)) (chE bo k r wc w x y) st=ZM (λs=>s[kp]?=some c0) (λx y U s=>ex (rT (n+3)) chB (Zh (Zh U 5 x) 6 y) s) (l.map λz=>(kyE z,vlE m rs L z)) (chE bo k r wc w (some (kyE z)) (some (vlE m rs L z))) st2:=λ{st2} e=>by
   rw[aJ,ZM,if_pos C];show(match ex (rT (n+3)) chB (chE bo k r wc w (some (kyE z)) (some (vlE m rs L z))) st with
    |some (.nx U',st')=>ZM _ _ _ U' st'
    |some (.ct U',st')=>ZM _ _ _ U' st'
    |some (.bk U',st')=>some (.nx U',st')
    |some (.rt v,st')=>some (.rt v,st')
    |none=>none)=_
   rw[e]
  obtain⟨G,q,g⟩:=Y.call (F:=rT (n+3)) (f:=273) (ds:=[]) (xs:=[kdE z.1,.int (ZL (snP m (rO rs z.1) L z.2):Int),.int (k:Int),.lst wc]) (a:=.aC (.ix (.v 5) (.i 0)) (.aC (.ix (.v 6) (.i 1)) (.aC (.v 1) (.u (.v 3))))) (U:=chE bo k r wc w (some (kyE z)) (some (vlE m rs L z))) (.r rf) (ZbS hk I) st .refl;have q:ev (rT (n+3)) _ _ st=some (.bl (stP m rs L k r z),G):=q
  have K:z∉acc:=λh=>by
   have:=(cM.mp o).2.2 z h z lQ7;exact this rfl
  cases c:stP m rs L k r z with
  |false=>
   rw[c]at q;have j:(acc++l).Nodup:=by
    rw[cM]at o ⊢;exact⟨o.1,(bO.mp o.2.1).2,λa Z b X=>o.2.2 a Z b (lM7 _ X)⟩
   obtain⟨A,t,J,Q,M,N⟩:=W1 (c0:=c0) hk P O (x:=some (kyE z)) (y:=some (vlE m rs L z)) j (by omega) (g.get B) (g.get I) (g.get C)
   rw[eI (by rw[c];decide)]
   exact⟨A,t,J,(S ((Zb ((ZN q).trans Ze)).trans Ze)).trans Q,g.kj.trans M,N⟩
  |true=>
   rw[c]at q;have R:=ZbJ (F:=rT (n+3)) (i0:=4) (a:=.v 5) (e:=.v 6) (U:=chE bo k r wc w (some (kyE z)) (some (vlE m rs L z))) (st:=G) rfl rfl rfl (Zb6 (g.get B) (by omega) K)
   obtain⟨E,d⟩:∃ E,G.set w (true,(acc++[z]).map (enE m rs L))=E:=⟨_,rfl⟩;rw[d]at R;have H:=Zd (g.get B);have j:(acc++[z]++l).Nodup:=by rw[bG];exact o
   obtain⟨A,t,J,Q,M,N⟩:=W1 (c0:=c0) hk P O (x:=some (kyE z)) (y:=some (vlE m rs L z)) (l:=l) (acc:=acc++[z]) (st:=E) j (by rw[aI];show _+1+_ < _;omega) (by rw[<-d,Zk H,if_pos rfl]) (by rw[<-d,Zk H,if_neg P];exact g.get I) (by rw[<-d,Zk H,if_neg O];exact g.get C)
   have T:Kj w G E:=⟨λi hi V=>by rw[<-d,Zk H,if_neg (Ne.symm V)],by rw[<-d,bC];exact aF _⟩
   rw[eJ c];exact⟨A,t,J,(S ((Zb ((Z5 q).trans ((Zb R).trans Ze))).trans Ze)).trans Q,g.kj.trans (T.trans M),by rw[N,bG];rfl⟩
theorem Zcd:Yb (S "program") (pgD tk m rs') (bkF tk m rs tr L kp dn)=bkF tk m rs' tr L kp dn:=by
 have a:∀ {x:Str},decide (x=x)=true:=aG rfl;unfold bkF;simp only[Yb,isK,a,if_true];rfl
theorem Zcc:Yb (S "kept") (.dic w) (bkF tk m rs tr L kp dn)=bkF tk m rs tr L w dn:=by
 have b:∀ {x:Str},decide (x=x)=true:=aG rfl;have a:decide (S "program"=S "kept")=false/\decide (S "trials"=S "kept")=false/\decide (S "limit"=S "kept")=false:=by decide +kernel
 obtain⟨e,d,c⟩:=a;unfold bkF;simp only[Yb,isK,b,e,d,c,bV,if_false,if_true];rfl
theorem Kj.get{c:ZI}(k:Kj i st st')(h:st[j]?=some c)(a:j≠i):st'[j]?=some c:=(k.old j (Zd h) a).trans h
theorem Kj.set{c:ZI}:Kj i st (st.set i c):=⟨λj h a=>by rw[bI (Ne.symm a)],by rw[bC];exact aF _⟩
theorem Kj.young{c:Za}(a:Kj i c st)(b:Kj w st st')(h:c.length<=w):Kj i c st':=⟨λj d e=>(b.old j (aT d a.len) (by omega)).trans (a.old j d e),aK a.len b.len⟩
theorem JD(hf:Fit m rs tr L)(K:Rs m (rs.set k r))(hk:k < rs.length)(nd:ks.Nodup)(hn:ks.length < 900000)(o:Bk tk m rs tr L bo kp d0 ks s):∃ st' p X,rT (n+6) 271 [.dic bo,.int (k:Int),rwE r] s=some (.non,st')/\Kj bo s st'/\Bk tk m (rs.set k r) tr L bo p X (ks.filter (stP m rs L k r)) st'/\s.length<=p/\X+(ks.filter (stP m rs L k r)).length=d0+ks.length:=by
 have M:=λrs dn=>Y0 (tk:=tk) (m:=m) (rs:=rs) (tr:=tr) (L:=L) (kp:=kp) (dn:=dn)
 have rl:=hf.r.l;have lb:=Zd o.ob;have lk:=Zd o.ke;obtain⟨Z,e1,z⟩:=Y.call (F:=rT (n+5)) (f:=180) (ds:=[]) (xs:=[pgD tk m rs,.int (k:Int),rwE r]) (a:=.aC (.fld (S "program") (.v 0)) (.aC (.v 1) (.u (.v 2)))) (U:=[some (.dic bo),jN k,some (rwE r),none,none,none,none]) (.cons (.fl o.ob (.r rf) (M rs _).1) (.r rf)) (Zds hk (by omega)) s .refl
 have H:=YT (f:=S "program") (i:=0) e1 rfl (z.get o.ob) (by show 5 < 900;decide)
 rw[Zcd]at H;obtain⟨g,j⟩:∃ g,Z.set bo (true,.int 263 :: bkF tk m (rs.set k r) tr L kp (d0+ks.length))=g:=⟨_,rfl⟩;rw[j]at H;have o2:g[bo]?=some (true,.int 263 :: bkF tk m (rs.set k r) tr L kp (d0+ks.length)):=by rw[<-j,Zk (Zd (z.get o.ob)),if_pos rfl]
 have J:g[kp]?=some (true,ks.map (enE m rs L)):=by rw[<-j,Zk (Zd (z.get o.ob)),if_neg o.ne];exact z.get o.ke
 have T:Kj bo s g:=by rw[<-j];exact z.kj.trans .set
 obtain⟨E,e3,R⟩:=Y.fl (F:=rT (n+5)) (a:=.v 0) (U:=[some (.dic bo),jN k,some (rwE r),none,none,none,none]) o2 (.r rf) (M _ _).1 g .refl;obtain⟨b,wc,e4,W,Q,l4⟩:=Qe (n:=n) (tk:=tk) K E (.refl:Grw E E);have c4:ev (rT (n+5)) (.call 262 (.u (.fld (S "program") (.v 0))) []) [some (.dic bo),jN k,some (rwE r),none,none,none,none] g=some (.lst wc,b):=by
  show Zq (Zw (ev (rT (n+5)) (.fld (S "program") (.v 0))) (ev (rT (n+5)) .aN) Xg) (Wi (rT (n+5) 262) []) _ g=_;unfold Zq Zw;rw[e3];exact e4
 have C:Grw g (b++[(true,[])]):=(R.trans Q).trans .push;have p5:ex (rT (n+5)) (.set 4 .dnew) [some (.dic bo),jN k,some (rwE r),jL wc,none,none,none] b=some (.nx (chE bo k r wc b.length none none),b++[(true,[])]):=Zi rfl;obtain⟨B,e6,t⟩:=Y.fl (F:=rT (n+5)) (a:=.v 0) (U:=chE bo k r wc b.length none none) (C.get o2) (.r rf) (M _ _).2.2.2.1 (b++[(true,[])]) .refl
 have q:=t.get (C.get J);have z2:=T.len;have z4:=(R.trans Q).len;obtain⟨O,N,A,e7,P,V⟩:=W1 (n:=n+2) (bo:=bo) (kp:=kp) (wc:=wc) (w:=b.length) (c0:=(true,ks.map (enE m rs L))) (m:=m) (rs:=rs) (L:=L) (r:=r) (bb:=true) (l:=ks) (acc:=[]) (x:=none) (y:=none) (st:=B) (by omega:k<=60) (dD (Zd W)) (by omega) nd (by show 0+_ < _;omega) (t.get Zl) ((Grw.push.trans t).get W) q
 have p7:ex (rT (n+5)) (.forI 5 6 (.fld (S "kept") (.v 0)) chB) (chE bo k r wc b.length none none) (b++[(true,[])])=some (.nx (chE bo k r wc b.length O N),A):=by
  show VR 5 6 (ev (rT (n+5)) (.fld (S "kept") (.v 0))) (ex (rT (n+5)) chB) _ _=_;unfold VR;rw[e6];show(match B[kp]? with
   |some c=>if Yh c.2=false then ZM (λs=>s[kp]?=some c) (λx y U s=>ex (rT (n+5)) chB (Zh (Zh U 5 x) 6 y) s) (c.2.filterMap itQ) (chE bo k r wc b.length none none) B else none
   |none=>none)=_
  rw[q];show(if Yh (ks.map (enE m rs L))=false then ZM (λs=>s[kp]?=some (true,ks.map (enE m rs L))) (λx y U s=>ex (rT (n+5)) chB (Zh (Zh U 5 x) 6 y) s) ((ks.map (enE m rs L)).filterMap itQ) (chE bo k r wc b.length none none) B else none)=_
  rw[if_pos Ug,ZaS];exact e7
 have I:=P.get (t.get (C.get o2)) (by omega:bo≠b.length)
 have G:=YT (F:=rT (n+5)) (f:=S "kept") (i:=0) (e:=.v 4) (d:=.dic b.length) (U:=chE bo k r wc b.length O N) (st:=A) rfl rfl I (by show 5 < 900;decide)
 rw[Zcc]at G;obtain⟨D,h⟩:∃ D,A.set bo (true,.int 263 :: bkF tk m (rs.set k r) tr L b.length (d0+ks.length))=D:=⟨_,rfl⟩;rw[h]at G;rw[dR,Zaa]at V;have fl:=eK (stP m rs L k r) ks;refine⟨D,b.length,d0+ks.length - (ks.filter (stP m rs L k r)).length,ZcS (v:=c_Book_change) rfl rfl ((Zb H).trans ((Zb (Zi c4)).trans ((Zb p5).trans ((Zb p7).trans ((Zb G).trans Ze))))),?_,⟨?_,?_,by omega⟩,by omega,by omega⟩
 .have a:Kj bo s A:=(T.trans (C.trans t).kj).young P (by omega)
  rw[<-h];exact a.trans .set
 .rw[<-h,Zk (Zd I),if_pos rfl,show d0+ks.length - (ks.filter (stP m rs L k r)).length+(ks.filter (stP m rs L k r)).length=d0+ks.length by omega]
 .rw[<-h,Zk (Zd I),if_neg (by omega)]
  exact V
structure Ks(l:List Nat)(st st':Za):Prop where
 old:∀ i,i < st.length->i∉l->st'[i]?=st[i]?
 len:st.length<=st'.length
section
variable{la:Li Nat}
theorem Grw.kl(g:Grw st st'):Ks la st st':=⟨λi h _=>g.old i h,g.len⟩
theorem Kj.kl(g:Kj j st st')(h:j∈la):Ks la st st':=⟨λi b a=>g.old i b λe=>a (e ▸ h),g.len⟩
theorem Kb.kl(g:Kb bo kp st st')(h:bo∈la)(c:kp∈la):Ks la st st':=⟨λi b a=>g.old i b (λe=>a (e ▸ h)) λe=>a (e ▸ c),g.len⟩
theorem Ks.trans(a:Ks la st st1)(b:Ks la st1 st'):Ks la st st':=⟨λi h c=>(b.old i (aT h a.len) c).trans (a.old i h c),aK a.len b.len⟩
theorem Ks.get{c:ZI}(k:Ks la st st')(h:st[j]?=some c)(a:j∉la):st'[j]?=some c:=(k.old j (Zd h) a).trans h
theorem ZeH{a:Li (Li Int)}:Yb (S "trials") (.tup (a.map inD)) (bkF tk m rs tr L kp dn)=bkF tk m rs a L kp dn:=by
 have b:∀ {x:Str},decide (x=x)=true:=aG rfl;have c:decide (S "program"=S "trials")=false:=by decide +kernel
 unfold bkF;simp only[Yb,isK,b,c,if_true,bV,if_false];rfl
theorem ZcL(h:ks.Nodup):(Xe ks z).Nodup:=by
 unfold Xe;split
 .exact h
 .rename_i c
  rw[cM];exact⟨h,bO.mpr ⟨(λq=>nomatch q),cW⟩,λa f b d e=>c (by rw[<-aO.mp d,<-e];exact f)⟩
theorem Vj:∀ {l:Li (Li Int)}{ks:Li Ky},ks.Nodup->(Xj cd ks l).Nodup
 |[],_,h=>h
 |_ :: l,_,h=>Vj (l:=l) (ZcL h)
theorem QH:∀ {l:Li (Nat×Rw)}{ks:Li Ky},ks.Nodup->(UA tr ks l).Nodup
 |[],_,h=>h
 |_ :: l,_,h=>QH (l:=l) (Vj h)
theorem ZcK(h:ks.Nodup):(JN rs tr ks).Nodup:=QH (Vj h)
theorem UJ(a:Rs m rs):(cdL rs).length<=600:=by
 have fl:=Xb (rs:=rs);have b:=a.l;unfold cdL;rw[aD];omega
theorem ZcF(b:Rs m rs)(a:tr.length<=11):(JN rs tr ks).length<=ks.length+7000:=by
 have c:=UJ b;have e:=ZaX (tr:=tr) (l:=cdL rs) (ks:=Xj none ks tr);have d:=YO (cd:=none) (ks:=ks) (l:=tr);have f:(cdL rs).length * tr.length<=600 * 11:=Nat.mul_le_mul c a;unfold JN;omega
theorem Zf0(q:tr.length < 10)(b:Bk tk m rs tr L bo kp d0 ks s):∃ st',rT (n+2) 272 [.dic bo,inD t] s=some (.non,st')/\Kj bo s st'/\Bk tk m rs (tr++[t]) L bo kp d0 ks st':=by
 have k:=Y0 (tk:=tk) (m:=m) (rs:=rs) (tr:=tr) (L:=L) (kp:=kp) (dn:=d0+ks.length);have j:Y (rT (n+1)) s (.bin .Add (.fld (S "trials") (.v 0)) (.tupE (.u (.v 1)))) [some (.dic bo),some (inD t),none] (.tup ((tr++[t]).map inD)):=by
  rw[aX];exact .adT (.fl b.ob (.r rf) k.2.1) (.cons (.r rf) .nil) (by rw[aD];show _+1<=_;omega)
 obtain⟨c,o,g⟩:=j s .refl;obtain⟨p,l,d⟩:=Y.call1 (F:=rT (n+1)) (s:=c) (a:=.v 2) (U:=[some (.dic bo),some (inD t),some (.tup ((tr++[t]).map inD))]) (.r rf) (Qd (n:=n) (s:=c) (xs:=(tr++[t]).map inD) (by rw[aD,aI];show _+1<=_;omega)) c .refl
 have o2:=(g.trans d).get b.ob;have h:=YT (F:=rT (n+1)) (U:=[some (.dic bo),some (inD t),some (.tup ((tr++[t]).map inD))]) (i:=0) (f:=S "trials") (e:=.v 2) rfl rfl o2 (by show 5 < 900;decide)
 rw[ZeH]at h;refine⟨_,ZcS (v:=c_Book_add) rfl rfl ((Zb (Zi o)).trans ((Zb (Uw l)).trans ((Zb h).trans Ze))),(g.trans d).kj.trans .set,⟨by rw[Zk (Zd o2),if_pos rfl],?_,b.ne⟩⟩
 rw[Zk (Zd o2),if_neg b.ne];exact(g.trans d).get b.ke
end
variable{it elt cnd:CE}
theorem ZeW{b:D->Li (Ot D)}{wk:D->Za->Ot (Li D×(Za->Prop))}{en g:α->D}{p:α->Bool}{l:Li α}(n:Wk F s it U wk (l.map en))(hl:l.length<=1000)(o:∀ a∈l,Y F s cnd (ZJ b U fr (en a)) (.bl (p a)))(h:∀ a∈l,Y F s elt (ZJ b U fr (en a)) (g a)):Lg s (ZT b wk fr (ev F it) (ev F elt) (ev F cnd) U) ((l.filter p).map g):=λst k=>by
 obtain⟨x,f,ok,t,c,r,m⟩:=n st k;obtain⟨j,q,i⟩:=Wl (s:=f) (ok:=ok) (fe:=λd=>ev F elt (ZJ b U fr d)) (fc:=λd=>ev F cnd (ZJ b U fr d)) m (λa e=>Gv.mono (o a e) (k.trans c)) (λa e=>Gv.mono (h a e) (k.trans c)) f .refl
 refine⟨j++[(true,(l.filter p).map g)],_,?_,Zl,(c.trans i).trans .push,(c.trans i).len⟩;unfold ZT;simp only[t,r,aD,if_pos hl,q]
theorem Wk.fk(b:Rs m rs)(c:Y (rT (n+4)) s a U (pgD tk m rs)):Wk (rT (n+4)) s (.call 172 (.u a) []) U Uv ((fkL rs).map tD):=.of (.call1 c (Qf (tk:=tk) b)) λst=>by
 show(if ((fkL rs).map tD).all ZaN=true then some ((fkL rs).map tD,λ(_:Za)=>True) else none)=_
 rw[if_pos (by rw[cX];exact bU.mpr λ_ _=>rfl)]
theorem Y.turned{p:Nat}(g:p < rs.length)(hl:rs.length<=900)(f:Y F s a U (.tup (rs.map rwE)))(e:Y F s b U (.int (p:Int)))(h:Y F s c U (rwE r)):Y F s (.bin .Add (.bin .Add (.slice a .nop (.part b)) (.tupE (.u c))) (.slice a (.part (.bin .Add b (.i 1))) .nop)) U (.tup ((rs.set p r).map rwE)):=by
 have d:p < (rs.map rwE).length:=by rw[aD];exact g
 rw[List.map_set,<-Zdl d];exact .adT (.adT (.tkT f e (Nat.le_of_lt d)) (.cons h .nil) (by rw[bS,aD];show _+1<=_;omega)) (.dpT f (by rw[bY];exact .add e (.r rf)) d) (by rw[aI,bS,dF,aD];show _+1+_<=_;omega)
def cdN:Cd->D
 |none=>.non
 |some p=>kdE (some p)
variable{rs0:Li Rw}
theorem Wf(a:Rs m rs):Lg s (rT (n+5) 278 [pgD tk m rs]) ((cdL rs).map λp=>kdE (some p)):=λst g=>by
 have fl:=Xb (rs:=rs);have k:=a.l;have:Lg s (ev (rT (n+4)) (.comp3 [] (.call 172 (.u (.v 0)) []) (.tupE (.aC (.v 0) (.u (.v 2)))) (.c (.bl true))) [some (pgD tk m rs)]) ((fkL rs).map λp=>kdE (some (p.1,p.2.2))):=UR (F:=rT (n+4)) (b:=Ut) (wk:=Uv) (fr:=[]) (it:=.call 172 (.u (.v 0)) []) (elt:=.tupE (.aC (.v 0) (.u (.v 2)))) (en:=tD) (g:=λp=>kdE (some (p.1,p.2.2))) (l:=fkL rs) (Wk.fk (tk:=tk) a (.r rf)) (by omega) λp o=>.cons (.r rf) (.cons (.r rf) .nil)
 obtain⟨d,h,j,i,f,e⟩:=this st g;refine⟨d,h,Z6 (v:=c__law_codes) rfl rfl (Zm (ZC j)),?_,f,e⟩;rw[i];unfold cdL;rw[bL];rfl
def CdR(m:Nat)(rs0:Li Rw):Cd->Prop
 |none=>True
 |some p=>p.1 < rs0.length/\YI m rs0.length p.2
variable{cv:Nat->Int}{c0 c1 c2:Int}
section
variable{c v i:Int}
def Cv(s:Za)(cv:Nat->Int):Prop:=∀ n k:Nat,k<=1000->C (rT (n+1)) s 27 [.lst 0,.int (k:Int)] (.int (cv k))
theorem Cv.grw(h:Cv s cv)(g:Grw s st):Cv st cv:=λn k a=>Gv.mono (h n k a) g
theorem JC(hk:k<=1000):∃ v:Int,∀ (n:Nat) (s:Za) (b:Bool),s[0]?=some (b,ns.map D.int)->C (rT (n+1)) s 27 [.lst 0,.int (k:Int)] (.int v):=by
 have c1:∀ {n:Nat}{s:Za}{b:Bool},s[0]?=some (b,ns.map D.int)->Y (rT n) s (.cmp .Lt (.v 1) (.len (.v 0))) [jL 0,jN k] (.bl (decide (k < ns.length))):=λc=>.cmp (.r rf) (.lenl c (.r rf)) λ_=>by
  show some (decide ((k:Int) < ((ns.map D.int).length:Int)))=_;rw[aD];exact congrArg some (decide_eq_decide.mpr (by omega))
 have d:Yi (k:Int)=true:=ZaY (by omega)
 by_cases h:k < ns.length
 .rw[aG h]at c1
  exact⟨ns[k],λn s b c=>.of (v:=c__law_cell_at) rfl rfl (.yes (c1 c) (.ixl (j:=k) c (.r rf) (.r rf) (by rw[aS,lG7 h];rfl)))⟩
 .rw[aE h]at c1
  have e:∀ {n:Nat}{s},Y (rT n) s (.bin .Mult (.v 1) (.v 1)) [jL 0,jN k] (.int ((k:Int) * k)):=.mul (.r rf) (.r rf) d;have g:∀ {n:Nat}{s:Za}{b:Bool},s[0]?=some (b,ns.map D.int)->Lv s (ev (rT n) (.bin .Add (.v 0) (.lstE (.u (.i 0)))) [jL 0,jN k]) ((ns++[0]).map D.int):=λc=>by
   rw[aX];exact .cat (.v c (.r rf)) (.mk (.r rf)) (by rw[aD];show _+1<=1000000;omega)
  obtain⟨a,f⟩:∃ a,(ns++[0])[0]?=some a:=by cases ns<;>exact⟨_,rfl⟩
  have o:=Zx a (j:=1000003) (by decide)
  exact⟨_,λn s b c=>.of (v:=c__law_cell_at) rfl rfl (.no (c1 c) (.ret (.md (.mul (.add (.md (.ixL (j:=0) (g c) (.r rf) (by rw[aS,f];rfl)) (.r rf) (by decide)) (.r rf)) (.add e (.r rf)) (ZaY (by
   have m:(k:Int) * k<=1000 * 1000:=Int.mul_le_mul (by omega) (by omega) (by omega) (by omega)
   have l:0<=(k:Int) * k:=Int.mul_nonneg (by omega) (by omega)
   omega))) (.r rf) (by decide))))⟩
theorem cells{b:Bool}(d:s[0]?=some (b,ns.map D.int)):∃ cv:Nat->Int,Cv s cv:=by
 have h:∀ k:Nat,∃ v:Int,k<=1000->∀ n,C (rT (n+1)) s 27 [.lst 0,.int (k:Int)] (.int v):=λk=>by
  by_cases a:k<=1000
  .obtain⟨v,c⟩:=JC (ns:=ns) a;exact⟨v,λ_ n=>c n s b d⟩
  .exact⟨0,λh=>absurd h a⟩
 exact⟨λk=>Classical.choose (h k),λn k a=>Classical.choose_spec (h k) a n⟩
theorem Y.cell(h:Cv s cv)(a:U[0]?=some (jL 0))(hk:k<=1000):Y (rT (n+1)) s (.call 27 (.aC (.v 0) (.u (.i (k:Int)))) []) U (.int (cv k)):=.call (xs:=[.lst 0,.int (k:Int)]) (.cons (.v a) (.cons (.r rf) .nil)) (h n k hk)
theorem Zdu:∃ v,Sm v/\C (rT (n+1)) s 185 [.int c] (.int v):=by
 have h:∀ {s},Y (rT n) s (.bin .FloorDiv (.v 0) (.i 4)) [jI c] (.int (c / 4)):=.fd (.r rf) (.r rf) (by decide)
 have g:∀ {s} (z:Int),Y (rT n) s (.cmp .Eq (.bin .Mod (.v 0) (.i 4)) (.i z)) [jI c] (.bl (decide (c % 4=z))):=λz=>.cmp (.md (.r rf) (.r rf) (by decide)) (.r rf) λ_=>rfl
 by_cases m:c % 4=0
 .have d:=g (s:=s) 0
  rw[aG m]at d;have:=Zx (c / 4) (j:=2000000000) (by decide)
  exact⟨_,⟨by omega,by omega⟩,.of (v:=c__law_number) rfl rfl (.yes d (.sub (.md h (.r rf) (by decide)) (.r rf)))⟩
 .have d:=g (s:=s) 0
  rw[aE m]at d;by_cases k:c % 4=1
  .have e:=g (s:=s) 1
   rw[aG k]at e;have o:=Zx (c / 4) (j:=5) (by decide)
   obtain⟨u,q,p⟩:=Y.ixE (F:=rT n) (s:=s) (f:=D.int) (l:=([999999999,-1000000000,-1,0,1]:Li Int)) (a:=.lstE (.aC (.i 999999999) (.aC (.neg (.i 1000000000)) (.aC (.neg (.i 1)) (.aC (.i 0) (.u (.i 1))))))) (.mk (.r rf)) (b:=.bin .Mod (.bin .FloorDiv (.v 0) (.i 4)) (.i 5)) (.md h (.r rf) (by decide)) o.1 o.2
   exact⟨u,(by decide:∀ v∈([999999999,-1000000000,-1,0,1]:Li Int),-1000000000<=v/\v<=999999999) u q,.of (v:=c__law_number) rfl rfl (.no d (.yes e p))⟩
  .have e:=g (s:=s) 1
   rw[aE k]at e;have:=Zx (c / 4) (j:=7) (by decide)
   exact⟨_,⟨by omega,by omega⟩,.of (v:=c__law_number) rfl rfl (.no d (.no e (.ret (.sub (.md h (.r rf) (by decide)) (.r rf)))))⟩
theorem JI(f:0 < m):∃ o,X1 m o/\C (rT (n+2)) s 28 [.int c,.int (m:Int)] (opE o):=by
 have a:(0:Int) < (m:Int):=by omega
 have b:Y (rT (n+1)) s (.bin .FloorDiv (.v 0) (.i 3)) [jI c,jN m] (.int (c / 3)):=.fd (.r rf) (.r rf) (by decide)
 have y:Y (rT (n+1)) s (.cmp .Eq (.bin .Mod (.v 0) (.i 3)) (.i 0)) [jI c,jN m] (.bl (decide (c % 3=0))):=.cmp (.md (.r rf) (.r rf) (by decide)) (.r rf) λ_=>rfl
 by_cases h:c % 3=0
 .rw[aG h]at y
  obtain⟨v,d,cv⟩:=Zdu (n:=n) (s:=s) (c:=c / 3);exact⟨.nu v,d,.of (v:=c__law_operand) rfl rfl (.yes y (.cons (.r rf) (.cons (.call1 b cv) .nil)))⟩
 .rw[aE h]at y
  have e:=Zx (c / 3) a;refine⟨.nm (c / 3 % m).toNat,by show _ < m;omega,.of (v:=c__law_operand) rfl rfl (.no y (.ret (.cons (.r rf) (.cons ?_ .nil))))⟩
  rw[bR e.1];exact .md b (.r rf) a
theorem JG(M:0 < m)(S:m<=900)(W:sz<=900)(H:s[w]?=some (bb,[.int c0,.int c1,.int c2])):∃ r,YI m sz r/\C (rT (n+3)) s 29 [.lst w,.int (m:Int),.int (sz:Int)] (rwE r):=by
 have k:(0:Int) < (m:Int):=by omega
 obtain⟨y,K,V⟩:=JI (n:=n) (s:=s) (c:=c1) M;obtain⟨z,g,T⟩:=JI (n:=n) (s:=s) (c:=c2) M;have J:∀ {U:Env},U[0]?=some (jL w)->Y (rT (n+2)) s (.ix (.v 0) (.i 0)) U (.int c0):=λh=>.ixl (j:=0) H (.v h) (.r rf) rfl
 have st:∀ {r q},R (rT (n+2)) s q [jL w,jN m,jN sz,jI (c0 / 8),some (opE y),some (opE z)] r->R (rT (n+2)) s (.seq (.set 3 (.bin .FloorDiv (.ix (.v 0) (.i 0)) (.i 8))) (.seq (.set 4 (.call 28 (.aC (.ix (.v 0) (.i 1)) (.u (.v 1))) [])) (.seq (.set 5 (.call 28 (.aC (.ix (.v 0) (.i 2)) (.u (.v 1))) [])) q))) [jL w,jN m,jN sz,none,none,none] r:=λ{r q} h=>
  .set (x:=.int (c0 / 8)) (.fd (J rfl) (.r rf) (by decide)) (.set (x:=opE y) (.call (xs:=[.int c1,.int (m:Int)]) (.cons (.ixl (j:=1) H (.r rf) (.r rf) rfl) (.cons (.r rf) .nil)) V) (.set (x:=opE z) (.call (xs:=[.int c2,.int (m:Int)]) (.cons (.ixl (j:=2) H (.r rf) (.r rf) rfl) (.cons (.r rf) .nil)) T) h))
 have E:∀ {zz:Int},Y (rT (n+2)) s (.cmp .Lt (.bin .Mod (.ix (.v 0) (.i 0)) (.i 8)) (.i zz)) [jL w,jN m,jN sz,jI (c0 / 8),some (opE y),some (opE z)] (.bl (decide (c0 % 8 < zz))):=λ{zz}=>.cmp (.md (J rfl) (.r rf) (by decide)) (.r rf) λ_=>rfl
 have L:Y (rT (n+2)) s (.cmp .Eq (.bin .Mod (.ix (.v 0) (.i 0)) (.i 8)) (.i 6)) [jL w,jN m,jN sz,jI (c0 / 8),some (opE y),some (opE z)] (.bl (decide (c0 % 8=6))):=.cmp (.md (J rfl) (.r rf) (by decide)) (.r rf) λ_=>rfl
 have B:(0:Int) < (sz:Int)+1:=by omega
 by_cases P:c0 % 8 < 3
 .have e:=E (zz:=3)
  rw[aG P]at e;have ex:=Zx (c0 / 8) k;have d:=Zx (c0 / 8 / m) (j:=5) (by decide)
  obtain⟨x,Q⟩:∃ x:Nat,c0 / 8 % (m:Int)=(x:Int):=⟨_,(bR ex.1).symm⟩;obtain⟨u,hu,p⟩:=Y.ixE (F:=rT (n+2)) (s:=s) (f:=D.str) (l:=psL) (U:=[jL w,jN m,jN sz,jI (c0 / 8),some (opE y),some (opE z)]) (a:=.lstE (.aC (.t "+") (.aC (.t "-") (.aC (.t "*") (.aC (.t "/") (.u (.t "mod"))))))) (.mk (.r rf)) (b:=.bin .Mod (.bin .FloorDiv (.v 3) (.v 1)) (.i 5)) (.md (.fd (i:=c0 / 8) (j:=(m:Int)) (a:=.v 3) (b:=.v 1) (.r rf) (.r rf) ⟨k,by omega⟩) (.r rf) (by decide)) d.1 d.2
  exact⟨.put x y u z,⟨by omega,K,hu,g⟩,.of (v:=c__law_row) rfl rfl (st (.yes e (.cons (.r rf) (.cons (by rw[<-Q];exact .md (.r rf) (.r rf) k) (.cons (.r rf) (.cons p (.cons (.r rf) .nil)))))))⟩
 .have e:=E (zz:=3)
  rw[aE P]at e;by_cases O:c0 % 8 < 6
  .have o:=E (zz:=6)
   rw[aG O]at o;have I:=Zx (c0 / 8 / 6) B;obtain⟨t,G⟩:∃ t:Nat,c0 / 8 / 6 % ((sz:Int)+1)=(t:Int):=⟨_,(bR I.1).symm⟩;have d:=Zx (c0 / 8) (j:=6) (by decide)
   obtain⟨u,hu,p⟩:=Y.ixE (F:=rT (n+2)) (s:=s) (f:=D.str) (l:=isL) (U:=[jL w,jN m,jN sz,jI (c0 / 8),some (opE y),some (opE z)]) (a:=.lstE (.aC (.t "<") (.aC (.t "<=") (.aC (.t "=") (.aC (.t ">=") (.aC (.t ">") (.u (.t "!=")))))))) (.mk (.r rf)) (.md (i:=c0 / 8) (a:=.v 3) (b:=.i 6) (.r rf) (.r rf) (by decide)) d.1 d.2
   exact⟨.ifr y u z t,⟨K,hu,g,by omega⟩,.of (v:=c__law_row) rfl rfl (st (.no e (.yes o (.cons (.r rf) (.cons (.r rf) (.cons p (.cons (.r rf) (.cons (by rw[<-G];exact .md (.fd (.r rf) (.r rf) (by decide)) (.add (.r rf) (.r rf)) B) .nil))))))))⟩
  .have o:=E (zz:=6)
   rw[aE O]at o;by_cases N:c0 % 8=6
   .have A:=L
    rw[aG N]at A;exact⟨.tell z,g,.of (v:=c__law_row) rfl rfl (st (.no e (.no o (.yes A (.cons (.r rf) (.cons (.r rf) .nil))))))⟩
   .have A:=L
    rw[aE N]at A;have I:=Zx (c0 / 8 / 2) B;obtain⟨t,G⟩:∃ t:Nat,c0 / 8 / 2 % ((sz:Int)+1)=(t:Int):=⟨_,(bR I.1).symm⟩;have d:=Zx (c0 / 8) (j:=2) (by decide)
    obtain⟨u,hu,p⟩:=Y.ixE (F:=rT (n+2)) (s:=s) (f:=rwE) (l:=[Rw.skip,.go t]) (U:=[jL w,jN m,jN sz,jI (c0 / 8),some (opE y),some (opE z)]) (a:=.lstE (.aC (.tupE (.u (.t "skip"))) (.u (.tupE (.aC (.t "go") (.u (.bin .Mod (.bin .FloorDiv (.v 3) (.i 2)) (.bin .Add (.v 2) (.i 1))))))))) (.mk (xs:=[.tup [.str "skip"],.tup [.str "go",.int (t:Int)]]) (.cons (.cons (.r rf) .nil) (.cons (.cons (.r rf) (.cons (by rw[<-G];exact .md (.fd (.r rf) (.r rf) (by decide)) (.add (.r rf) (.r rf)) B) .nil)) .nil))) (.md (i:=c0 / 8) (a:=.v 3) (b:=.i 2) (.r rf) (.r rf) (by decide)) d.1 d.2
    refine⟨u,?_,.of (v:=c__law_row) rfl rfl (st (.no e (.no o (.no A (.ret p)))))⟩;rcases aH.mp hu with rfl|hu
    .trivial
    .rw[aO.mp hu];show t<=sz;omega
end
def tkD(a b:Int)(t:Nat):D:=.tup (List.replicate t (.tup [.int a,.int b]))
variable{cv:Nat->Int}
section
variable{t:Nat}{c v:Int}{p:CS}
theorem Zbn{I:Env->Prop}{P:D->Prop}(o:s.length<=j)(p:∀ k,k < N->∀ U,I U->∀ st acc,Grw s st->st[j]?=some (true,acc)->acc.length < 900->∃ d U' st',P d/\I U'/\ex F q (Zh U i (.int (k:Int))) st=some (.nx U',st')/\Kj j st st'/\st'[j]?=some (true,acc++[d])):∀ (M a:Nat),a+M=N->∀ U,I U->∀ st acc,Grw s st->st[j]?=some (true,acc)->acc.length+M<=900->∃ xs U' st',xs.length=M/\(∀ d∈xs,P d)/\I U'/\Zp (λd U s=>ex F q (Zh U i d) s) ((List.range' a M).map λ(k:Nat)=>D.int (k:Int)) U st=some (.nx U',st')/\Kj j st st'/\st'[j]?=some (true,acc++xs)
 |0,a,_,U,m,st,acc,g,h,_=>⟨[],U,st,rfl,λd h=>(nomatch h),m,rfl,Grw.refl.kj,by rw[bB];exact h⟩
 |M+1,a,J,U,m,st,acc,g,h,H=>by
  obtain⟨d,c,t,y,l,E,n,A⟩:=p a (by omega) U m st acc g h (by omega)
  obtain⟨xs,b,r,x,w,f,C,u,z⟩:=Zbn o p M (a+1) (by omega) c l t _ (n.grw o g) A (by rw[aI];show _+1+M<=900;omega)
  refine⟨d :: xs,b,r,by rw[aP,x],λG B=>(aH.mp B).elim (λe=>e ▸ y) (w G),f,?_,n.trans u,by rw[z,bG];rfl⟩
  rw[dO,aJ];show(match ex F q (Zh U i (.int (a:Int))) st with
   |some (.nx U',st')=>Zp _ _ U' st'
   |some (.ct U',st')=>Zp _ _ U' st'
   |some (.bk U',st')=>some (.nx U',st')
   |some (.rt v,st')=>some (.rt v,st')
   |none=>none)=_
  rw[E];exact C
theorem fill{I:Env->Prop}{P:D->Prop}{a:Za}(v:ev F e U a=some (.int (N:Int),st))(hN:N<=800)(p:I U)(n:s.length<=j)(g:Grw s st)(t:st[j]?=some (true,[]))(o:∀ k,k < N->∀ U,I U->∀ st acc,Grw s st->st[j]?=some (true,acc)->acc.length < 900->∃ d U' st',P d/\I U'/\ex F q (Zh U i (.int (k:Int))) st=some (.nx U',st')/\Kj j st st'/\st'[j]?=some (true,acc++[d])):∃ xs U' st',xs.length=N/\(∀ d∈xs,P d)/\I U'/\ex F (.for1 i true e q) U a=some (.nx U',st')/\Kj j st st'/\st'[j]?=some (true,xs):=by
 obtain⟨xs,U',f,m,l,b,u,h,r⟩:=Zbn (F:=F) (q:=q) (i:=i) n o N 0 (by omega) _ p st [] g t (by show 0+N<=900;omega)
 have c:=Xy (F:=F) (i:=i) (q:=q) (by omega) (by omega) v
 rw[aZ,dW]at c;exact⟨xs,U',f,m,l,b,c.trans u,h,r⟩
theorem all_map{α:Type}{f:α->D}{Q:α->Prop}:∀ {xs:Li D},(∀ d∈xs,∃ r,Q r/\d=f r)->∃ l:Li α,xs=l.map f/\∀ r∈l,Q r
 |[],_=>⟨[],rfl,λ_ h=>nomatch h⟩
 |d :: xs,h=>by
  obtain⟨r,b,rfl⟩:=h d lQ7;obtain⟨l,rfl,c⟩:=all_map (xs:=xs) λd g=>h d (lM7 _ g)
  exact⟨r :: l,rfl,λu a=>(aH.mp a).elim (λe=>e ▸ b) (c u)⟩
theorem Qk(g:U[i]?=some (jL j))(h:ev F e U st=some (d,st1))(a:Grw st st1)(hk:st[j]?=some (true,acc))(hl:acc.length < 900):∃ st',ex F (.z (.app i e)) U st=some (.nx U,st')/\Kj j st st'/\st'[j]?=some (true,acc++[d]):=by
 have b:=a.get hk;refine⟨st1.set j (true,acc++[d]),(Zb (Ux g h b hl)).trans Ze,⟨λm f c=>?_,by rw[bC];exact a.len⟩,by rw[Zk (Zd b),if_pos rfl]⟩
 rw[Zk (Zd b),if_neg (Ne.symm c)];exact a.old m f
theorem ZfY{v:Int}(b:v < 2 ^ 62)(a:-(2 ^ 62)<=v):Yv true (.int v) st=some ((List.range v.toNat).map λ(k:Nat)=>D.int (k:Int),λ_=>True):=by
 unfold Yv;rw[ZaQ b a]
theorem Wk.rng(hN:N<=1000)(h:Y F s e U (.int (N:Int))):Wk F s e U (Yv true) ((List.range N).map λ(k:Nat)=>D.int (k:Int)):=.of h λst=>by
 rw[ZfY (by omega) (by omega),aZ]
theorem Xn(h:ev F a U st=some (x,st1))(c:ev F b U st1=some (.tup xs,st2))(hl:xs.length < 1000:=by first|decide | (simp only[aP,dI];decide)):ev F (.aC a b) U st=some (.tup (x :: xs),st2):=by
 show Zw (ev F a) (ev F b) Xg U st=_;unfold Zw;simp only[h,c];exact if_pos hl
theorem Z1{f:Nat}(h:ev F a U st=some (.tup xs,st1))(b:F f (xs++[]) st1=some (d,st2)):ev F (.call f a []) U st=some (d,st2):=by
 show Zq (ev F a) (Wi (F f) []) U st=_;unfold Zq;rw[h];exact b
theorem ZgV{a b:Int}(h:t<=3):okD 7 (tkD a b t)=true:=by
 have:t=0\/t=1\/t=2\/t=3:=by omega
 rcases this with rfl|rfl|rfl|rfl<;>rfl
theorem Zh8{g0:Nat->Int}(d:0 < m)(p:m<=900)(j:sz<=900)(q:Y (rT (n+3)) s it U (.int ((3:Nat):Int)))(t:∀ a:Nat,a < 3->Y (rT (n+3)) s elt (ZJ one U fr (.int (a:Int))) (.int (g0 a)))(g:Grw s st)(v:∀ st,ev (rT (n+3)) b U st=some (.tup [.int (m:Int),.int (sz:Int)],st)):∃ r st',YI m sz r/\ev (rT (n+3)) (.call 29 (.aC (.comp true fr it elt (.c (.bl true))) b) []) U st=some (rwE r,st')/\Grw st st':=by
 have B:Lv s (ev (rT (n+3)) (.comp true fr it elt (.c (.bl true))) U) ((List.range 3).map λa=>D.int (g0 a)):=ZaW (F:=rT (n+3)) (b:=one) (wk:=Yv true) (fr:=fr) (it:=it) (elt:=elt) (en:=λ(k:Nat)=>D.int (k:Int)) (g:=λa=>D.int (g0 a)) (l:=List.range 3) (Wk.rng (N:=3) (by decide) q) (by decide) λa u=>t a (cR.mp u)
 obtain⟨e,w,C,z,x,i⟩:=B st g;obtain⟨r,o,A⟩:=JG (n:=n) (m:=m) (sz:=sz) d p j x;obtain⟨f,y,h⟩:=A e .refl;exact⟨r,f,o,Z1 (Xn (xs:=[.int (m:Int),.int (sz:Int)]) z (v e)) y,i.trans h⟩
abbrev pgE(b:Int)(t m sz:Nat)(j:Nat)(a:Ot D):Env:=[jL 0,jI b,jN t,jN m,jN sz,jL j,a]
theorem Jv{va vb:Int}{ea eb:CE}(R:Cv s cv)(g:Grw s st)(w:0 < m)(Q:m<=900)(ht:t<=2)(hz:sz<=12)(A:∀ U st,ev (rT (n+3)) ea U st=some (.int va,st))(y:∀ U st,ev (rT (n+3)) eb U st=some (.int vb,st)):∃ rs st',Rs m rs/\rs.length=sz/\ex (rT (n+3)) (.seq (.set 5 (.lstE .aN)) (.seq (.for1 6 true (.v 4) Yd) (.z (.ret (.tupE (.aC (.bin .Mult (.tupE (.u (.tupE (.aC ea (.u eb))))) (.v 2)) (.aC (.v 3) (.u (.tOf (.v 5)))))))))) [jL 0,jI c,jN t,jN m,jN sz,none,none] st=some (.rt (pgD (tkD va vb t) m rs),st')/\Grw st st':=by
 obtain⟨j,x⟩:∃ j,st.length=j:=⟨_,rfl⟩;obtain⟨xs,U',B,f,M,⟨l,rfl⟩,Z,K,V⟩:=fill (F:=rT (n+3)) (e:=.v 4) (q:=Yd) (i:=6) (I:=λU=>∃ l,U=pgE c t m sz j l) (P:=λd=>∃ r,YI m sz r/\d=rwE r) (U:=pgE c t m sz j none) (st:=st++[(true,[])]) (N:=sz) (s:=s) (j:=j) rfl (by omega) ⟨none,rfl⟩ (x ▸ g.len) (g.trans .push) (x ▸ Zl) λk hk U S st acc g C f=>by
  obtain⟨l,rfl⟩:=S;obtain⟨r,s1,O,e1,L⟩:=Zh8 (n:=n) (s:=s) (st:=st) (m:=m) (sz:=sz) (fr:=[6,0]) (it:=.i 3) (elt:=.call 27 (.aC (.v 2) (.u (.bin .Add (.bin .Add (.i 3) (.bin .Mult (.i 3) (.v 1))) (.v 0)))) []) (b:=.aC (.v 3) (.u (.v 4))) (g0:=λa=>cv (3+3 * k+a)) (U:=pgE c t m sz j (jN k)) w Q (by omega) (.r rf) (λa C=>.call (xs:=[.lst 0,.int ((3+3 * k+a:Nat):Int)]) (.cons (.r rf) (.cons (by
    rw[show((3+3 * k+a:Nat):Int)=3+3 * (k:Int)+(a:Int) by omega]
    exact .add (.add (.r rf) (.mul (.r rf) (.r rf) (ZaY (by omega)))) (.r rf)) .nil)) (R _ _ (by omega))) g (λ_=>rfl)
  obtain⟨E,W,H,T⟩:=Qk (i:=5) (acc:=acc) rfl e1 L C f;exact⟨rwE r,_,E,⟨r,O,rfl⟩,⟨_,rfl⟩,W,H,T⟩
 obtain⟨rs,rfl,o⟩:=all_map M;rw[aD]at f;have D:Y (rT (n+3)) B (.tupE (.aC (.bin .Mult (.tupE (.u (.tupE (.aC ea (.u eb))))) (.v 2)) (.aC (.v 3) (.u (.tOf (.v 5)))))) (pgE c t m sz j l) (pgD (tkD va vb t) m rs):=.cons (.rep (.cons (.r λ_=>A _ _) (.cons (.r λ_=>y _ _) .nil)) (.r rf) (by omega)) (.cons (.r rf) (.cons (λst g=>⟨st,Yo rfl (g.get V),.refl⟩) .nil))
 obtain⟨G,X,J⟩:=D B .refl;subst x;exact⟨rs,G,⟨by omega,λr h=>by rw[f];exact o r h⟩,f,(Zb (p:=.set 5 (.lstE .aN)) (s':=st++[(true,[])]) rfl).trans ((Zb Z).trans (Zm (ZC X))),(K.grw (aF _) .push).trans J⟩
theorem many(z:Int):∃ t u m:Nat,z % 3=(t:Int)/\(if (t:Int) > 1 then (t:Int) else 1)=(u:Int)/\(u:Int)+z / 3 % (6 - (u:Int))=(m:Int)/\t<=2/\t<=m/\0 < m/\m<=6/\0 < 6 - (u:Int):=by
 have g:=Zx z (j:=3) (by decide)
 obtain⟨t,e⟩:∃ t:Nat,z % 3=(t:Int):=⟨_,(bR g.1).symm⟩;obtain⟨u,d,c,b,a⟩:∃ u:Nat,(if (t:Int) > 1 then (t:Int) else 1)=(u:Int)/\1<=u/\u<=2/\t<=u:=by
  split
  .exact⟨t,rfl,by omega,by omega,by omega⟩
  .exact⟨1,rfl,by omega,by omega,by omega⟩
 have h:=Zx (z / 3) (j:=6 - (u:Int)) (by omega)
 obtain⟨m,f⟩:∃ m:Nat,(u:Int)+z / 3 % (6 - (u:Int))=(m:Int):=⟨_,(bR (by omega)).symm⟩
 exact⟨t,u,m,e,d,f,by omega,by omega,by omega,by omega,by omega⟩
theorem ZdY{g0:Nat->Int}(r:t<=900)(i:Y (rT (n+1)) s it U (.int (t:Int)))(j:∀ a:Nat,a < t->Y (rT (n+1)) s elt (ZJ one U fr (.int (a:Int))) (.int (g0 a)))(g:Grw s st):∃ u st',(u.length=t/\∀ v∈u,Sm v)/\ev (rT (n+1)) (.tOf (.comp true fr it (.call 185 (.u elt) []) (.c (.bl true)))) U st=some (inD u,st')/\Grw st st':=by
 have d:∀ c:Int,∃ v,Sm v/\C (rT (n+1)) s 185 [.int c] (.int v):=λc=>Zdu (n:=n)
 have q:Lv s (ev (rT (n+1)) (.comp true fr it (.call 185 (.u elt) []) (.c (.bl true))) U) ((List.range t).map λa=>D.int (Classical.choose (d (g0 a)))):=ZaW (F:=rT (n+1)) (b:=one) (wk:=Yv true) (fr:=fr) (it:=it) (elt:=.call 185 (.u elt) []) (en:=λ(k:Nat)=>D.int (k:Int)) (g:=λa=>D.int (Classical.choose (d (g0 a)))) (l:=List.range t) (Wk.rng (N:=t) (by omega) i) (by rw[dY];omega) λa m=>.call1 (j a (cR.mp m)) (Classical.choose_spec (d (g0 a))).2
 obtain⟨e,w,x,p,o,f⟩:=q st g;refine⟨(List.range t).map λa=>Classical.choose (d (g0 a)),e,⟨by rw[aD,dY],λv h=>?_⟩,?_,f⟩
 .obtain⟨a,_,rfl⟩:=aR.mp h
  exact(Classical.choose_spec (d (g0 a))).1
 .rw[Yo p o]
  unfold inD inZ;rw[bL];rfl
end
variable{c3:Int}
section
variable{t:Nat}{c v:Int}{p:CS}
theorem VN(h:U[i]?=some (some d)):ev F (.v i) U st=some (d,st):=by
 show YZ i U st=_;unfold YZ;rw[h]
theorem Zed(d:Cv s cv)(g:Grw s st):∃ t m rs st',(t<=2/\t<=m/\0 < m/\m<=6)/\Rs m rs/\0 < rs.length/\rs.length<=3/\rT (n+4) 30 [.lst 0] st=some (pgD (tkD (-9) 9 t) m rs,st')/\Grw st st':=by
 obtain⟨t,u,m,J,I,K,o,O,l,N,M⟩:=many (cv 0);obtain⟨sz,H,G,F⟩:∃ z:Nat,cv 1 % 3+1=(z:Int)/\1<=z/\z<=3:=by
  have:=Zx (cv 1) (j:=3) (by decide)
  exact⟨(cv 1 % 3+1).toNat,(bR (by omega)).symm,by omega,by omega⟩
 obtain⟨C,T,a⟩:=Y.cell (n:=n+2) (k:=0) (U:=[jL 0,none,none,none,none,none,none]) d rfl (by decide) st g
 have e:Y (rT (n+3)) s (.max (.i 1) (.v 2)) [jL 0,jI (cv 0),jN t,none,none,none,none] (.int (u:Int)):=.r λst=>by rw[<-I];rfl
 have w:Y (rT (n+3)) s (.bin .Mod (.v 1) (.i 3)) [jL 0,jI (cv 0),none,none,none,none,none] (.int (t:Int)):=by rw[<-J];exact .md (.r rf) (.r rf) (by decide)
 obtain⟨B,S,b⟩:=w C (g.trans a);have q:Y (rT (n+3)) s (.bin .Add (.max (.i 1) (.v 2)) (.bin .Mod (.bin .FloorDiv (.v 1) (.i 3)) (.bin .Sub (.i 6) (.max (.i 1) (.v 2))))) [jL 0,jI (cv 0),jN t,none,none,none,none] (.int (m:Int)):=by rw[<-K];exact .add e (.md (.fd (.r rf) (.r rf) (by decide)) (.sub (.r rf) e) M)
 obtain⟨A,R,h⟩:=q B (g.trans (a.trans b));have p:Y (rT (n+3)) s (.bin .Add (.bin .Mod (.call 27 (.aC (.v 0) (.u (.i 1))) []) (.i 3)) (.i 1)) [jL 0,jI (cv 0),jN t,jN m,none,none,none] (.int (sz:Int)):=by rw[<-H];exact .add (.md (Y.cell (k:=1) d rfl (by decide)) (.r rf) (by decide)) (.r rf)
 obtain⟨y,Q,E⟩:=p A (g.trans (a.trans (b.trans h)));have f:=a.trans (b.trans (h.trans E));obtain⟨rs,x,L,V,P,D⟩:=Jv (n:=n) (st:=y) (c:=cv 0) (sz:=sz) (va:=-9) (vb:=9) (ea:=.neg (.i 9)) (eb:=.i 9) d (g.trans f) l (by omega) o (by omega) (λ_ _=>rfl) (λ_ _=>rfl)
 exact⟨t,m,rs,x,⟨o,O,l,N⟩,L,by omega,by omega,Z6 (v:=c__law_program) rfl rfl ((Zb (Zi T)).trans ((Zb (Zi S)).trans ((Zb (Zi R)).trans ((Zb (Zi Q)).trans P)))),f.trans D⟩
theorem Y.ne0(h:s[w]?=some (bb,xs))(f:Y F s a U (.lst w)):Y F s (.cmp .NotEq a (.lstE .aN)) U (.bl (!xs.isEmpty)):=λst g=>by
 obtain⟨b,i,e⟩:=f st g;refine⟨b++[(true,[])],?_,e.trans .push⟩;show Zw (ev F a) (ev F (.lstE .aN)) (Z3 .NotEq) U st=_;unfold Zw;rw[i];show Z3 .NotEq (.lst w) (.lst b.length) (b++[(true,[])])=_;unfold Z3;have:Xf .NotEq (.lst w) (.lst b.length) (b++[(true,[])])=some (!xs.isEmpty):=by
  show(ZeB (b++[(true,[])]) w (.lst b.length)).map Bool.not=_;show((o2 (λ(c d:ZI)=>WH c.2 d.2) (b++[(true,[])])[w]? (b++[(true,[])])[b.length]?).join).map Bool.not=_
  rw[((g.trans e).trans .push).get h,Zl];cases xs<;>rfl
 rw[this]
def okL(rs:Li Rw)(k:Nat):Li Rw:=((cdL rs).filter λp=>decide (p.1=k)).map λp=>p.2
theorem ZgH(b:Rs m rs){x:Rw}(h:x∈okL rs k):YI m rs.length x:=by
 obtain⟨p,c,rfl⟩:=aR.mp h;obtain⟨u,a,e⟩:=aR.mp (show p∈(fkL rs).map λp=>(p.1,p.2.2) from(bM.mp c).1)
 rw[<-e];exact(W4 b a).2
theorem Zgk(e:Rs m rs)(t:U[i]?=some (some (pgD tk m rs)))(hk:U[j]?=some (jN k)):Lg s (ev (rT (n+5)) (.compT [j] (.call 278 (.u (.v i)) []) (.v 1) (.cmp .Eq (.v 0) (.v 2))) U) ((okL rs k).map rwE):=by
 have B:(cdL rs).length<=600:=by
  have fl:=Xb (rs:=rs);have z:=e.l;unfold cdL;rw[aD];omega
 have wk:Wk (rT (n+5)) s (.call 278 (.u (.v i)) []) U X0 ((cdL rs).map λp=>kdE (some p)):=λst g=>by
  obtain⟨d,a,w,f,o,A⟩:=Wf (n:=n) (tk:=tk) e st (.refl:Grw st st);refine⟨.lst a,d,λh=>h[a]?=some (true,(cdL rs).map λp=>kdE (some p)),Z1 (xs:=[pgD tk m rs]) (Xn (VN t) rfl) w,o,?_,λst' q=>q.get f⟩
  show(match d[a]? with
   |some c=>if c.2.all Jo=true then some (c.2,λ(s:Za)=>s[a]?=some c) else none
   |none=>none)=_
  rw[f];show(if ((cdL rs).map λp=>kdE (some p)).all Jo=true then _ else none)=_
  rw[if_pos (by rw[cX];exact bU.mpr λ_ _=>rfl)]
 have:=ZeW (F:=rT (n+5)) (b:=two) (wk:=X0) (fr:=[j]) (elt:=.v 1) (cnd:=.cmp .Eq (.v 0) (.v 2)) (en:=λp=>kdE (some p)) (g:=λp=>rwE p.2) (p:=λp=>decide (p.1=k)) (l:=cdL rs) wk (by omega) (λp _=>.cmp (x:=.int (p.1:Int)) (y:=.int (k:Int)) (.r rf) (.v (by
  show some ((U[j]?).join)=_;rw[hk];rfl)) λ_=>by
   show some (decide ((p.1:Int)=(k:Int)))=_;exact congrArg some (decide_eq_decide.mpr (by omega))) λp _=>.r rf
 unfold okL;rw[bL];exact this
theorem Zeb{e:Li Rw}(K:Rs m rs)(Q:Rs m e)(S:rs.length=e.length)(R:0 < m)(hm:m<=900)(hk:k < rs.length)(hw:st[w]?=some (bb,[.int c0,.int c1,.int c2,.int c3])):∃ r st',YI m rs.length r/\rT (n+6) 275 [.lst w,pgD tk m rs,pgD tk m e,.int (k:Int)] st=some (rwE r,st')/\Grw st st':=by
 have rl:=K.l;obtain⟨o,Z,e4,T,G,_⟩:=Zgk (n:=n) (s:=st) (i:=1) (j:=3) (k:=k) (tk:=tk) (U:=[jL w,some (pgD tk m rs),some (pgD tk m e),jN k,none]) K rfl rfl st .refl;have H:=G.get hw;obtain⟨d,g⟩:∃ d:Env,[jL w,some (pgD tk m rs),some (pgD tk m e),jN k,jL Z]=d:=⟨_,rfl⟩;have pre:∀ {t},ex (rT (n+5)) _ d o=t->ex (rT (n+5)) c__law_other_row.body [jL w,some (pgD tk m rs),some (pgD tk m e),jN k,none] st=t:=λ{t} hh=>(Zb (Zi e4)).trans (by rw[<-g]at hh;exact hh)
 have i0:Y (rT (n+5)) o (.ix (.v 0) (.i 0)) d (.int c0):=by rw[<-g];exact .ixl (j:=0) H (.r rf) (.r rf) rfl
 have W:∀ z:Int,Y (rT (n+5)) o (.cmp .Eq (.bin .Mod (.bin .FloorDiv (.ix (.v 0) (.i 0)) (.i 12)) (.i 5)) (.i z)) d (.bl (decide (c0 / 12 % 5=z))):=λz=>.cmp (.md (.fd i0 (.r rf) (by decide)) (.r rf) (by decide)) (.r rf) λ_=>rfl
 have L:Y (rT (n+5)) o (.v 4) d (.lst Z):=by rw[<-g];exact .r rf
 obtain⟨s5,D,p⟩:=(Y.and (W 0) λ_=>Y.ne0 T L) o .refl
 cases N:(decide (c0 / 12 % 5=0)&&!((okL rs k).map rwE).isEmpty) with
 |true=>
  rw[N]at D;have ne:0 < (okL rs k).length:=by
   have:=(cQ.mp N).2;cases c:okL rs k with
   |nil=>rw[c]at this;cases this
   |cons _ _=>exact Nat.succ_pos _
  have em:=Zx (c0 / 60) (j:=((okL rs k).length:Int)) (by omega)
  have ll:Y (rT (n+5)) o (.len (.v 4)) d (.int ((okL rs k).length:Int)):=by
   have:=Y.lenl (F:=rT (n+5)) (U:=d) T L;rw[show((true,(okL rs k).map rwE):ZI).2.length=(okL rs k).length from aD _]at this;exact this
  obtain⟨x,hx,yx⟩:=Y.ixE (F:=rT (n+5)) (s:=o) (f:=rwE) (l:=okL rs k) (a:=.v 4) (b:=.bin .Mod (.bin .FloorDiv (.ix (.v 0) (.i 0)) (.i 60)) (.len (.v 4))) (U:=d) (.v T L) (.md (.fd i0 (.r rf) (by decide)) ll (by omega)) em.1 em.2
  obtain⟨J,A,q⟩:=yx s5 p;exact⟨x,J,ZgH K hx,Z6 (v:=c__law_other_row) rfl rfl (pre (Zm ((Z5 D).trans (Zm (ZC A))))),G.trans (p.trans q)⟩
 |false=>
  rw[N]at D;have X:∀ {a:CE}{l:Li Rw} (h:k < l.length),Y (rT (n+5)) o a d (.tup (l.map rwE))->Y (rT (n+5)) o (.ix a (.v 3)) d (rwE l[k]):=λ{a l} h ha=>.ixt (j:=k) (xs:=l.map rwE) ha (by rw[<-g];exact .r rf) (by rw[aS,lG7 h];rfl)
  obtain⟨J,A,q⟩:=W 1 s5 p;by_cases q1:c0 / 12 % 5=1
  .rw[aG q1]at A
   obtain⟨E,C,B⟩:=X (a:=.ix (.v 1) (.i 2)) hk (by rw[<-g];exact .r rf) J (p.trans q)
   exact⟨rs[k],E,K.ok _ (dA hk),Z6 (v:=c__law_other_row) rfl rfl (pre ((Zb ((ZN D).trans Ze)).trans (Zm ((Z5 A).trans (Zm (ZC C)))))),G.trans (p.trans (q.trans B))⟩
  .rw[aE q1]at A
   obtain⟨E,C,B⟩:=W 2 J (p.trans q);by_cases q2:c0 / 12 % 5=2
   .rw[aG q2]at C
    have I:k < e.length:=by omega
    obtain⟨M,V,O⟩:=X (a:=.ix (.v 2) (.i 2)) I (by rw[<-g];exact .r rf) E (p.trans (q.trans B))
    exact⟨e[k],M,by rw[S];exact Q.ok _ (dA I),Z6 (v:=c__law_other_row) rfl rfl (pre ((Zb ((ZN D).trans Ze)).trans ((Zb ((ZN A).trans Ze)).trans (Zm ((Z5 C).trans (Zm (ZC V))))))),G.trans (p.trans (q.trans (B.trans O)))⟩
   .rw[aE q2]at C
    have sl:=Lv.sl (F:=rT (n+5)) (s:=o) (w:=w) (a:=.v 0) (b:=.part (.i 1)) (c:=.nop) (U:=d) (lo:=some 1) (hi:=none) H (by rw[<-g];exact .r rf) (x:=.int 1) (y:=.non) (.r rf) (.r rf) (λ_=>rfl)
    obtain⟨M,w8,b8,V,h8,O⟩:=sl E (p.trans (q.trans B));obtain⟨r,P,cr⟩:=JG (n:=n+2) (m:=m) (sz:=rs.length) (c0:=c1) (c1:=c2) (c2:=c3) R hm (by omega) h8
    obtain⟨s9,e9,k9⟩:=cr M .refl;have ec:ev (rT (n+5)) (.call 29 (.aC (.slice (.v 0) (.part (.i 1)) .nop) (.aC (.ix (.v 1) (.i 1)) (.u (.len (.ix (.v 1) (.i 2)))))) []) d E=some (rwE r,s9):=Z1 (Xn (xs:=[.int (m:Int),.int (rs.length:Int)]) V (by rw[<-g,<-aD (f:=rwE) (as:=rs)];rfl)) e9
    exact⟨r,s9,P,Z6 (v:=c__law_other_row) rfl rfl (pre ((Zb ((ZN D).trans Ze)).trans ((Zb ((ZN A).trans Ze)).trans ((Zb ((ZN C).trans Ze)).trans (Zm (ZC ec)))))),G.trans (p.trans (q.trans (B.trans (O.trans k9))))⟩
theorem Qo{n:Nat}(a:∀ x,okD n x=true->Zr x x=true):∀ {ds:Li D},ZZ n ds=true->Zy ds ds=true
 |[],_=>rfl
 |d :: ds,h=>by
  rw[ZZ,bA7]at h;show(Zr d d&&Zy ds ds)=true;rw[a d h.1,Qo a h.2];rfl
theorem JS:∀ {n:Nat}{x:D},okD n x=true->Zr x x=true
 |n,x,h=>by
  cases x with
  |non=>rfl
  |int a=>exact aG rfl
  |str a=>exact aG rfl
  |tup ds=>cases n with
   |zero=>cases h
   |succ n=>exact Qo (λx=>JS) h
  |_=>cases n<;>cases h
theorem ZdE(a:okD 7 tk=true):eqS st (pgD tk m rs) (pgD tk m rs)=some true:=by
 have h:okD 8 (pgD tk m rs)=true:=by
  show(okD 7 tk&&(true&&(ZZ 6 (rs.map rwE)&&true)))=true;rw[a,Wz (λ_=>UX)];rfl
 show(match (if okD 8 (pgD tk m rs)&&okD 8 (pgD tk m rs) then some (Zy [tk,.int (m:Int),.tup (rs.map rwE)] [tk,.int (m:Int),.tup (rs.map rwE)]) else none) with
  |some k=>some k
  |none=>_)=_
 rw[h];have:=JS h;have b:Zy [tk,.int (m:Int),.tup (rs.map rwE)] [tk,.int (m:Int),.tup (rs.map rwE)]=true:=this;rw[b];rfl
theorem Zhd(h:ev F a U st=some (.bl false,st1)):ev F (.or a b) U st=ev F b U st1:=by
 show YB (ev F a) (evC (.bl true)) (ev F b) U st=_;unfold YB;rw[h]
theorem Zgm(h:ev F a U st=some (.bl false,st1)):ev F (.and a b) U st=some (.bl false,st1):=by
 show YB (ev F a) (ev F b) (evC (.bl false)) U st=_;unfold YB;rw[h];rfl
end
def knE(k:Ky):D:=.tup [cdN k.1,inD k.2]
def tnE(p:Ky×Nat):D:=.tup [knE p.1,.lst p.2]
abbrev Th:=Li (Ky×Nat)
structure Tt(m:Nat)(rs:List Rw)(L wT:Nat)(ts:Th)(s:Za):Prop where
 c:s[wT]?=some (true,ts.map tnE)
 p:∀ x∈ts,s[x.2]?=some (true,inN (snP m (rO rs x.1.1) L x.1.2))
 n:∀ x∈ts,x.2≠wT
def New(s:Za)(b a:Th):Prop:=∀ x∈a,x∈b\/s.length<=x.2
inductive Rn{α:Type}(m:Nat)(rs:List Rw)(L wT:Nat)(s:Za)(ts:Th)(K:List Ky)(r:Option (α×Za))(v:α):Prop
 |mk {st':Za}{ts':Th} (e:r=some (v,st')) (k:Kj wT s st') (t:Tt m rs L wT ts' st') (q:ts'.map Prod.fst=K) (n:New s ts ts'):Rn m rs L wT s ts K r v
variable{wT:Nat}{ts ts' ts2:Th}
theorem New.refl:New s ts ts:=λ_ h=>.inl h
theorem New.trans(h:New s ts ts')(b:New st ts' ts2)(hl:s.length<=st.length):New s ts ts2:=λx a=>(b x a).elim (λq=>h x q) λq=>.inr (aK hl q)
theorem New.pre(h:New st ts ts')(hl:s.length<=st.length):New s ts ts':=λx a=>(h x a).imp id λq=>aK hl q
theorem Tt.keep(h:Tt m rs L wT ts s)(k:Ks [j] s st)(d:wT≠j)(b:∀ x∈ts,x.2≠j):Tt m rs L wT ts st:=⟨k.get h.c λq=>d (aO.mp q),λx a=>k.get (h.p x a) λq=>b x a (aO.mp q),h.n⟩
theorem Tt.grw(h:Tt m rs L wT ts s)(k:Grw s st):Tt m rs L wT ts st:=⟨k.get h.c,λx a=>k.get (h.p x a),h.n⟩
theorem Zbb{k:Ky}:okN 8 (knE k)=true:=by
 show(okN 7 (cdN k.1)&&(okN 7 (inD k.2)&&true))=true;rw[ZdQ];cases k.1 with
 |none=>rfl
 |some p=>show((true&&(okN 6 (rwE p.2)&&true))&&_)=true;rw[QK];rfl
theorem ZeT{a b:Ky}(h:knE a=knE b):a=b:=by
 obtain⟨c,t⟩:=a;obtain⟨d,f⟩:=b;have h:D.tup [cdN c,inD t]=.tup [cdN d,inD f]:=h
 injection h with h;injection h with e h;injection h with i _
 refine ZaV ?_;show D.tup [kdE c,inD t]=.tup [kdE d,inD f];rw[i];cases c with
 |none=>cases d with
  |none=>rfl
  |some p=>exact nomatch e
 |some p=>cases d with
  |none=>exact nomatch e
  |some g=>rw[show kdE (some p)=kdE (some g) from e]
theorem ZaO{a:Ky}{p:Ky×Nat}:XO (knE a) (tnE p)=decide (p.1=a):=by
 show Zr (knE p.1) (knE a)=_;by_cases h:p.1=a
 .rw[h,aG rfl];exact YW Zbb
 .rw[aE h]
  cases q:Zr (knE p.1) (knE a) with
  |false=>rfl
  |true=>exact absurd (ZeT (W0 q)) h
theorem JP{k:Ky}:∀ {ts:Th},(ts.map tnE).any (XO (knE k))=decide (k∈ts.map Prod.fst)
 |[]=>rfl
 |a :: ts=>by
  rw[aJ,cJ,JP,ZaO,<-dB,aJ];exact decide_eq_decide.mpr ⟨λh=>aH.mpr (h.imp Eq.symm id),λh=>(aH.mp h).imp Eq.symm id⟩
theorem Vf{k:Ky}:∀ {ts:Th},(∃ p∈ts,p.1=k/\ZR (ts.map tnE) (knE k)=jL p.2)\/(k∉ts.map Prod.fst/\ZR (ts.map tnE) (knE k)=none)
 |[]=>.inr ⟨(λh=>nomatch h),rfl⟩
 |a :: ts=>by
  by_cases h:a.1=k
  .refine .inl ⟨a,lQ7,h,?_⟩
   unfold ZR;rw[aJ,cL,ZaO,aG h];rfl
  .have e:ZR ((a :: ts).map tnE) (knE k)=ZR (ts.map tnE) (knE k):=by
    unfold ZR;rw[aJ,cL,ZaO,aE h]
   rw[e];rcases Vf (k:=k) (ts:=ts) with⟨p,c,f,b⟩|⟨d,b⟩
   .exact .inl ⟨p,lM7 _ c,f,b⟩
   .exact .inr ⟨λq=>(aH.mp q).elim (λq=>h q.symm) d,b⟩
theorem Uf:Yh (ts.map tnE)=false:=by cases ts<;>rfl
theorem JR(h:s[wT]?=some (true,ts.map tnE)):dAt [cdN z.1,inD z.2] wT s=some (ZR (ts.map tnE) (knE z)):=by
 unfold dAt;rw[h];exact if_pos ⟨Uf,Zbb (k:=z)⟩
theorem Qu(hk:st[w]?=some (true,ts.map tnE))(a:ts.length < 900000)(h:z∉ts.map Prod.fst):dput w (knE z) (.lst j) st=some (st.set w (true,(ts++[(z,j)]).map tnE)):=by
 unfold dput;rw[hk];show(if ((Yh (ts.map tnE)=false/\okN 8 (knE z)=true)/\Xp (.lst j)=true)/\(ts.map tnE).length < Zn/\(ts.map tnE).any (XO (knE z))=false then _ else none)=_
 rw[if_pos ⟨⟨⟨Uf,Zbb⟩,rfl⟩,by rw[aD];unfold Zn;omega,by rw[JP,aE h]⟩,aX]
 rfl
theorem Zhe(h:Tt m rs L wT ts st)(s:ts.length < 900000)(t:st[j]?=some (true,inN (snP m (rO rs z.1) L z.2)))(f:j≠wT)(A:ev F a U st=some (.dic wT,st))(y:ev F b U st=some (knE z,st))(w:ev F c U st=some (.lst j,st)):∃ d st' ts',ev F (.dget a b c) U st=some (d,st')/\Kj wT st st'/\Tt m rs L wT ts' st'/\ts'.map Prod.fst=Xe (ts.map Prod.fst) z/\∀ x∈ts',x∈ts\/x.2=j:=by
 have pre:∀ {r},sdD wT [cdN z.1,inD z.2] (.lst j) st=r->ev F (.dget a b c) U st=r:=λ{r} u=>by
  show sdV (ev F a) (ev F b) (ev F c) U st=_;unfold sdV;rw[A];show(match st[wT]? with
   |some (_,xs)=>if Yh xs=false then (match ev F b U st with
    |some (.tup ks,st2)=>(match ev F c U st2 with
     |some (d,e)=>sdD wT ks d e
     |none=>none)
    |_=>none) else none
   |none=>none)=_
  rw[h.c];show(if Yh (ts.map tnE)=false then _ else none)=_
  rw[if_pos Uf,y];show(match ev F c U st with
     |some (d,e)=>sdD wT [cdN z.1,inD z.2] d e
     |none=>none)=_
  rw[w];exact u
 have o:dput wT (.tup [cdN z.1,inD z.2]) (.lst j) st=dput wT (knE z) (.lst j) st:=rfl;rcases Vf (k:=z) (ts:=ts) with⟨p,q,v,i⟩|⟨l,i⟩
 .refine⟨.lst p.2,st,ts,pre ?_,Grw.refl.kj,h,?_,λx hx=>.inl hx⟩
  .unfold sdD
   rw[JR h.c,i];rfl
  .unfold Xe
   rw[if_pos (aR.mpr ⟨p,q,v⟩)]
 .have g:=Zd h.c
  refine⟨.lst j,st.set wT (true,(ts++[(z,j)]).map tnE),ts++[(z,j)],pre ?_,.set,⟨by rw[Zk g,if_pos rfl],λx hx=>?_,λx hx=>?_⟩,?_,λx hx=>?_⟩
  .unfold sdD
   rw[JR h.c,i];show(match dput wT (.tup [cdN z.1,inD z.2]) (.lst j) st with
    |some st'=>some (D.lst j,st')
    |none=>none)=_
   rw[o,Qu h.c s l]
  .rcases bE.mp hx with hx|hx
   .rw[Zk g,if_neg (Ne.symm (h.n x hx))];exact h.p x hx
   .rw[aO.mp hx,Zk g,if_neg (Ne.symm f)];exact t
  .rcases bE.mp hx with hx|hx
   .exact h.n x hx
   .rw[aO.mp hx];exact f
  .unfold Xe
   rw[if_neg l,aX];rfl
  .rcases bE.mp hx with hx|hx
   .exact .inl hx
   .rw[aO.mp hx];exact .inr rfl
theorem JF(e:Fit m rs tr L)(B:CdR m rs cd)(h:Tt m rs L wT ts s)(N:ts.length < 900000)(M:t∈tr):Rn m rs L wT s ts (Xe (ts.map Prod.fst) (cd,t)) (rT (n+5) 188 [pgD tk m rs,cdN cd,inD t,.int (L:Int),.dic wT] s) (oD (ocP m (rO rs cd) L t)):=by
 have V:=e.r.l;have W:=Zd h.c;have f:∀ {s1:Za},Grw s s1->Rs m (rO rs cd)->Rn m rs L wT s ts (Xe (ts.map Prod.fst) (cd,t)) (ex (rT (n+4)) (.seq (.set 6 (.call 40 (.aC (.v 5) (.aC (.ix (.v 0) (.i 1)) (.aC (.v 2) (.u (.v 3))))) [])) (.seq (.act (.dget (.v 4) (.tupE (.aC (.v 1) (.u (.v 2)))) (.ix (.v 6) (.i 1)))) (.z (.ret (.ix (.v 6) (.i 0)))))) [some (pgD tk m rs),some (cdN cd),some (inD t),jN L,some (.dic wT),some (.tup ((rO rs cd).map rwE)),none] s1) (.rt (oD (ocP m (rO rs cd) L t))):=λ{s1} g O=>by
  obtain⟨T,j,y,P,o,X⟩:=Zd8 (n:=n) O e.b e.t M e.l s1 (.refl:Grw s1 s1);have Z:=g.len;obtain⟨d,S,ts',Q,J,R,C,G⟩:=Zhe (F:=rT (n+4)) (a:=.v 4) (b:=.tupE (.aC (.v 1) (.u (.v 2)))) (c:=.ix (.v 6) (.i 1)) (z:=(cd,t)) (U:=[some (pgD tk m rs),some (cdN cd),some (inD t),jN L,some (.dic wT),some (.tup ((rO rs cd).map rwE)),some (.tup [oD (ocP m (rO rs cd) L t),.lst j])]) (h.grw (g.trans o)) N P (by omega) rfl rfl rfl
  exact .mk ((Zb (Zi (Z1 (xs:=[.tup ((rO rs cd).map rwE),.int (m:Int),inD t,.int (L:Int)]) rfl y))).trans ((Zb (Uw Q)).trans (Zm (ZC rfl)))) ((g.trans o).kj.trans J) R C λx K=>(G x K).elim .inl λq=>.inr (by omega)
 cases cd with
 |none=>
  cases f (s1:=s) .refl e.r with
  |mk A w T1 E I=>exact .mk (Z6 (v:=c__law_outcome) rfl rfl ((Zb (Zi (v:=.tup (rs.map rwE)) (st':=s) rfl)).trans ((Zb (U':=[some (pgD tk m rs),some (cdN none),some (inD t),jN L,some (.dic wT),some (.tup (rs.map rwE)),none]) (s':=s) ((ZN (st':=s) rfl).trans Ze)).trans A))) w T1 E I
 |some p=>
  obtain⟨s1,A,w⟩:=Y.turned (F:=rT (n+4)) (s:=s) (a:=.v 5) (b:=.ix (.v 1) (.i 0)) (c:=.ix (.v 1) (.i 1)) (r:=p.2) (p:=p.1) (U:=[some (pgD tk m rs),some (cdN (some p)),some (inD t),jN L,some (.dic wT),some (.tup (rs.map rwE)),none]) B.1 (by omega) (.r rf) (.r rf) (.r rf) s .refl
  cases f (s1:=s1) w (e.r.set B.2 (k:=p.1)) with
  |mk y o T2 D H=>exact .mk (Z6 (v:=c__law_outcome) rfl rfl ((Zb (Zi (v:=.tup (rs.map rwE)) (st':=s) rfl)).trans ((Zb ((Z5 (st':=s) rfl).trans ((Zb (Zi A)).trans Ze))).trans y))) o T2 D H
abbrev uE(g:D)(m:Nat)(rs:Li Rw)(L d e f j:Nat)(c b a:Ot D):Env:=[some (pgD g m rs),jL d,jN L,some (.dic e),jL f,jL j,c,b,a]
variable{w4:Nat}{bt b4:Bool}{p:Nat×Rw}
theorem J7{op:CmpOp}{k:Bool}(h:ev F a U st=some (x,st1))(d:ev F b U st1=some (y,st2))(c:Xf op x y st2=some k):ev F (.cmp op a b) U st=some (.bl k,st2):=by
 show Zw (ev F a) (ev F b) (Z3 op) U st=_;unfold Zw;simp only[h,d];unfold Z3;rw[c]
theorem Zae{v:Ot (Fl×Za)}(h:U=U')(e:ex F q U st=v):ex F q U' st=v:=h ▸ e
theorem Xz(h:ts'.map Prod.fst=ks):ts'.length=ks.length:=by rw[<-h,aD]
theorem ZdS{c:ZI}{g:D->Za->Res}(i:∀ t ts s,t∈tr->ts.length < 900000->Tt m rs L wT ts s->Rn m rs L wT s ts (Xe (ts.map Prod.fst) (cd,t)) (g (inD t) s) (oD (ocP m (rO rs cd) L t)))(e:wt≠wT):∀ {l:Li (Li Int)}{ts:Th}{s:Za},(∀ t∈l,t∈tr)->ts.length+l.length < 900000->Tt m rs L wT ts s->s[wt]?=some c->Rn m rs L wT s ts (Xj cd (ts.map Prod.fst) l) (ZF (λs=>s[wt]?=some c) g (λ_ st=>some (.bl true,st)) (l.map inD) s) ((l.map (ocP m (rO rs cd) L)).map oD)
 |[],ts,s,_,_,h,a=>.mk (if_pos a) Grw.refl.kj h rfl .refl
 |t :: l,ts,s,f,v,h,a=>by
  rw[aP]at v;cases i t ts s (f t lQ7) (by omega) h with
  |@mk A z x b T1 d p=>
   have y:=Xz d;have j:=XD (ks:=ts.map Prod.fst) (k:=(cd,t));rw[aD]at j;cases ZdS i e (l:=l) (λu r=>f u (lM7 _ r)) (by omega) T1 (b.get a e) with
   |mk w q T2 n o=>
    refine .mk ?_ (b.trans q) T2 (by rw[n,d];rfl) (p.trans o b.len)
    rw[aJ,ZF,if_pos a];simp only[x,w,aJ]
theorem J6(E:Fit m rs tr L)(N:CdR m rs (some p))(J:wt≠wT)(q:w4≠wT):∀ (M i:Nat) (ts:Th) (st:Za) (w:Ot D),i+M=tr.length->ts.length+M < 900000->Tt m rs L wT ts st->st[wt]?=some (bt,tr.map inD)->st[w4]?=some (b4,(tr.map (ocP m rs L)).map oD)->∃ f,Rn m rs L wT st ts (Xj (some p) (ts.map Prod.fst) (tr.drop i)) (Zp (λd U s=>ex (rT (n+5)) Z9 (Zh U 8 d) s) ((List.range' i M).map λ(k:Nat)=>D.int (k:Int)) (uE tk m rs L wt wT w4 j (some (kdE (some p))) (some (.int (unl 0 ((tr.map (ocP m rs L)).take i) ((tr.map (ocP m (rs.set p.1 p.2) L)).take i):Int))) w) st) (.nx (uE tk m rs L wt wT w4 j (some (kdE (some p))) (jI (btL m rs L tr p:Int)) f))
 |0,i,ts,st,w,hi,_,h,_,_=>by
  refine⟨w,.mk ?_ Grw.refl.kj h (by rw[eA (by omega)];rfl) .refl⟩
  rw[dX (by rw[aD];omega),dX (by rw[aD];omega)]
  rfl
 |M+1,i,ts,st,w,hi,hn,h,P,h4=>by
  have tn:=E.t.n;have l:i < tr.length:=by omega
  have e:tr[i]?=some tr[i]:=lG7 l;obtain⟨V,O⟩:∃ V,unl 0 ((tr.map (ocP m rs L)).take i) ((tr.map (ocP m (rs.set p.1 p.2) L)).take i)=V:=⟨_,rfl⟩;have S:Y (rT (n+5)) st (.aC (.v 0) (.aC (.v 6) (.aC (.ix (.v 1) (.v 8)) (.aC (.v 2) (.u (.v 3)))))) (uE tk m rs L wt wT w4 j (some (kdE (some p))) (jN V) (jN i)) (.tup [pgD tk m rs,cdN (some p),inD tr[i],.int (L:Int),.dic wT]):=.cons (.r rf) (.cons (.r rf) (.cons (.ixl (t:=(bt,tr.map inD)) P (.r rf) (.r rf) (by show(tr.map inD)[i]?=_;rw[aS,e];rfl)) (.r rf)))
  obtain⟨s1,e1,x⟩:=S st .refl;cases JF (n:=n) (tk:=tk) E N (h.grw x) (by omega) (dA l) with
  |@mk X W e2 I T2 H n2=>
  have Q:=I.get (x.get h4) q;obtain⟨o,e3,C⟩:=Y.ixl (F:=rT (n+5)) (a:=.v 4) (b:=.v 8) (U:=uE tk m rs L wt wT w4 j (some (kdE (some p))) (jN V) (jN i)) (j:=i) (d:=oD (ocP m rs L tr[i])) Q (.r rf) (.r rf) (by show((tr.map (ocP m rs L)).map oD)[i]?=_;rw[aS,aS,e];rfl) X .refl
  have y:=J7 (op:=.NotEq) (k:=!decide (ocP m (rs.set p.1 p.2) L tr[i]=ocP m rs L tr[i])) (Z1 e1 e2) e3 (by
   show(eqS o (oD (ocP m (rs.set p.1 p.2) L tr[i])) (oD (ocP m rs L tr[i]))).map Bool.not=_;rw[Zgq];rfl)
  have A:(tr.map (ocP m rs L)).take (i+1)=(tr.map (ocP m rs L)).take i++[ocP m rs L tr[i]]:=by rw[List.take_succ,aS,e];rfl
  have z:(tr.map (ocP m (rs.set p.1 p.2) L)).take (i+1)=(tr.map (ocP m (rs.set p.1 p.2) L)).take i++[ocP m (rs.set p.1 p.2) L tr[i]]:=by rw[List.take_succ,aS,e];rfl
  have T:unl 0 ((tr.map (ocP m rs L)).take (i+1)) ((tr.map (ocP m (rs.set p.1 p.2) L)).take (i+1))=V+if ocP m rs L tr[i]=ocP m (rs.set p.1 p.2) L tr[i] then 0 else 2 ^ i:=by
   rw[A,z,Uu (by simp only[bS,aD]),bS,aD,bH,Nat.min_eq_left (by omega),O]
  have bd:∃ g,ex (rT (n+5)) Z9 (uE tk m rs L wt wT w4 j (some (kdE (some p))) (jN V) (jN i)) st=some (.nx (uE tk m rs L wt wT w4 j (some (kdE (some p))) (some (.int (unl 0 ((tr.map (ocP m rs L)).take (i+1)) ((tr.map (ocP m (rs.set p.1 p.2) L)).take (i+1)):Int))) (jN i)),g)/\Grw o g:=by
   rw[T];by_cases c:ocP m rs L tr[i]=ocP m (rs.set p.1 p.2) L tr[i]
   .rw[aG c.symm]at y
    rw[if_pos c,Nat.add_zero];exact⟨o,(Zb ((ZN y).trans Ze)).trans Ze,.refl⟩
   .rw[aE (λh=>c h.symm)]at y
    rw[if_neg c];have p2:Y (rT (n+5)) o (.bin .Add (.v 7) (.bin .LShift (.i 1) (.v 8))) (uE tk m rs L wt wT w4 j (some (kdE (some p))) (jN V) (jN i)) (.int ((V:Nat)+((2 ^ i:Nat):Int))):=.add (.r rf) (.bi (i:=1) (j:=(i:Int)) (.r rf) (.r rf) (by
     show(if 0<=(i:Int)/\(i:Int)<=1000/\Yi 1=true then some (1 * 2 ^ (i:Int).toNat) else none)=_
     rw[if_pos ⟨by omega,by omega,rfl⟩,aZ,Int.one_mul,Int.natCast_pow]
     rfl))
    obtain⟨g,G,k5⟩:=p2 o .refl;rw[bY];exact⟨g,(Zb ((Z5 y).trans ((Zb (Zi G)).trans Ze))).trans Ze,k5⟩
  obtain⟨g,G,B⟩:=bd;have z1:=Xz H;have R:=XD (ks:=ts.map Prod.fst) (k:=(some p,tr[i]));rw[aD]at R;have K:Kj wT st g:=x.kj.trans (I.trans (C.trans B).kj);obtain⟨f,Z⟩:=J6 E N J q M (i+1) W g (jN i) (by omega) (by omega) (T2.grw (C.trans B)) (K.get P J) ((C.trans B).get Q)
  cases Z with
  |mk e6 k6 T6 q6 n6=>
  refine⟨f,.mk ?_ (K.trans k6) T6 ?_ ((n2.pre x.len).trans n6 K.len)⟩
  .rw[dO,aJ,O]
   show(match ex (rT (n+5)) Z9 (uE tk m rs L wt wT w4 j (some (kdE (some p))) (jN V) (jN i)) st with
    |some (.nx U',st')=>Zp _ _ U' st'
    |some (.ct U',st')=>Zp _ _ U' st'
    |some (.bk U',st')=>some (.nx U',st')
    |some (.rt v,st')=>some (.rt v,st')
    |none=>none)=_
   rw[G];exact e6
  .rw[q6,H,bP l];rfl
inductive Dl(m:Nat)(rs:List Rw)(L wT j:Nat)(s:Za)(ts:Th)(K:List Ky)(l:List D)(E:Option D->Option D->Option D->Env)(r:Option (Fl×Za)):Prop
 |mk {x y z:Option D}{st':Za}{ts':Th} (e:r=some (.nx (E x y z),st')) (k:Ks [wT,j] s st') (t:Tt m rs L wT ts' st') (q:ts'.map Prod.fst=K) (n:New s ts ts') (h:st'[j]?=some (true,l)):Dl m rs L wT j s ts K l E r
theorem VL(Q:Fit m rs tr L)(T:wt≠wT)(k:w4≠wT)(b:j≠wT)(H:j≠wt)(K:j≠w4)(I:j≠wc)(O:wc≠wT):∀ (M i:Nat) (ts:Th) (st:Za) (acc:Li D) (P w c:Ot D),i+M=(cdL rs).length->ts.length+M * tr.length < 800000->acc.length+M<=900->Tt m rs L wT ts st->(∀ x∈ts,x.2≠j)->st[wt]?=some (bt,tr.map inD)->st[w4]?=some (b4,(tr.map (ocP m rs L)).map oD)->st[wc]?=some (true,(cdL rs).map λp=>kdE (some p))->st[j]?=some (true,acc)->Dl m rs L wT j st ts (UA tr (ts.map Prod.fst) ((cdL rs).drop i)) (acc++((cdL rs).drop i).map λp=>.int (btL m rs L tr p:Int)) (uE tk m rs L wt wT w4 j) (ZB (λd U s=>ex (rT (n+5)) ZX (Zh U 6 d) s) wc M i (uE tk m rs L wt wT w4 j P w c) st)
 |0,i,ts,st,acc,P,w,c,hi,_,_,h,_,_,_,R,N=>by
  refine .mk (x:=P) (y:=w) (z:=c) (st':=st) ?_ Grw.refl.kl h (by rw[eA (by omega)];rfl) .refl (by rw[eA (by omega),dH,bB];exact N)
  unfold ZB;rw[R];show(if ((cdL rs).map λp=>kdE (some p)).length<=i then _ else none)=_
  rw[if_pos (by rw[aD];omega)]
 |M+1,i,ts,st,acc,P,w,c,hi,hn,ha,h,hx,W,h4,R,N=>by
  rw[Nat.add_mul,Nat.one_mul]at hn;have tn:=Q.t.n;have g:i < (cdL rs).length:=by omega
  have o:(cdL rs)[i]?=some (cdL rs)[i]:=lG7 g;obtain⟨p,V⟩:∃ p,(cdL rs)[i]=p:=⟨_,rfl⟩;rw[V]at o;have hR:CdR m rs (some p):=by
   obtain⟨u,hu,e⟩:=aR.mp (show p∈(fkL rs).map λp=>(p.1,p.2.2) from aU o)
   rw[<-e];exact W4 Q.r hu
  have ln:(tr.map inD).length=tr.length:=aD _;obtain⟨s0,e0,B⟩:=Y.lenl (F:=rT (n+5)) (a:=.v 1) (U:=uE tk m rs L wt wT w4 j (some (kdE (some p))) (some (.int ((0:Nat):Int))) c) W (.r rf) st .refl;have fr:=Xy (F:=rT (n+5)) (i:=8) (q:=Z9) (by show((tr.map inD).length:Int) < _;rw[ln];omega) (by show _<=((tr.map inD).length:Int);omega) e0
  rw[aZ,show((bt,tr.map inD):ZI).2.length=tr.length from ln,dW]at fr;obtain⟨f,r1⟩:=J6 (n:=n) (tk:=tk) (j:=j) Q hR T k tr.length 0 ts s0 c (by omega) (by omega) (h.grw B) (B.get W) (B.get h4)
  cases r1 with
  |@mk E Z e1 k1 T1 S n1=>
  have p1:=fr.trans e1;have C:Kj wT st E:=B.kj.trans k1;have pa:=Ux (F:=rT (n+5)) (i:=5) (j:=j) (e:=.v 7) (U:=uE tk m rs L wt wT w4 j (some (kdE (some p))) (jI (btL m rs L tr p:Int)) f) (d:=.int (btL m rs L tr p:Int)) (st:=E) (st1:=E) rfl rfl (C.get N b) (by omega)
  obtain⟨A,X⟩:∃ A,E.set j (true,acc++[.int (btL m rs L tr p:Int)])=A:=⟨_,rfl⟩;rw[X]at pa;have J:Kj j E A:=by rw[<-X];exact .set
  have lj:=Zd N;have G:∀ x∈Z,x.2≠j:=λx q=>(n1 x q).elim (hx x) λq=>by have:=B.len;omega
  have z1:=Xz S;have z2:=YO (cd:=some p) (ks:=ts.map Prod.fst) (l:=tr);rw[aD]at z2;rw[bW]at S;have K2:Ks [wT,j] st A:=(C.kl (.head _)).trans (J.kl (.tail _ (.head _)));cases VL Q T k b H K I O M (i+1) Z A (acc++[.int (btL m rs L tr p:Int)]) (some (kdE (some p))) (jI (btL m rs L tr p:Int)) f (by omega) (by rw[z1,bW];omega) (by rw[aI];show _+1+M<=900;omega) (T1.keep (J.kl (.head _)) (Ne.symm b) G) G (J.get (C.get W T) (Ne.symm H)) (J.get (C.get h4 k) (Ne.symm K)) (J.get (C.get R O) (Ne.symm I)) (by rw[<-X,Zk (Zd (C.get N b)),if_pos rfl]) with
  |mk e3 k3 T3 q3 n3 j3=>
  refine .mk (Eq.trans ?_ e3) (K2.trans k3) T3 ?_ ((n1.pre B.len).trans n3 K2.len) ?_
  .conv=>lhs;unfold ZB
   simp only[R,aS,o,Option.map_some];show(match ex (rT (n+5)) ZX (uE tk m rs L wt wT w4 j (some (kdE (some p))) w c) st with
    |some (.nx U',st')=>ZB _ wc M (i+1) U' st'
    |some (.ct U',st')=>ZB _ wc M (i+1) U' st'
    |some (.bk U',st')=>some (Fl.nx U',st')
    |some (.rt v,st')=>some (Fl.rt v,st')
    |none=>none)=_
   rw[show ex (rT (n+5)) ZX (uE tk m rs L wt wT w4 j (some (kdE (some p))) w c) st=some (.nx (uE tk m rs L wt wT w4 j (some (kdE (some p))) (jI (btL m rs L tr p:Int)) f),A) from(Zb (Zi (st':=st) rfl)).trans ((Zb p1).trans ((Zb pa).trans Ze))]
  .rw[q3,S,bP g,V];rfl
  .rw[j3,bP g,V,aJ,bG];rfl
inductive Du(m:Nat)(rs:List Rw)(L wT:Nat)(s:Za)(ts:Th)(K:List Ky)(l:List D)(r:Res):Prop
 |mk {j:Nat}{st':Za}{ts':Th} (e:r=some (.lst j,st')) (k:Kj wT s st') (t:Tt m rs L wT ts' st') (q:ts'.map Prod.fst=K) (n:New s ts ts') (h:st'[j]?=some (true,l)) (g:s.length<=j):Du m rs L wT s ts K l r
theorem Zf3(J:ts.length < 700000)(o:Fit m rs tr L)(h:Tt m rs L wT ts s)(G:wt≠wT)(y:s[wt]?=some (bt,tr.map inD)):Du m rs L wT s ts (JN rs tr (ts.map Prod.fst)) ((cdL rs).map λp=>.int (btL m rs L tr p:Int)) (rT (n+6) 38 [pgD tk m rs,.lst wt,.int (L:Int),.dic wT] s):=by
 have R:=o.t.n;have cl:=UJ o.r;have lT:=Zd h.c;have lt:=Zd y;have cm:(cdL rs).length * tr.length<=600 * 11:=Nat.mul_le_mul cl R;have U:=ZdS (cd:=none) (c:=(bt,tr.map inD)) (g:=λd s=>ev (rT (n+5)) (.call 188 (.aC (.v 2) (.aC (.c .non) (.aC (.v 0) (.aC (.v 1) (.u (.v 3)))))) []) (ZJ one [some (pgD tk m rs),jL wt,jN L,some (.dic wT),none,none,none,none,none] [2,0,3] d) s) (λt ts s ht J h=>by
  cases JF (n:=n) (tk:=tk) (cd:=none) o trivial h J ht with
  |mk H f T1 w B=>exact .mk (Z1 (xs:=[pgD tk m rs,cdN none,inD t,.int (L:Int),.dic wT]) rfl H) f T1 w B) G (l:=tr) (λ_ h=>h) (by omega) h y
 cases U with
 |@mk b S H f T1 w B=>
 have c1:ev (rT (n+5)) Xx [some (pgD tk m rs),jL wt,jN L,some (.dic wT),none,none,none,none,none] s=some (.lst b.length,b++[(true,(tr.map (ocP m rs L)).map oD)]):=by
  show ZT one (Yv false) [2,0,3] (ev (rT (n+5)) (.v 1)) (ev (rT (n+5)) (.call 188 (.aC (.v 2) (.aC (.c .non) (.aC (.v 0) (.aC (.v 1) (.u (.v 3)))))) [])) (ev (rT (n+5)) (.c (.bl true))) _ s=_;unfold ZT;rw[show ev (rT (n+5)) (.v 1) [some (pgD tk m rs),jL wt,jN L,some (.dic wT),none,none,none,none,none] s=some (.lst wt,s) from rfl]
  have Q:Yv false (.lst wt) s=some (tr.map inD,λs=>s[wt]?=some (bt,tr.map inD)):=by
   show(match s[wt]? with
    |some c=>some (c.2,λ(s:Za)=>s[wt]?=some c)
    |none=>none)=_
   rw[y]
  simp only[Q];rw[if_pos (by rw[aD];omega)]
  show(match ZF (λs=>s[wt]?=some (bt,tr.map inD)) (λd s=>ev (rT (n+5)) (.call 188 (.aC (.v 2) (.aC (.c .non) (.aC (.v 0) (.aC (.v 1) (.u (.v 3)))))) []) (ZJ one [some (pgD tk m rs),jL wt,jN L,some (.dic wT),none,none,none,none,none] [2,0,3] d) s) (λ_ st=>some (.bl true,st)) (tr.map inD) s with
   |some (ys,st2)=>some (D.lst st2.length,st2++[(true,ys)])
   |none=>none)=_
  rw[H];rfl
 obtain⟨a,e⟩:∃ a,b++[(true,(tr.map (ocP m rs L)).map oD)]=a:=⟨_,rfl⟩;have g2:Grw b a:=e ▸ .push;have l2:a.length=b.length+1:=by rw[<-e,aI];rfl
 have w4:a[b.length]?=some (true,(tr.map (ocP m rs L)).map oD):=e ▸ Zl;rw[e]at c1;have l1:=f.len;have W:ex (rT (n+5)) (.set 5 (.lstE .aN)) [some (pgD tk m rs),jL wt,jN L,some (.dic wT),jL b.length,none,none,none,none] a=some (.nx (uE tk m rs L wt wT b.length a.length none none none),a++[(true,[])]):=Zi rfl;obtain⟨A,wc,e3,K,E,C⟩:=Wf (n:=n) (tk:=tk) o.r (a++[(true,[])]) (.refl:Grw (a++[(true,[])]) _)
 have C:a.length+1<=wc:=by rw[aI]at C;exact C
 have z:Grw a A:=Grw.push.trans E;have z3:a.length < A.length:=Zd (E.get (Zl (s:=a) (t:=(true,[]))));have z1:=Xz w;have M:=YO (cd:=none) (ks:=ts.map Prod.fst) (l:=tr);rw[aD]at M;cases VL (n:=n) (tk:=tk) (wt:=wt) (w4:=b.length) (j:=a.length) (wc:=wc) o G (by omega) (by omega) (by omega) (by omega) (by omega) (by omega) (cdL rs).length 0 S A [] none none none (by omega) (by omega) (by show 0+_<=_;omega) (T1.grw (g2.trans z)) (λx Z=>by have:=Zd (T1.p x Z);omega) ((g2.trans z).get (f.get y G)) (z.get w4) K (E.get Zl) with
 |@mk P O N T t4 e4 I T4 V X Y=>
 have f6:ex (rT (n+5)) (.for1 6 false (.call 278 (.u (.v 0)) []) ZX) (uE tk m rs L wt wT b.length a.length none none none) (a++[(true,[])])=some (.nx (uE tk m rs L wt wT b.length a.length P O N),T):=by
  rw[W6 (F:=rT (n+5)) (i:=6) (q:=ZX) (Z1 (xs:=[pgD tk m rs]) rfl e3) K,aD];exact e4
 refine .mk (Z6 (v:=c__law_due) rfl rfl ((Zb (Zi c1)).trans ((Zb W).trans ((Zb f6).trans (Zm (ZC rfl)))))) ⟨λi hi k=>?_,?_⟩ T4 (by rw[V,w,bW];rfl) (B.trans X (by omega)) (by rw[Y,bW];rfl) (by omega)
 .rw[I.old i (by omega) (by simp only[aH,bD,or_false,not_or];exact⟨k,by omega⟩),(g2.trans z).old i (by omega)]
  exact f.old i hi k
 .have:=I.len;omega
def hdE(p:Li Int×Nat):D:=.tup [.tup (p.1.map D.int),.lst p.2]
structure Ix where
 (bo kp wT wD wt wH:Nat)
def Ix.mu(v:Ix):Li Nat:=[v.bo,v.kp,v.wT,v.wD,v.wt,v.wH]
structure Aw(ns:List Int)(tk:D)(m L N:Nat)(v:Ix)(d0:Nat)(rs:List Rw)(tr:List (List Int))(ts:Th)(hs:List (List Int×Nat))(s:Za):Prop where
 b:Bk tk m rs tr L v.bo v.kp d0 (ts.map Prod.fst) s
 t:Tt m rs L v.wT ts s
 d:s[v.wD]?=some (true,[.int ((d0+ts.length:Nat):Int)])
 w:s[v.wt]?=some (true,tr.map inD)
 h:s[v.wH]?=some (true,hs.map hdE)
 hk:∀ p∈hs,s[p.2]?=some (true,p.1.map D.int)/\p.2∉v.mu
 fr:∀ x∈ts,x.2∉v.mu
 dj:v.mu.Nodup
 z:s[0]?=some (false,ns.map D.int)
 z0:0∉v.mu
 nd:(ts.map Prod.fst).Nodup
 f:Fit m rs tr L
 ln:ts.length<=N * 7000
 n4:tr.length<=4
 hl:hs.length<=N
def bsL(m:Nat)(rs:Li Rw)(L:Nat)(a:Li (Li Int)):Li Int:=(cdL rs).map λc=>(btL m rs L a c:Int)
variable{d1:Nat}{v:Ix}{hs hs':Li (Li Int×Nat)}
theorem nd6{a b c d e f:Nat}:[a,b,c,d,e,f].Nodup↔((a≠b/\a≠c/\a≠d/\a≠e/\a≠f)/\(b≠c/\b≠d/\b≠e/\b≠f)/\(c≠d/\c≠e/\c≠f)/\(d≠e/\d≠f)/\e≠f):=by
 simp only[bO,aH,bD,or_false,not_or,cW,not_false_eq_true,and_true]
theorem no6{x a b c d e f:Nat}:x∉[a,b,c,d,e,f]↔(x≠a/\x≠b/\x≠c/\x≠d/\x≠e/\x≠f):=by
 simp only[aH,bD,or_false,not_or]
theorem Aw.lt(A:Aw ns tk m L N v d0 rs tr ts hs s):∀ i∈v.mu,i < s.length:=λi a=>by
 have a:i∈[v.bo,v.kp,v.wT,v.wD,v.wt,v.wH]:=a;simp only[aH,bD,or_false]at a;rcases a with rfl|rfl|rfl|rfl|rfl|rfl
 .exact Zd A.b.ob
 .exact Zd A.b.ke
 .exact Zd A.t.c
 .exact Zd A.d
 .exact Zd A.w
 .exact Zd A.h
theorem Aw.grw(A:Aw ns tk m L N v d0 rs tr ts hs s)(g:Grw s st):Aw ns tk m L N v d0 rs tr ts hs st:={ A with b:=A.b.grw g,t:=A.t.grw g,d:=g.get A.d,w:=g.get A.w,h:=g.get A.h,hk:=λp a=>⟨g.get (A.hk p a).1,(A.hk p a).2⟩,z:=g.get A.z }
theorem Aw.more(A:Aw ns tk m L N v d0 rs tr ts hs s)(h:N<=n):Aw ns tk m L n v d0 rs tr ts hs s:={ A with ln:=aK A.ln (Nat.mul_le_mul_right _ h),hl:=aK A.hl h }
theorem J8(h:s[wT]?=some (true,ts.map tnE))(c:ts.length < 900000)(b:ev F a U st=some (.dic wT,s)):ev F (.len a) U st=some (.int (ts.length:Int),s):=by
 show Zq (ev F a) V6 U st=_;unfold Zq;rw[b];show V6 (.dic wT) s=_;unfold V6 ZcC;simp only[h];show(match (if Yh (ts.map tnE)=false/\(ts.map tnE).length<=Zn then some ((ts.map tnE).length:Int) else none) with
  |some n=>some (D.int n,s)
  |none=>none)=_
 rw[if_pos ⟨Uf,by rw[aD];unfold Zn;omega⟩,aD]
theorem JX:((cdL rs).map λp=>D.int (btL m rs L tr p:Int))=(bsL m rs L tr).map D.int:=(bL ..).symm
theorem Zet(a:Rs m rs):(bsL m rs L tr).length<=600:=by unfold bsL;rw[aD];exact UJ a
theorem Qc(hN:N<=90)(A:Aw ns tk m L N v d0 rs tr ts hs s):∃ st' ts',rT (n+10) 276 [.dic v.bo,pgD tk m rs,.lst v.wt,.int (L:Int),.dic v.wT,.lst v.wD] s=some (.tup ((bsL m rs L tr).map D.int),st')/\Ks v.mu s st'/\Aw ns tk m L (N+1) v d0 rs tr ts' hs st':=by
 have lt:=A.lt;have ln:=A.ln;have Q:=A.f;obtain⟨G,H,wT,l,M,X⟩:=v;obtain⟨⟨d1,d2,d3,d4,d5⟩,⟨d6,d7,d8,d9⟩,⟨V,T,d12⟩,⟨d13,d14⟩,d15⟩:=nd6.mp (show[G,H,wT,l,M,X].Nodup from A.dj);have hT:Tt m rs L wT ts s:=A.t;have hD:s[l]?=some (true,[.int ((d0+ts.length:Nat):Int)]):=A.d;have hw:s[M]?=some (true,tr.map inD):=A.w;have hb:Bk tk m rs tr L G H d0 (ts.map Prod.fst) s:=A.b
 obtain⟨U,e⟩:∃ U:Ot D->Ot D->Ot D->Env,(λC B y=>[some (.dic G),some (pgD tk m rs),jL M,jN L,some (.dic wT),jL l,C,B,y])=U:=⟨_,rfl⟩
 have st6:∀ C B y x,Zh (U C B y) 6 x=U (some x) B y:=by rw[<-e];intros;rfl
 have st7:∀ C B y x,Zh (U C B y) 7 x=U C (some x) y:=by rw[<-e];intros;rfl
 have st8:∀ C B y x,Zh (U C B y) 8 x=U C B (some x):=by rw[<-e];intros;rfl
 have p1:=Zi (i:=6) (J8 (F:=rT (n+9)) (a:=.v 4) (U:=U none none none) hT.c (by omega) (by rw[<-e];rfl))
 rw[st6]at p1;cases Zf3 (n:=n+3) (tk:=tk) (by omega) Q hT (Ne.symm T) hw with
 |@mk j s2 o e2 k2 T2 q2 n2 h2 l2=>
 have p2:=Zi (i:=7) (Z1 (F:=rT (n+9)) (a:=.aC (.v 1) (.aC (.v 2) (.aC (.v 3) (.u (.v 4))))) (U:=U (jN ts.length) none none) (xs:=[pgD tk m rs,.lst M,.int (L:Int),.dic wT]) (by rw[<-e];rfl) e2)
 rw[st7]at p2;have z2:=Xz q2;have la:=ZcF (ks:=ts.map Prod.fst) Q.r (tr:=tr) (by have:=A.n4;omega)
 rw[aD]at la;have S:=k2.get hD (Ne.symm V);have y3:Y (rT (n+9)) s2 (.bin .Sub (.bin .Add (.ix (.v 5) (.i 0)) (.len (.v 4))) (.v 6)) (U (jN ts.length) (jL j) none) (.int ((d0+o.length:Nat):Int)):=by
  rw[show((d0+o.length:Nat):Int)=((d0+ts.length:Nat):Int)+(o.length:Int) - (ts.length:Int) by omega]
  exact .sub (.add (.ixl (j:=0) S (by rw[<-e];exact .r rf) (.r rf) rfl) (λst g=>⟨st,J8 (g.get T2.c) (by omega) (by rw[<-e];rfl),.refl⟩)) (by rw[<-e];exact .r rf)
 obtain⟨s3,e3,P⟩:=y3 s2 .refl;have R:=P.get S;have p3:=Zd3 (F:=rT (n+9)) (i0:=5) (a:=.i 0) (p:=0) e3 (by rw[<-e];rfl) rfl R (by show 0 < 1;decide)
 obtain⟨E,e4⟩:∃ E,s3.set l (true,[D.int ((d0+o.length:Nat):Int)])=E:=⟨_,rfl⟩;have p3:ex (rT (n+9)) (.put 5 (.i 0) (.bin .Sub (.bin .Add (.ix (.v 5) (.i 0)) (.len (.v 4))) (.v 6))) (U (jN ts.length) (jL j) none) s2=some (.nx (U (jN ts.length) (jL j) none),E):=by rw[<-e4];exact p3
 have J:Kj l s3 E:=by rw[<-e4];exact .set
 have D4:E[l]?=some (true,[.int ((d0+o.length:Nat):Int)]):=by rw[<-e4,Zk (Zd R),if_pos rfl]
 have lD:=lt l (.tail _ (.tail _ (.tail _ (.head _))));have lT:=lt wT (.tail _ (.tail _ (.head _)));have lb:=lt G (.head _);have lk:=lt H (.tail _ (.head _))
 -- all but the dict and the runs stands
 have W:∀ {i:Nat}{c:ZI},s[i]?=some c->i≠wT->i≠l->E[i]?=some c:=λh a b=>J.get (P.get (k2.get h a)) b
 have b4:Bk tk m rs tr L G H d0 (ts.map Prod.fst) E:=⟨W hb.ob d2 d3,W hb.ke d6 d7,hb.ne⟩;obtain⟨s5,e5,I,b5⟩:=JB (n:=n) (by rw[aD];omega) Q b4
 rw[JX]at e5 h2;have p5:=Zi (i:=8) ((Y3 (F:=rT (n+9)) (tab:=[(263,268)]) (a:=.v 0) (b:=.aN) (U:=U (jN ts.length) (jL j) none) (st:=E) (st':=E) b4.ob (by rw[<-e];rfl) rfl rfl).trans e5)
 rw[st8]at p5;rw[<-q2]at b5;have T5:Tt m rs L wT o s5:=by
  have f2:∀ x∈o,x.2≠l/\x.2≠G/\x.2≠H:=λx K=>(n2 x K).elim (λq=>by
   obtain⟨a1,a2,a3,a4,a5,a6⟩:=no6.mp (show x.2∉[G,H,wT,l,M,X] from A.fr x q);exact⟨a4,a1,a2⟩) λq=>⟨by omega,by omega,by omega⟩
  exact⟨I.get (J.get (P.get T2.c) V) (Ne.symm d2) (Ne.symm d6),λx K=>I.get (J.get (P.get (T2.p x K)) (f2 x K).1) (f2 x K).2.1 (f2 x K).2.2,T2.n⟩
 have D5:=I.get D4 (Ne.symm d3) (Ne.symm d7);have j5:=I.get (J.get (P.get h2) (by omega)) (by omega) (by omega)
 have y6:Y (rT (n+9)) s5 (.or (.not (.call 36 (.aC (.v 8) (.u (.v 7))) [])) (.or (.not (.call 17 (.u (.meth [(263,269)] (.v 0) .aN)) [])) (.cmp .NotEq (.meth [(263,269)] (.v 0) .aN) (.ix (.v 5) (.i 0))))) (U (jN ts.length) (jL j) (some (.tup ((bsL m rs L tr).map D.int)))) (.bl false):=by
  have rn:Y (rT (n+9)) s5 (.meth [(263,269)] (.v 0) .aN) (U (jN ts.length) (jL j) (some (.tup ((bsL m rs L tr).map D.int)))) (.int ((d0+(o.map Prod.fst).length:Nat):Int)):=.meth b5.ob (by rw[<-e];exact .r rf) rfl .nil (JL (n:=n+8) b5)
  refine .or (k:=false) (m:=false) (.not (k:=true) (.call (xs:=[.tup ((bsL m rs L tr).map D.int),.lst j]) (by rw[<-e];exact .r rf) (ZbN (n:=n+7) (by have:=Zet (m:=m) (rs:=rs) (L:=L) (tr:=tr) Q.r;omega) j5))) λ_=>.or (k:=false) (m:=false) (.not (k:=true) (.call1 rn (Qg (n:=n+8)))) λ_=>.cmp rn (.ixl (j:=0) D5 (by rw[<-e];exact .r rf) (.r rf) rfl) λ_=>?_
  show some (!decide (((d0+(o.map Prod.fst).length:Nat):Int)=((d0+o.length:Nat):Int)))=_;rw[aD,aG rfl];rfl
 obtain⟨Z,e6,O⟩:=y6 s5 .refl;have KK:∀ i,i < s.length->i∉[G,H,wT,l,M,X]->Z[i]?=s[i]?:=λi hi hn=>by
  obtain⟨a1,a2,a3,a4,a5,a6⟩:=no6.mp hn;obtain⟨c,hc⟩:∃ c,s[i]?=some c:=⟨_,lG7 hi⟩;rw[hc];exact O.get (I.get (W hc a3 a4) a1 a2)
 have LL:s.length<=Z.length:=aK k2.len (aK P.len (aK J.len (aK I.len O.len)));have KX:∀ {i:Nat}{c:ZI},s[i]?=some c->i∉[G,H,wT,l,M,X]->Z[i]?=some c:=λh hn=>(KK _ (Zd h) hn).trans h
 refine⟨Z,o,Z6 (v:=c__law_asked) rfl rfl (Zae (U:=U none none none) (by rw[<-e];rfl) ((Zb p1).trans ((Zb p2).trans ((Zb p3).trans ((Zb p5).trans ((Zb ((ZN e6).trans Ze)).trans (Zm (ZC (VN (by rw[<-e];rfl)))))))))),⟨KK,LL⟩,?_⟩
 refine⟨b5.grw O,T5.grw O,O.get D5,O.get (I.get (W hw (Ne.symm T) (Ne.symm d13)) (Ne.symm d4) (Ne.symm d8)),O.get (I.get (W A.h (Ne.symm d12) (Ne.symm d14)) (Ne.symm d5) (Ne.symm d9)),λp hp=>⟨KX (A.hk p hp).1 (A.hk p hp).2,(A.hk p hp).2⟩,λx K=>?_,A.dj,KX A.z A.z0,A.z0,by rw[q2];exact ZcK A.nd,Q,?_,A.n4,Nat.le_succ_of_le A.hl⟩
 .rcases n2 x K with q|q
  .exact A.fr x q
  .exact λhi=>by have:=lt _ hi;omega
 .rw[z2];omega
abbrev gvE(f:D)(m:Nat)(rs:Li Rw)(k e d w:Nat)(c b a:Ot D):Env:=[some (pgD f m rs),jN k,some (.dic e),jL d,some (.dic w),c,b,a]
variable{wk wD:Nat}{u:Ky×Nat}
theorem Qx:∀ {ts:Th},(ts.map Prod.fst).Nodup->∀ x∈ts,∀ y∈ts,x.1=y.1->x=y
 |[],_,_,c,_,_,_=>nomatch c
 |a :: ts,b,x,c,y,d,e=>by
  rw[aJ,bO]at b;rcases aH.mp c with h1|h1
  .rcases aH.mp d with h2|h2
   .rw[h1,h2]
   .exact(b.1 (aR.mpr ⟨y,h2,by rw[<-e,h1]⟩)).elim
  .rcases aH.mp d with h2|h2
   .exact(b.1 (aR.mpr ⟨x,h1,by rw[e,h2]⟩)).elim
   .exact Qx b.2 x h1 y h2 e
theorem J9(h:s[wT]?=some (true,ts.map tnE))(nd:(ts.map Prod.fst).Nodup)(hu:u∈ts)(i:ev F a U s=some (.dic wT,s))(g:ev F b U s=some (knE u.1,s)):ev F (.ix a b) U s=some (.lst u.2,s):=by
 show Zw (ev F a) (ev F b) ixR U s=_;unfold Zw;simp only[i,g];show ixR (.dic wT) (.tup [cdN u.1.1,inD u.1.2]) s=_;unfold ixR;have:ixD (.dic wT) (.tup [cdN u.1.1,inD u.1.2]) s=jL u.2:=by
  show(dAt [cdN u.1.1,inD u.1.2] wT s).join=_;rw[JR (z:=u.1) h];rcases Vf (k:=u.1) (ts:=ts) with⟨p,c,f,e⟩|⟨d,_⟩
  .rw[e,Qx nd p c u hu f];rfl
  .exact absurd (aR.mpr ⟨u,hu,rfl⟩) d
 rw[this]
theorem Y.niN{l:Li Nat}(o:Y F s a U (.int (k:Int)))(n:Lv s (ev F b U) (Dp.inN l)):Y F s (.cmp .NotIn a b) U (.bl (!decide (k∈l))):=λst g=>by
 obtain⟨j,u,h⟩:=o st g;obtain⟨e,q,bb,t,p,m⟩:=n j (g.trans h);refine⟨e,J7 u t ?_,h.trans m⟩;show(inS e (.int (k:Int)) (.lst q)).map Bool.not=_;obtain⟨f,d,_⟩:=Y.inN (F:=F) (s:=e) (a:=.i (k:Int)) (b:=.c (.lst q)) (U:=U) (l:=l) (.r rf) (.v p (.r rf)) e .refl;have d:Z3 .In (.int (k:Int)) (.lst q) e=some (.bl (decide (k∈l)),f):=d
 unfold Z3 at d;cases c:Xf .In (.int (k:Int)) (.lst q) e with
 |none=>rw[c]at d;cases d
 |some v=>
  rw[c]at d;have d:some (D.bl v,e)=some (.bl (decide (k∈l)),f):=d;have c:inS e (.int (k:Int)) (.lst q)=some v:=c;rw[c]
  injection d with d;injection d with d _;injection d with d
  rw[d];rfl
theorem Zce{x7:Ot D}(h:Tt m rs L wT ts s)(nd:(ts.map Prod.fst).Nodup)(hu:u∈ts)(hc:s[wc]?=some (true,(cdL rs').map λp=>kdE (some p)))(hw:s[w]?=some (true,acc)):∃ st' t,ex (rT (n+5)) Zt (gvE tk m rs' k wT wc w (some (cdN u.1.1)) (some (inD u.1.2)) x7) s=(if stB rs' k (snP m (rO rs u.1.1) L u.1.2) u.1.1=true then ex (rT (n+5)) (.z (.put 4 (.tupE (.aC (.v 5) (.u (.v 6)))) (.ix (.v 2) (.tupE (.aC (.v 5) (.u (.v 6))))))) (gvE tk m rs' k wT wc w (some (cdN u.1.1)) (some (inD u.1.2)) t) st' else some (.nx (gvE tk m rs' k wT wc w (some (cdN u.1.1)) (some (inD u.1.2)) t),st'))/\Grw s st':=by
 obtain⟨U,d⟩:∃ U:Ot D->Env,(λx7=>gvE tk m rs' k wT wc w (some (cdN u.1.1)) (some (inD u.1.2)) x7)=U:=⟨_,rfl⟩
 have A:∀ x7,gvE tk m rs' k wT wc w (some (cdN u.1.1)) (some (inD u.1.2)) x7=U x7:=λx7=>by rw[<-d]
 rw[A];have H:∀ x7 x,Zh (U x7) 7 x=U (some x):=by rw[<-d];intros;rfl
 obtain⟨l,Z⟩:∃ l,snP m (rO rs u.1.1) L u.1.2=l:=⟨_,rfl⟩;have P:=h.p u hu;rw[Z]at P ⊢;have X:∀ {s:Za}{x7:Ot D},ev (rT (n+5)) (.tupE (.aC (.v 5) (.u (.v 6)))) (U x7) s=some (knE u.1,s):=by rw[<-d];intros;rfl
 have S:Y (rT (n+5)) s (.cmp .NotIn (.v 1) (.ix (.v 2) (.tupE (.aC (.v 5) (.u (.v 6)))))) (U x7) (.bl (!decide (k∈l))):=.niN (.v (by rw[<-d];rfl)) λst g=>⟨st,u.2,true,J9 (g.get h.c) nd hu (VN (by rw[<-d];rfl)) X,g.get P,.refl⟩
 obtain⟨F,e1,y⟩:=S s .refl;have I:=Zi (i:=7) e1;rw[H]at I;have B:∀ {x:Bool}{a:Za},Grw s a->ex (rT (n+5)) (.z (.ite (.v 7) (.z (.put 4 (.tupE (.aC (.v 5) (.u (.v 6)))) (.ix (.v 2) (.tupE (.aC (.v 5) (.u (.v 6))))))) .skip)) (U (some (.bl x))) a=(if x=true then ex (rT (n+5)) (.z (.put 4 (.tupE (.aC (.v 5) (.u (.v 6)))) (.ix (.v 2) (.tupE (.aC (.v 5) (.u (.v 6))))))) (U (some (.bl x))) a else some (.nx (U (some (.bl x))),a)):=λ{x a} g=>by
  have C:ev (rT (n+5)) (.v 7) (U (some (.bl x))) a=some (.bl x,a):=VN (by rw[<-d];rfl)
  cases x with
  |false=>rw[if_neg (by decide)];exact(Zb ((ZN C).trans Ze)).trans Ze
  |true=>
   rw[if_pos rfl];have T:∃ f,ex (rT (n+5)) (.z (.put 4 (.tupE (.aC (.v 5) (.u (.v 6)))) (.ix (.v 2) (.tupE (.aC (.v 5) (.u (.v 6))))))) (U (some (.bl true))) a=f:=⟨_,rfl⟩;obtain⟨f,o⟩:=T;show YG (Yp (ev (rT (n+5)) (.v 7)) (ex (rT (n+5)) (.z (.put 4 (.tupE (.aC (.v 5) (.u (.v 6)))) (.ix (.v 2) (.tupE (.aC (.v 5) (.u (.v 6)))))))) (ex (rT (n+5)) .skip)) (ex (rT (n+5)) .skip) (U (some (.bl true))) a=_
   unfold YG Yp;rw[C];simp only[o];cases f with
   |none=>rfl
   |some q=>obtain⟨fl,st⟩:=q;cases fl<;>rfl
 cases e:u.1.1 with
 |none=>
  have M:∀ {x7:Ot D}{b:CE}{a:Za},ev (rT (n+5)) (.and (.cmp .IsNot (.v 5) (.c .non)) b) (U x7) a=some (.bl false,a):=λ{x7 b a}=>Zgm (by rw[<-d,e];rfl)
  refine⟨F,some (.bl (!decide (k∈l))),?_,y⟩;have:=B (x:=!decide (k∈l)) y;rw[e]at A;rw[A];exact(Zb I).trans ((Zb ((ZN M).trans Ze)).trans ((Zb ((ZN M).trans Ze)).trans this))
 |some p=>
  have G:∀ {x7:Ot D}{a:Za},Y (rT (n+5)) a (.v 5) (U x7) (kdE (some p)):=.v (by rw[<-d,e];rfl)
  have O:∀ {x7:Ot D}{a:Za},Y (rT (n+5)) a (.cmp .IsNot (.v 5) (.c .non)) (U x7) (.bl true):=.cmp G (.r rf) λ_=>rfl
  have R:Y (rT (n+5)) F (.and (.cmp .IsNot (.v 5) (.c .non)) (.cmp .Eq (.ix (.v 5) (.i 0)) (.v 1))) (U (some (.bl (!decide (k∈l))))) (.bl (true&&decide (p.1=k))):=.and O λ_=>.cmp (.ixt (j:=0) G (.r rf) rfl) (.v (by rw[<-d];rfl)) λ_=>by
   show some (decide ((p.1:Int)=(k:Int)))=_;exact congrArg some (decide_eq_decide.mpr (by omega))
  obtain⟨a,E,J⟩:=R F .refl;rw[cC]at E;have W:ex (rT (n+5)) (.ite (.and (.cmp .IsNot (.v 5) (.c .non)) (.cmp .Eq (.ix (.v 5) (.i 0)) (.v 1))) (.z (.set 7 (.c (.bl true)))) .skip) (U (some (.bl (!decide (k∈l))))) F=some (.nx (U (some (.bl (decide (p.1=k)||!decide (k∈l))))),a):=by
   cases c:decide (p.1=k) with
   |true=>rw[c]at E;rw[Bool.true_or];refine(Z5 E).trans ((Zb (Zi (v:=.bl true) (st':=a) rfl)).trans ?_);rw[H];rfl
   |false=>rw[c]at E;rw[Bool.false_or];exact(ZN E).trans Ze
  have K:=(y.trans J).get hc;have Q:Y (rT (n+5)) a (.and (.cmp .IsNot (.v 5) (.c .non)) (.cmp .NotIn (.v 5) (.v 3))) (U (some (.bl (decide (p.1=k)||!decide (k∈l))))) (.bl (true&&!decide (p∈cdL rs'))):=.and O λ_=>.niE En.code (x:=p) G (.v K (.v (by rw[<-d];rfl)))
  obtain⟨f,o,N⟩:=Q a .refl;rw[cC]at o;have V:ex (rT (n+5)) (.ite (.and (.cmp .IsNot (.v 5) (.c .non)) (.cmp .NotIn (.v 5) (.v 3))) (.z (.set 7 (.c (.bl false)))) .skip) (U (some (.bl (decide (p.1=k)||!decide (k∈l))))) a=some (.nx (U (some (.bl (stB rs' k l (some p))))),f):=by
   have eb:stB rs' k l (some p)=(decide (p∈cdL rs')&&(decide (p.1=k)||!decide (k∈l))):=rfl;rw[eb];cases c:decide (p∈cdL rs') with
   |false=>rw[c]at o;rw[dE];refine(Z5 o).trans ((Zb (Zi (v:=.bl false) (st':=f) rfl)).trans ?_);rw[H];rfl
   |true=>rw[c]at o;rw[cC];exact(ZN o).trans Ze
  refine⟨f,some (.bl (stB rs' k l (some p))),?_,y.trans (J.trans N)⟩;have:=B (x:=stB rs' k l (some p)) (y.trans (J.trans N));rw[e]at A;rw[A];exact(Zb I).trans ((Zb W).trans ((Zb V).trans this))
section
variable{kq:Int}
def stT(m:Nat)(rs:Li Rw)(L k:Nat)(r:Rw)(x:Ky×Nat):Bool:=stP m rs L k r x.1
theorem Qz(nd:(ts.map Prod.fst).Nodup)(hn:ts.length < 900000)(o:w≠wk)(t:w≠wT)(s:w≠wc)(l:∀ x∈ts,x.2≠w):∀ (M i:Nat) (st:Za) (C B x7:Ot D),i+M=ts.length->st[wk]?=some (true,ts.map λx=>knE x.1)->Tt m rs L wT ts st->st[wc]?=some (true,(cdL (rs.set k r)).map λp=>kdE (some p))->st[w]?=some (true,((ts.take i).filter (stT m rs L k r)).map tnE)->∃ J I H st',ZB (Ui 5 6 (ex (rT (n+5)) Zt)) wk M i (gvE tk m (rs.set k r) k wT wc w C B x7) st=some (.nx (gvE tk m (rs.set k r) k wT wc w J I H),st')/\Kj w st st'/\st'[w]?=some (true,(ts.filter (stT m rs L k r)).map tnE)
 |0,i,st,C,B,x7,hi,G,h,N,e=>by
  rw[dX (by omega)]at e
  refine⟨C,B,x7,st,?_,Grw.refl.kj,e⟩;unfold ZB;rw[G];show(if (ts.map λx=>knE x.1).length<=i then _ else none)=_
  rw[if_pos (by rw[aD];omega)]
 |M+1,i,st,C,B,x7,hi,G,h,N,e=>by
  have j:i < ts.length:=by omega
  have d:ts[i]?=some ts[i]:=lG7 j;obtain⟨u,P⟩:∃ u,ts[i]=u:=⟨_,rfl⟩;rw[P]at d;have O:u∈ts:=aU d;obtain⟨V,A,e1,f⟩:=Zce (n:=n) (tk:=tk) (rs':=rs.set k r) (k:=k) (w:=w) (x7:=x7) h nd O N e;have K:ts.take (i+1)=ts.take i++[u]:=by rw[List.take_succ,d];rfl
  have step:∃ g,ex (rT (n+5)) Zt (gvE tk m (rs.set k r) k wT wc w (some (cdN u.1.1)) (some (inD u.1.2)) x7) st=some (.nx (gvE tk m (rs.set k r) k wT wc w (some (cdN u.1.1)) (some (inD u.1.2)) A),g)/\Kj w st g/\g[w]?=some (true,((ts.take (i+1)).filter (stT m rs L k r)).map tnE):=by
   rw[e1,K,List.filter_append];cases c:stB (rs.set k r) k (snP m (rO rs u.1.1) L u.1.2) u.1.1 with
   |false=>
    rw[if_neg (by decide),eI (show ¬stT m rs L k r u=true by rw[show stT m rs L k r u=false from c];decide),List.filter_nil,bB]
    exact⟨V,rfl,f.kj,f.get e⟩
   |true=>
    rw[if_pos rfl,eJ (show stT m rs L k r u=true from c),List.filter_nil];have X:u.1∉((ts.take i).filter (stT m rs L k r)).map Prod.fst:=λq=>by
     obtain⟨y,hy,ey⟩:=aR.mp q;have ht:=(bM.mp hy).1;have e0:ts.map Prod.fst=(ts.take i).map Prod.fst++(ts.drop i).map Prod.fst:=by rw[<-aX,List.take_append_drop]
     rw[e0,cM]at nd;exact nd.2.2 u.1 (aR.mpr ⟨y,ht,ey⟩) u.1 (aR.mpr ⟨u,by rw[bP j,P];exact lQ7,rfl⟩) rfl
    have fl:=eK (stT m rs L k r) (ts.take i);have tl:=List.length_take_le i ts;have Y:=J9 (F:=rT (n+5)) (a:=.v 2) (b:=.tupE (.aC (.v 5) (.u (.v 6)))) (U:=gvE tk m (rs.set k r) k wT wc w (some (cdN u.1.1)) (some (inD u.1.2)) A) (f.get h.c) nd O rfl rfl;have W:=ZbJ (F:=rT (n+5)) (i0:=4) (a:=.tupE (.aC (.v 5) (.u (.v 6)))) (U:=gvE tk m (rs.set k r) k wT wc w (some (cdN u.1.1)) (some (inD u.1.2)) A) (ks:=[cdN u.1.1,inD u.1.2]) Y rfl rfl (Qu (z:=u.1) (f.get e) (by omega) X)
    refine⟨_,(Zb W).trans Ze,f.kj.trans .set,?_⟩;rw[Zk (Zd (f.get e)),if_pos rfl]
  obtain⟨g,e2,E,h2⟩:=step;obtain⟨S,R,Q,T,e3,Z,h3⟩:=Qz nd hn o t s l M (i+1) g (some (cdN u.1.1)) (some (inD u.1.2)) A (by omega) (E.get G (Ne.symm o)) (h.keep (E.kl (.head _)) (Ne.symm t) l) (E.get N (Ne.symm s)) h2
  refine⟨S,R,Q,T,?_,E.trans Z,h3⟩
  conv=>lhs;unfold ZB
  simp only[G,aS,d,Option.map_some];show(match ex (rT (n+5)) Zt (gvE tk m (rs.set k r) k wT wc w (some (cdN u.1.1)) (some (inD u.1.2)) x7) st with
    |some (.nx U',st')=>ZB _ wk M (i+1) U' st'
    |some (.ct U',st')=>ZB _ wk M (i+1) U' st'
    |some (.bk U',st')=>some (Fl.nx U',st')
    |some (.rt v,st')=>some (Fl.rt v,st')
    |none=>none)=_
  rw[e2];exact e3
theorem Zcz:(ts.map tnE).filterMap ZeS=ts.map λx=>knE x.1:=by
 induction ts with
 |nil=>rfl
 |cons a ts b=>rw[aJ,aJ,<-b];rfl
theorem ZbP(h:Tt m rs L wT ts s)(nd:(ts.map Prod.fst).Nodup)(F:ts.length < 900000)(q:Rs m (rs.set k r)):∃ st' w,rT (n+6) 279 [pgD tk m (rs.set k r),.int (k:Int),.dic wT] s=some (.dic w,st')/\Grw s st'/\Tt m (rs.set k r) L w (ts.filter (stT m rs L k r)) st'/\s.length<=w:=by
 obtain⟨b,wc,K,y,o,P⟩:=Wf (n:=n) (tk:=tk) q s (.refl:Grw s s);have t:ex (rT (n+5)) (.set 4 .dnew) [some (pgD tk m (rs.set k r)),jN k,some (.dic wT),jL wc,none,none,none,none] b=some (.nx (gvE tk m (rs.set k r) k wT wc b.length none none none),b++[(true,[])]):=Zi rfl;obtain⟨a,e⟩:∃ a,b++[(true,[])]=a:=⟨_,rfl⟩
 rw[e]at t;have g2:Grw b a:=e ▸ .push;have M:a.length=b.length+1:=by rw[<-e,aI];rfl
 have i:=h.grw (o.trans g2);have A:ev (rT (n+5)) (.srt (.v 2)) (gvE tk m (rs.set k r) k wT wc b.length none none none) a=some (.lst a.length,a++[(true,ts.map λx=>knE x.1)]):=by
  show Zbz (.dic wT) a=_;unfold Zbz;simp only[i.c];rw[if_pos ⟨Uf,by rw[aD];unfold Zn;omega⟩,Zcz]
 obtain⟨f,d⟩:∃ f,a++[(true,ts.map λx=>knE x.1)]=f:=⟨_,rfl⟩
 rw[d]at A;have j:Grw a f:=d ▸ .push;have l0:=o.len;have O:=Zd h.c;have N:=Zd y;obtain⟨D,C,B,l,J,E,H⟩:=Qz (n:=n) (tk:=tk) (rs:=rs) (k:=k) (r:=r) (L:=L) (m:=m) (wT:=wT) (wc:=wc) (w:=b.length) (wk:=a.length) nd F (by omega) (by omega) (by omega) (λx g=>by have:=Zd (h.p x g);omega) ts.length 0 f none none none (by omega) (d ▸ Zl) (i.grw j) ((g2.trans j).get y) (by rw[List.take_zero];exact j.get (e ▸ Zl))
 have I:ex (rT (n+5)) (.for2 5 6 (.srt (.v 2)) Zt) (gvE tk m (rs.set k r) k wT wc b.length none none none) a=some (.nx (gvE tk m (rs.set k r) k wT wc b.length D C B),l):=by
  show VP 5 6 (ev (rT (n+5)) (.srt (.v 2))) (ex (rT (n+5)) Zt) _ a=_;unfold VP;rw[A];have G:f[a.length]?=some (true,ts.map λx=>knE x.1):=d ▸ Zl
  simp only[G,aD];exact J
 have z:Grw s l:=E.grw l0 (o.trans (g2.trans j));refine⟨l,b.length,Z6 (v:=c__law_given_up) rfl rfl ((Zb (Zi (Z1 (xs:=[pgD tk m (rs.set k r)]) rfl K))).trans ((Zb t).trans ((Zb I).trans (Zm (ZC rfl))))),z,⟨H,λx g=>?_,λx g=>?_⟩,l0⟩
 .have u:=bM.mp g
  have hs:stP m rs L k r x.1=true:=u.2;rw[(QP (m:=m) (L:=L) (r:=r) hs).2];exact z.get (h.p x u.1)
 .have:=Zd (h.p x (bM.mp g).1);omega
theorem Qw:(ts.filter (stT m rs L k r)).map Prod.fst=(ts.map Prod.fst).filter (stP m rs L k r):=by rw[List.filter_map];rfl
theorem Zd7(hk:k < rs.length)(hl:rs.length<=900):C (rT (n+1)) s 92 [pgD tk m rs,.int (k:Int),rwE r] (pgD tk m (rs.set k r)):=.of (v:=c__law_put) rfl rfl (.ret (.cons (.r rf) (.cons (.r rf) (.cons (.turned hk hl (.r rf) (.r rf) (.r rf)) .nil))))
theorem JE{c:Int}(a:okD 7 tk=true)(b:Bk tk m rs tr L bo kp d0 ks s)(f:s[wD]?=some (true,[.int ((d0+ks.length:Nat):Int)])):C (rT (n+2)) s 280 [.dic bo,pgD tk m rs,.lst wD,.int c] (.bl true):=.of (v:=c__law_looked) rfl rfl (by
 have e:∀ {op:CmpOp}{kb:Bool},(∀ st,Xf op (pgD tk m rs) (pgD tk m rs) st=some kb)->Y (rT (n+1)) s (.cmp op (.meth [(263,270)] (.v 0) .aN) (.v 1)) [some (.dic bo),some (pgD tk m rs),jL wD,jI c] (.bl kb):=λh=>.cmp (.meth b.ob (.r rf) rfl .nil (Zf6 (n:=n) b)) (.r rf) h
 have d:Y (rT (n+1)) s (.and (.cmp .Eq (.bin .Mod (.v 3) (.i 2)) (.i 0)) (.cmp .NotEq (.meth [(263,270)] (.v 0) .aN) (.v 1))) [some (.dic bo),some (pgD tk m rs),jL wD,jI c] (.bl (decide (c % 2=0)&&false)):=.and (.cmp (.md (.r rf) (.r rf) (by decide)) (.r rf) λ_=>rfl) λ_=>e λst=>by
  show(eqS st (pgD tk m rs) (pgD tk m rs)).map Bool.not=_;rw[ZdE a];rfl
 rw[cK]at d;refine .no d (.ret (.and (k:=true) (m:=true) (.cmp (.meth b.ob (.r rf) rfl .nil (JL (n:=n) b)) (.ixl (j:=0) f (.r rf) (.r rf) rfl) λ_=>?_) λ_=>e λst=>ZdE a))
 show some (decide (((d0+ks.length:Nat):Int)=((d0+ks.length:Nat):Int)))=_;rw[aG rfl])
theorem Zd6{d:Nat}(A:Fit m rs tr L)(J:d<=2)(H:d<=m)(p:st[w]?=some (bb,[.int c0,.int c1,.int c2,.int c3]))(x:st[wt]?=some (bt,tr.map inD)):∃ u st',(u.length<=m/\∀ v∈u,Sm v)/\rT (n+2) 101 [.lst w,.lst wt,.int (d:Int)] st=some (inD u,st')/\Grw st st':=by
 have i0:Y (rT (n+1)) st (.ix (.v 0) (.i 0)) [jL w,jL wt,jN d] (.int c0):=.ixl (j:=0) p (.r rf) (.r rf) rfl;have D:Y (rT (n+1)) st (.and (.cmp .Eq (.bin .Mod (.bin .FloorDiv (.ix (.v 0) (.i 0)) (.i 4)) (.i 3)) (.i 0)) (.cmp .NotEq (.v 1) (.lstE .aN))) [jL w,jL wt,jN d] (.bl (decide (c0 / 4 % 3=0)&&!(tr.map inD).isEmpty)):=.and (.cmp (.md (.fd i0 (.r rf) (by decide)) (.r rf) (by decide)) (.r rf) λ_=>rfl) λ_=>.ne0 x (.r rf)
 obtain⟨z,g,e⟩:=D st .refl;cases k:(decide (c0 / 4 % 3=0)&&!(tr.map inD).isEmpty) with
 |true=>
  rw[k]at g;have I:0 < tr.length:=by
   have:=(cQ.mp k).2;cases c:tr with
   |nil=>rw[c]at this;cases this
   |cons _ _=>exact Nat.succ_pos _
  have B:=Zx c1 (j:=(tr.length:Int)) (by omega)
  have E:Y (rT (n+1)) st (.len (.v 1)) [jL w,jL wt,jN d] (.int (tr.length:Int)):=by
   have:=Y.lenl (F:=rT (n+1)) (a:=.v 1) (U:=[jL w,jL wt,jN d]) x (.r rf);rw[show((bt,tr.map inD):ZI).2.length=tr.length from aD _]at this;exact this
  obtain⟨u,q,C⟩:=Y.ixE (F:=rT (n+1)) (s:=st) (f:=inD) (l:=tr) (a:=.v 1) (b:=.bin .Mod (.ix (.v 0) (.i 1)) (.len (.v 1))) (U:=[jL w,jL wt,jN d]) (.v x (.r rf)) (.md (.ixl (j:=1) p (.r rf) (.r rf) rfl) E (by omega)) B.1 B.2
  obtain⟨h,y,o⟩:=C z e;exact⟨u,h,⟨A.t.l u q,A.t.s u q⟩,Z6 (v:=c__law_inputs) rfl rfl (Zm ((Z5 g).trans (Zm (ZC y)))),e.trans o⟩
 |false=>
  rw[k]at g;obtain⟨u,h,⟨q,G⟩,y,o⟩:=ZdY (n:=n) (s:=st) (st:=z) (t:=d) (fr:=[0]) (it:=.v 2) (elt:=.ix (.v 1) (.bin .Add (.i 2) (.v 0))) (g0:=λa=>if a=0 then c2 else c3) (U:=[jL w,jL wt,jN d]) (by omega) (.r rf) (λa K=>.ixl (j:=2+a) p (.r rf) (by
   rw[bY];exact .add (.r rf) (.r rf)) (by
   have:a=0\/a=1:=by omega
   rcases this with rfl|rfl<;>rfl)) e
  exact⟨u,h,⟨by omega,G⟩,Z6 (v:=c__law_inputs) rfl rfl ((Zb ((ZN g).trans Ze)).trans (Zm (ZC y))),e.trans o⟩
theorem Y.lastL(h:s[w]?=some (bb,xs))(b:xs≠[])(hl:xs.length<=100000)(c:Y F s a U (.lst w)):Y F s (.ix a (.neg (.i 1))) U (xs.getLastD .non):=g2 (y:=.int (-1)) c (.r rf) (gs λst g=>by
 show ixR (.lst w) (.int (-1)) st=_;unfold ixR ixD;simp only[g.get h,Ql b hl])
end
abbrev lE(P g:D)(f:Ot D)(L:Nat)(v:Ix)(e d c b a:Ot D):Env:=[jL 0,some P,some g,jL v.wt,f,jN L,some (.dic v.bo),some (.dic v.wT),jL v.wD,jL v.wH,e,d,c,b,a]
variable{lb:Li Int}
variable{p0:D}{c0 c1 c2 c3:Int}{x4 x10 x11 x12 x13 x14:Ot D}{cl:ZI}
section
variable{t:Nat}
inductive Do(ns:List Int)(tk p0:D)(m L N w:Nat)(rs0:List Rw)(cl:ZI)(x4 x10:Option D)(r:Option (Fl×Za)):Prop
 |mk {v':Ix}{d1:Nat}{rs':List Rw}{tr':List (List Int)}{ts':Th}{hs':List (List Int×Nat)}{st':Za}{y12 y13 y14:Option D} (e:r=some (.nx (lE (pgD tk m rs') p0 x4 L v' x10 (jL w) y12 y13 y14),st')) (A:Aw ns tk m L (N+1) v' d1 rs' tr' ts' hs' st') (l:rs'.length=rs0.length) (h:st'[w]?=some cl):Do ns tk p0 m L N w rs0 cl x4 x10 r
theorem Aw.hold(A:Aw ns tk m L N v d0 rs tr ts hs s)(hl:hs.length < N)(C:s[v.wH]?=some (true,hs.map hdE)):Aw ns tk m L N v d0 rs tr ts (hs++[(lb,s.length)]) ((s++[(true,lb.map D.int)]).set v.wH (true,(hs++[(lb,s.length)]).map hdE))/\Kj v.wH s ((s++[(true,lb.map D.int)]).set v.wH (true,(hs++[(lb,s.length)]).map hdE)):=by
 have lt:=A.lt;obtain⟨B,u,o,q,l,a⟩:=v;obtain⟨⟨d1,T,S,R,G⟩,⟨Q,P,O,F⟩,⟨K,I,k⟩,⟨H,j⟩,e⟩:=nd6.mp (show[B,u,o,q,l,a].Nodup from A.dj);have g:Grw s (s++[(true,lb.map D.int)]):=.push;have J:Kj a s ((s++[(true,lb.map D.int)]).set a (true,(hs++[(lb,s.length)]).map hdE)):=g.kj.trans .set;have E:s[a]?=some (true,hs.map hdE):=C
 have r:=Zd (g.get E);have no:∀ {i:Nat},i∉[B,u,o,q,l,a]->i≠a:=λh=>(no6.mp h).2.2.2.2.2
 refine⟨⟨⟨J.get A.b.ob G,J.get A.b.ke F,A.b.ne⟩,⟨J.get A.t.c k,λx y=>J.get (A.t.p x y) (no (A.fr x y)),A.t.n⟩,J.get A.d j,J.get A.w e,by show _=_;rw[Zk r,if_pos rfl],λp hp=>?_,A.fr,A.dj,J.get A.z (no A.z0),A.z0,A.nd,A.f,A.ln,A.n4,by rw[aI];show _+1<=_;omega⟩,J⟩
 rcases bE.mp hp with hp|hp
 .exact⟨J.get (A.hk p hp).1 (no (A.hk p hp).2),(A.hk p hp).2⟩
 .rw[aO.mp hp]
  have M:=lt a (.tail _ (.tail _ (.tail _ (.tail _ (.tail _ (.head _))))));refine⟨?_,λh=>by have:=lt _ h;exact absurd this (bZ _)⟩
  rw[Zk r,if_neg (by show ¬a=s.length;omega)]
  exact Zl
theorem Zgf(hN:N<=90)(A:Aw ns tk m L N v d0 rs tr ts hs s)(hl:rs.length=rs0.length)(p:s[w]?=some cl)(g:w∉v.mu):Do ns tk p0 m L N w rs0 cl x4 x10 (ex (rT (n+10)) (.seq (.set 12 (.call 276 (.aC (.v 6) (.aC (.v 1) (.aC (.v 3) (.aC (.v 5) (.aC (.v 7) (.u (.v 8))))))) [])) (.seq (.ite (.cmp .Is (.v 12) (.c .non)) (.z (.ret (.c (.bl false)))) .skip) (.z (.app 9 (.tupE (.aC (.v 12) (.u (.listOf (.v 12))))))))) (lE (pgD tk m rs) p0 x4 L v x10 (jL w) x12 x13 x14) s):=by
 obtain⟨a,t,k,o,f⟩:=Qc (n:=n) hN A;obtain⟨lb,b⟩:∃ lb,bsL m rs L tr=lb:=⟨_,rfl⟩;rw[b]at k;obtain⟨r,l⟩:=f.hold (lb:=lb) (Nat.lt_succ_of_le A.hl) f.h;have q:=f.h;have x:=A.hl;refine .mk (y12:=some (.tup (lb.map D.int))) (y13:=x13) (y14:=x14) ((Zb (Zi (Z1 (F:=rT (n+10)) (xs:=[.dic v.bo,pgD tk m rs,.lst v.wt,.int (L:Int),.dic v.wT,.lst v.wD]) rfl k))).trans ((Zb ((ZN (st':=a) rfl).trans Ze)).trans ((Zb (Ux (F:=rT (n+10)) (i:=9) (j:=v.wH) (e:=.tupE (.aC (.v 12) (.u (.listOf (.v 12))))) (d:=hdE (lb,a.length)) (st:=a) (st1:=a++[(true,lb.map D.int)]) (acc:=hs.map hdE) rfl rfl (Grw.push.get q) (by rw[aD];omega))).trans ?_))) r hl (l.get (o.get p g) (no6.mp (show w∉[v.bo,v.kp,v.wT,v.wD,v.wt,v.wH] from g)).2.2.2.2.2)
 rw[aX];rfl
theorem Zgb(hN:N<=90)(ht:t<=2)(S:t<=m)(T:tk=tkD (-9) 9 t)(A:Aw ns tk m L N v d0 rs tr ts hs s)(hl:rs.length=rs0.length)(hw:s[w]?=some (bb,[.int c0,.int c1,.int c2,.int c3]))(hm:w∉v.mu)(h4:tr.length < 4):Do ns tk (pgD tk m rs0) m L N w rs0 (bb,[.int c0,.int c1,.int c2,.int c3]) x4 x10 (ex (rT (n+10)) (.seq (.app 3 (.call 101 (.aC (.v 11) (.aC (.v 3) (.u (.len (.ix (.v 2) (.i 0)))))) [])) (.z (.act (.meth [(263,272)] (.v 6) (.u (.ix (.v 3) (.neg (.i 1)))))))) (lE (pgD tk m rs) (pgD tk m rs0) x4 L v x10 (jL w) x12 x13 x14) s):=by
 have lt:=A.lt;have y:=A.f;obtain⟨o,B,H,K,g,I⟩:=v;obtain⟨⟨d1,d2,d3,d4,d5⟩,⟨d6,d7,d8,d9⟩,⟨d10,Z,d12⟩,⟨X,d14⟩,W⟩:=nd6.mp (show[o,B,H,K,g,I].Nodup from A.dj);have D:s[g]?=some (true,tr.map inD):=A.w;obtain⟨U,e⟩:∃ U,lE (pgD tk m rs) (pgD tk m rs0) x4 L ⟨o,B,H,K,g,I⟩ x10 (jL w) x12 x13 x14=U:=⟨_,rfl⟩;rw[e];have y1:Y (rT (n+10)) s (.aC (.v 11) (.aC (.v 3) (.u (.len (.ix (.v 2) (.i 0)))))) U (.tup [.lst w,.lst g,.int (t:Int)]):=by
  have ln:=Y.lnT (F:=rT (n+10)) (s:=s) (a:=.ix (.v 2) (.i 0)) (U:=U) (xs:=List.replicate t (.tup [.int (-9),.int 9])) (by rw[<-e,T];exact .r rf)
  rw[cA]at ln;exact .cons (by rw[<-e];exact .r rf) (.cons (by rw[<-e];exact .r rf) (.cons ln .nil))
 obtain⟨s1,e1,Q⟩:=y1 s .refl;obtain⟨u,s2,⟨ul,us⟩,e2,k2⟩:=Zd6 (n:=n+8) y ht S (Q.get hw) (Q.get D);have C:=Q.trans k2;have E:=C.get D;have O:=Ux (F:=rT (n+10)) (i:=3) (j:=g) (U:=U) (acc:=tr.map inD) (by rw[<-e];rfl) (Z1 e1 e2) E (by rw[aD];omega)
 rw[show tr.map inD++[inD u]=(tr++[u]).map inD by rw[aX];rfl]at O
 obtain⟨k,V⟩:∃ k,s2.set g (true,(tr++[u]).map inD)=k:=⟨_,rfl⟩;rw[V]at O;have J:Kj g s2 k:=by rw[<-V];exact .set
 have w3:k[g]?=some (true,(tr++[u]).map inD):=by rw[<-V,Zk (Zd E),if_pos rfl]
 have G:∀ {i:Nat}{c:ZI},s[i]?=some c->i≠g->k[i]?=some c:=λh a=>J.get (C.get h) a
 have b3:Bk tk m rs tr L o B d0 (ts.map Prod.fst) k:=⟨G A.b.ob d4,G A.b.ke d8,A.b.ne⟩;have y4:Y (rT (n+10)) k (.u (.ix (.v 3) (.neg (.i 1)))) U (.tup [inD u]):=by
  have:=Y.lastL (F:=rT (n+10)) (a:=.v 3) (U:=U) w3 (by rw[aX];exact List.append_ne_nil_of_right_ne_nil _ (dQ _ _)) (by rw[aD,aI];show _+1<=_;omega) (by rw[<-e];exact .r rf)
  rw[show((tr++[u]).map inD).getLastD .non=inD u by rw[aX,aJ,dH,List.getLastD_eq_getLast?,List.getLast?_concat];rfl]at this
  exact .cons this .nil
 obtain⟨s4,e4,P⟩:=y4 k .refl;obtain⟨s5,e5,k5,b5⟩:=Zf0 (n:=n+8) (t:=u) (by omega) (b3.grw P)
 have c5:=Uw ((Y3 (F:=rT (n+10)) (tab:=[(263,272)]) (a:=.v 6) (U:=U) (st:=k) b3.ob (by rw[<-e];rfl) rfl e4).trans e5)
 have q:∀ {i:Nat}{c:ZI},s[i]?=some c->i≠g->i≠o->s5[i]?=some c:=λh a b=>k5.get (P.get (G h a)) b
 have no:∀ {i:Nat},i∉[o,B,H,K,g,I]->i≠g/\i≠o:=λh=>⟨(no6.mp h).2.2.2.2.1,(no6.mp h).1⟩
 refine .mk (v':=⟨o,B,H,K,g,I⟩) (tr':=tr++[u]) (st':=s5) (y12:=x12) (y13:=x13) (y14:=x14) (by rw[e];exact(Zb O).trans ((Zb c5).trans Ze)) ⟨b5,⟨q A.t.c Z (Ne.symm d2),λx R=>q (A.t.p x R) (no (A.fr x R)).1 (no (A.fr x R)).2,A.t.n⟩,q A.d X (Ne.symm d3),k5.get (P.get w3) (Ne.symm d4),q A.h (Ne.symm W) (Ne.symm d5),λp M=>⟨q (A.hk p M).1 (no (A.hk p M).2).1 (no (A.hk p M).2).2,(A.hk p M).2⟩,A.fr,A.dj,q A.z (no A.z0).1 (no A.z0).2,A.z0,A.nd,⟨y.r,y.b,⟨λz hz=>?_,λz hz=>?_,?_⟩,y.l⟩,?_,?_,Nat.le_succ_of_le A.hl⟩ hl (q hw (no hm).1 (no hm).2)
 .rcases bE.mp hz with hz|hz
  .exact y.t.l z hz
  .cases aO.mp hz;exact ul
 .rcases bE.mp hz with hz|hz
  .exact y.t.s z hz
  .cases aO.mp hz;exact us
 .rw[aI];show _+1<=11;omega
 .have:=A.ln;omega
 .rw[aI];show _+1<=4;omega
theorem Zgi(hN:N<=90)(hm0:0 < m)(hm6:m<=6)(hr0:Rs m rs0)(h0:0 < rs0.length)(A:Aw ns tk m L N v d0 rs tr ts hs s)(hl:rs.length=rs0.length)(hw:s[w]?=some (bb,[.int c0,.int c1,.int c2,.int c3]))(hm:w∉v.mu):Do ns tk (pgD tk m rs0) m L N w rs0 (bb,[.int c0,.int c1,.int c2,.int c3]) x4 x10 (ex (rT (n+10)) (.seq (.set 13 (.bin .Mod (.bin .Mod (.bin .FloorDiv (.ix (.v 11) (.i 0)) (.i 4)) (.i 3)) (.len (.ix (.v 2) (.i 2))))) (.seq (.set 14 (.call 275 (.aC (.v 11) (.aC (.v 1) (.aC (.v 2) (.u (.v 13))))) [])) (.seq (.set 1 (.call 92 (.aC (.v 1) (.aC (.v 13) (.u (.v 14)))) [])) (.seq (.set 7 (.call 279 (.aC (.v 1) (.aC (.v 13) (.u (.v 7)))) [])) (.z (.act (.meth [(263,271)] (.v 6) (.aC (.v 13) (.u (.v 14)))))))))) (lE (pgD tk m rs) (pgD tk m rs0) x4 L v x10 (jL w) x12 x13 x14) s):=by
 have lt:=A.lt;have O:=A.f;have ln:=A.ln;have rl:=O.r.l;obtain⟨o,C,g,B,q,y⟩:=v;obtain⟨⟨d1,d2,d3,d4,d5⟩,⟨d6,d7,d8,d9⟩,⟨d10,d11,d12⟩,⟨d13,d14⟩,d15⟩:=nd6.mp (show[o,C,g,B,q,y].Nodup from A.dj);have em:=Zx (c0 / 4 % 3) (j:=(rs0.length:Int)) (by omega)
 obtain⟨k,hk⟩:∃ k:Nat,c0 / 4 % 3 % (rs0.length:Int)=(k:Int):=⟨_,(bR em.1).symm⟩;have M:k < rs.length:=by omega
 obtain⟨U,e⟩:∃ U:Ot D->Ot D->Ot D->Ot D->Env,(λP T x13 x14=>[jL 0,P,some (pgD tk m rs0),jL q,x4,jN L,some (.dic o),T,jL B,jL y,x10,jL w,x12,x13,x14])=U:=⟨_,rfl⟩
 have y1:Y (rT (n+10)) s (.bin .Mod (.bin .Mod (.bin .FloorDiv (.ix (.v 11) (.i 0)) (.i 4)) (.i 3)) (.len (.ix (.v 2) (.i 2)))) (U (some (pgD tk m rs)) (some (.dic g)) x13 x14) (.int (k:Int)):=by
  have l1:=Y.lnT (F:=rT (n+10)) (s:=s) (a:=.ix (.v 2) (.i 2)) (U:=U (some (pgD tk m rs)) (some (.dic g)) x13 x14) (xs:=rs0.map rwE) (by rw[<-e];exact .r rf)
  rw[aD]at l1;rw[<-hk];exact .md (.md (.fd (.ixl (j:=0) hw (by rw[<-e];exact .r rf) (.r rf) rfl) (.r rf) (by decide)) (.r rf) (by decide)) l1 (by omega)
 obtain⟨s1,e1,k1⟩:=y1 s .refl;have q1:=Zi (i:=13) e1;rw[show Zh (U (some (pgD tk m rs)) (some (.dic g)) x13 x14) 13 (.int (k:Int))=U (some (pgD tk m rs)) (some (.dic g)) (jN k) x14 by rw[<-e];rfl]at q1
 obtain⟨r,R,hr,e2,k2⟩:=Zeb (n:=n+4) (tk:=tk) O.r hr0 hl hm0 (by omega) M (k1.get hw)
 have q2:=Zi (i:=14) (Z1 (F:=rT (n+10)) (a:=.aC (.v 11) (.aC (.v 1) (.aC (.v 2) (.u (.v 13))))) (U:=U (some (pgD tk m rs)) (some (.dic g)) (jN k) x14) (st:=s1) (xs:=[.lst w,pgD tk m rs,pgD tk m rs0,.int (k:Int)]) (by rw[<-e];rfl) e2)
 rw[show Zh (U (some (pgD tk m rs)) (some (.dic g)) (jN k) x14) 14 (rwE r)=U (some (pgD tk m rs)) (some (.dic g)) (jN k) (some (rwE r)) by rw[<-e];rfl]at q2
 obtain⟨s3,e3,k3⟩:=Zd7 (n:=n+9) (tk:=tk) (m:=m) (r:=r) M (by omega) R (.refl:Grw R R)
 have q3:=Zi (i:=1) (Z1 (F:=rT (n+10)) (a:=.aC (.v 1) (.aC (.v 13) (.u (.v 14)))) (U:=U (some (pgD tk m rs)) (some (.dic g)) (jN k) (some (rwE r))) (st:=R) (xs:=[pgD tk m rs,.int (k:Int),rwE r]) (by rw[<-e];rfl) e3)
 rw[show Zh (U (some (pgD tk m rs)) (some (.dic g)) (jN k) (some (rwE r))) 1 (pgD tk m (rs.set k r))=U (some (pgD tk m (rs.set k r))) (some (.dic g)) (jN k) (some (rwE r)) by rw[<-e];rfl]at q3
 have K:Rs m (rs.set k r):=O.r.set hr;have J:=k1.trans (k2.trans k3);obtain⟨X,w4,e4,k4,V,l4⟩:=ZbP (n:=n+4) (tk:=tk) (k:=k) (r:=r) (A.t.grw J) A.nd (by omega) K
 have q4:=Zi (i:=7) (Z1 (F:=rT (n+10)) (a:=.aC (.v 1) (.aC (.v 13) (.u (.v 7)))) (U:=U (some (pgD tk m (rs.set k r))) (some (.dic g)) (jN k) (some (rwE r))) (st:=s3) (xs:=[pgD tk m (rs.set k r),.int (k:Int),.dic g]) (by rw[<-e];rfl) e4)
 rw[show Zh (U (some (pgD tk m (rs.set k r))) (some (.dic g)) (jN k) (some (rwE r))) 7 (.dic w4)=U (some (pgD tk m (rs.set k r))) (some (.dic w4)) (jN k) (some (rwE r)) by rw[<-e];rfl]at q4
 have I:=J.trans k4;have b4:Bk tk m rs tr L o C d0 (ts.map Prod.fst) X:=A.b.grw I;obtain⟨s5,H,d1',e5,Z,b5,l5,hd⟩:=JD (n:=n+4) (r:=r) O K M A.nd (by rw[aD];omega) b4
 have q5:=Uw ((Y3 (F:=rT (n+10)) (tab:=[(263,271)]) (a:=.v 6) (b:=.aC (.v 13) (.u (.v 14))) (U:=U (some (pgD tk m (rs.set k r))) (some (.dic w4)) (jN k) (some (rwE r))) (st:=X) (st':=X) (xs:=[.int (k:Int),rwE r]) b4.ob (by rw[<-e];rfl) rfl (by rw[<-e];rfl)).trans e5)
 rw[<-Qw]at b5 hd;rw[aD,aD]at hd;have l3:=J.len;have l14:=I.len;have lb:=lt o (.head _);have lkp:=lt C (.tail _ (.head _));have lD:=lt B (.tail _ (.tail _ (.tail _ (.head _))));have lt':=lt q (.tail _ (.tail _ (.tail _ (.tail _ (.head _)))));have lH:=lt y (.tail _ (.tail _ (.tail _ (.tail _ (.tail _ (.head _))))));have l4':=Zd V.c;have G:∀ {i:Nat}{c:ZI},s[i]?=some c->i≠o->s5[i]?=some c:=λh a=>Z.get (I.get h) a
 have E:∀ {i:Nat},i∉[o,C,g,B,q,y]->i < s.length->i∉[o,H,w4,B,q,y]:=λh hi=>by
  obtain⟨a1,a2,a3,a4,a5,a6⟩:=no6.mp h;exact no6.mpr ⟨a1,by omega,by omega,a4,a5,a6⟩
 have lf:=eK (stT m rs L k r) ts;have W:w4≠o:=by omega
 have dj':[o,H,w4,B,q,y].Nodup:=nd6.mpr ⟨⟨by omega,by omega,d3,d4,d5⟩,⟨by omega,by omega,by omega,by omega⟩,⟨by omega,by omega,by omega⟩,⟨d13,d14⟩,d15⟩
 refine .mk (v':=⟨o,H,w4,B,q,y⟩) (d1:=d1') (rs':=rs.set k r) (tr':=tr) (ts':=ts.filter (stT m rs L k r)) (hs':=hs) (st':=s5) (y12:=x12) (y13:=jN k) (y14:=some (rwE r)) (Zae (U:=U (some (pgD tk m rs)) (some (.dic g)) x13 x14) (by rw[<-e]) ((Zb q1).trans ((Zb q2).trans ((Zb q3).trans ((Zb q4).trans ((Zb q5).trans (by rw[<-e];exact Ze))))))) ?_ (by rw[bC];exact hl) (G hw (no6.mp (show w∉[o,C,g,B,q,y] from hm)).1)
 refine⟨b5,⟨Z.get V.c W,λx Q=>Z.get (V.p x Q) ?_,V.n⟩,?_,G A.w (Ne.symm d4),G A.h (Ne.symm d5),λp S=>?_,λx Q=>?_,dj',G A.z (no6.mp (show 0∉[o,C,g,B,q,y] from A.z0)).1,E A.z0 (Zd A.z),?_,⟨K,O.b,O.t,O.l⟩,by omega,A.n4,Nat.le_succ_of_le A.hl⟩
 .exact(no6.mp (show x.2∉[o,C,g,B,q,y] from A.fr x (bM.mp Q).1)).1
 .rw[hd];exact G A.d (Ne.symm d3)
 .exact⟨G (A.hk p S).1 (no6.mp (show p.2∉[o,C,g,B,q,y] from(A.hk p S).2)).1,E (A.hk p S).2 (Zd (A.hk p S).1)⟩
 .exact E (A.fr x (bM.mp Q).1) (Zd (A.t.p x (bM.mp Q).1))
 .rw[Qw];exact A.nd.filter _
end
variable{sb:Nat}
section
variable{t:Nat}
theorem Wt{k:Bool}{c b a:CS}{v0:Ot (Fl×Za)}(h:ev F e U st=some (.bl k,st1))(d:ex F (if k then c else b) U st1=some (.nx U',st2))(f:ex F a U' st2=v0):ex F (.seq (.ite e c b) a) U st=v0:=by
 refine(Zb (U':=U') (s':=st2) ?_).trans f;cases k with
 |true=>exact(Z5 h).trans d
 |false=>exact(ZN h).trans d
inductive Tn(ns:List Int)(tk:D)(m L N:Nat)(rs0:List Rw)(x4:Option D)(r:Option (Fl×Za)):Prop
 |mk {v':Ix}{d1:Nat}{rs':List Rw}{tr':List (List Int)}{ts':Th}{hs':List (List Int×Nat)}{st':Za}{y10 y11 y12 y13 y14:Option D} (e:r=some (.nx (lE (pgD tk m rs') (pgD tk m rs0) x4 L v' y10 y11 y12 y13 y14),st')) (A:Aw ns tk m L N v' d1 rs' tr' ts' hs' st') (l:rs'.length=rs0.length):Tn ns tk m L N rs0 x4 r
theorem turn(hN:N<=90)(ht:t<=2)(P:t<=m)(x:tk=tkD (-9) 9 t)(T:0 < m)(S:m<=6)(R:Rs m rs0)(h0:0 < rs0.length)(X:∀ (s:Za) (b:Bool),s[0]?=some (b,ns.map D.int)->Cv s cv)(hb:sb<=100)(A:Aw ns tk m L N v d0 rs tr ts hs s)(hl:rs.length=rs0.length):Tn ns tk m L (N+1) rs0 x4 (ex (rT (n+10)) Zu (lE (pgD tk m rs) (pgD tk m rs0) x4 L v (jN sb) x11 x12 x13 x14) s):=by
 have Q:okD 7 tk=true:=by rw[x];exact ZgV (by omega)
 have cc:=X s false A.z;have lc:Lg s (ev (rT (n+10)) XV (lE (pgD tk m rs) (pgD tk m rs0) x4 L v (jN sb) x11 x12 x13 x14)) ((List.range 4).map λa=>D.int (cv (sb+a))):=UR (F:=rT (n+10)) (b:=one) (wk:=Yv true) (fr:=[0,10]) (it:=.i 4) (elt:=.call 27 (.aC (.v 1) (.u (.bin .Add (.v 2) (.v 0)))) []) (en:=λ(k:Nat)=>D.int (k:Int)) (g:=λa=>D.int (cv (sb+a))) (l:=List.range 4) (Wk.rng (N:=4) (by decide) (.r rf)) (by decide) λa ha=>.call (xs:=[.lst 0,.int ((sb+a:Nat):Int)]) (.cons (.r rf) (.cons (by
  rw[bY];exact .add (.r rf) (.r rf)) .nil)) (cc _ _ (by have:=cR.mp ha;omega))
 obtain⟨p,w,e1,C,k1,l1⟩:=lc s .refl;obtain⟨c0,hc0⟩:∃ c,cv sb=c:=⟨_,rfl⟩;obtain⟨c1,hc1⟩:∃ c,cv (sb+1)=c:=⟨_,rfl⟩;obtain⟨c2,hc2⟩:∃ c,cv (sb+2)=c:=⟨_,rfl⟩;obtain⟨c3,Z⟩:∃ c,cv (sb+3)=c:=⟨_,rfl⟩;have C:p[w]?=some (true,[.int c0,.int c1,.int c2,.int c3]):=by rw[<-hc0,<-hc1,<-hc2,<-Z];exact C
 have A1:=A.grw k1;have V:w∉v.mu:=λhi=>by have:=A.lt w hi;omega
 have yc:∀ z:Int,Y (rT (n+10)) p (.cmp .Eq (.bin .Mod (.ix (.v 11) (.i 0)) (.i 4)) (.i z)) (lE (pgD tk m rs) (pgD tk m rs0) x4 L v (jN sb) (jL w) x12 x13 x14) (.bl (decide (c0 % 4=z))):=λz=>.cmp (.md (.ixl (j:=0) C (.r rf) (.r rf) rfl) (.r rf) (by decide)) (.r rf) λ_=>rfl
 obtain⟨s2,o,q⟩:=yc 0 p .refl;have A2:=A1.grw q;have h2:=q.get C
 -- behind the deed
 have e:∀ {K:Ot (Fl×Za)},Do ns tk (pgD tk m rs0) m L N w rs0 (true,[.int c0,.int c1,.int c2,.int c3]) x4 (jN sb) K->(∀ {U:Env}{st' st2:Za},K=some (.nx U,st')->ex (rT (n+10)) (.z (.ite (.not (.call 280 (.aC (.v 6) (.aC (.v 1) (.aC (.v 8) (.u (.ix (.v 11) (.i 1)))))) [])) (.z (.ret (.c (.bl false)))) .skip)) U st'=some (.nx U,st2)->ex (rT (n+10)) Zu (lE (pgD tk m rs) (pgD tk m rs0) x4 L v (jN sb) x11 x12 x13 x14) s=some (.nx U,st2))->Tn ns tk m L (N+1) rs0 x4 (ex (rT (n+10)) Zu (lE (pgD tk m rs) (pgD tk m rs0) x4 L v (jN sb) x11 x12 x13 x14) s):=λ{K} dd f=>by
  cases dd with
  |@mk J d1 rs' tr' ts' hs' st' I H G h A' W O=>
   have y:Y (rT (n+10)) st' (.not (.call 280 (.aC (.v 6) (.aC (.v 1) (.aC (.v 8) (.u (.ix (.v 11) (.i 1)))))) [])) (lE (pgD tk m rs') (pgD tk m rs0) x4 L J (jN sb) (jL w) I H G) (.bl false):=.not (k:=true) (.call (xs:=[.dic J.bo,pgD tk m rs',.lst J.wD,.int c1]) (.cons (.r rf) (.cons (.r rf) (.cons (.r rf) (.cons (.ixl (j:=1) O (.r rf) (.r rf) rfl) .nil)))) (JE (n:=n+8) Q A'.b (by rw[aD];exact A'.d)))
   obtain⟨st2,o,q⟩:=y st' .refl;exact .mk (f h ((Zb ((ZN o).trans Ze)).trans Ze)) (A'.grw q) W
 by_cases q0:c0 % 4=0
 .rw[aG q0]at o
  exact e (Zgf (n:=n) (p0:=pgD tk m rs0) (x4:=x4) (x10:=jN sb) (x12:=x12) (x13:=x13) (x14:=x14) hN A2 hl h2 V) λh B=>(Zb (Zi e1)).trans (Wt (k:=true) o h B)
 .rw[aE q0]at o
  have ll:Y (rT (n+10)) p (.len (.v 3)) (lE (pgD tk m rs) (pgD tk m rs0) x4 L v (jN sb) (jL w) x12 x13 x14) (.int (tr.length:Int)):=by
   have:=Y.lenl (F:=rT (n+10)) (a:=.v 3) (U:=lE (pgD tk m rs) (pgD tk m rs0) x4 L v (jN sb) (jL w) x12 x13 x14) A1.w (.r rf);rw[show((true,tr.map inD):ZI).2.length=tr.length from aD _]at this;exact this
  obtain⟨s3,E,k3⟩:=(Y.and (yc 1) λ_=>.cmp (op:=.Lt) (k:=decide (tr.length < 4)) ll (.r rf) λ_=>congrArg some (decide_eq_decide.mpr (by omega)):Y (rT (n+10)) p (.and (.cmp .Eq (.bin .Mod (.ix (.v 11) (.i 0)) (.i 4)) (.i 1)) (.cmp .Lt (.len (.v 3)) (.i 4))) (lE (pgD tk m rs) (pgD tk m rs0) x4 L v (jN sb) (jL w) x12 x13 x14) (.bl (decide (c0 % 4=1)&&decide (tr.length < 4)))) s2 q
  have A3:=A2.grw k3;have h3:=k3.get h2;cases M:(decide (c0 % 4=1)&&decide (tr.length < 4)) with
  |true=>
   rw[M]at E;exact e (Zgb (n:=n) (x4:=x4) (x10:=jN sb) (x12:=x12) (x13:=x13) (x14:=x14) hN ht P x A3 hl h3 V (of_decide_eq_true (cQ.mp M).2)) λh B=>(Zb (Zi e1)).trans (Wt (k:=false) o (Wt (k:=true) E h Ze) B)
  |false=>
   rw[M]at E;exact e (Zgi (n:=n) (x4:=x4) (x10:=jN sb) (x12:=x12) (x13:=x13) (x14:=x14) hN T S R h0 A3 hl h3 V) λh B=>(Zb (Zi e1)).trans (Wt (k:=false) o (Wt (k:=false) E h Ze) B)
theorem ZdZ(B:t<=2)(a:t<=m)(h:tk=tkD (-9) 9 t)(f:0 < m)(e:m<=6)(c:Rs m rs0)(C:0 < rs0.length)(g:∀ (s:Za) (b:Bool),s[0]?=some (b,ns.map D.int)->Cv s cv):∀ (l:Li Nat) {N:Nat}{v:Ix}{d0:Nat}{rs:Li Rw}{tr:Li (Li Int)}{ts:Th}{hs:Li (Li Int×Nat)}{s:Za}{x10 x11 x12 x13 x14:Ot D},(∀ z∈l,z<=100)->N+l.length<=80->Aw ns tk m L N v d0 rs tr ts hs s->rs.length=rs0.length->Tn ns tk m L (N+l.length) rs0 x4 (Zp (λd U s=>ex (rT (n+10)) Zu (Zh U 10 d) s) (l.map λ(z:Nat)=>D.int (z:Int)) (lE (pgD tk m rs) (pgD tk m rs0) x4 L v x10 x11 x12 x13 x14) s)
 |[],N,v,d0,rs,tr,ts,hs,s,x10,x11,x12,x13,x14,_,_,A,w=>.mk rfl A w
 |z :: l,N,v,d0,rs,tr,ts,hs,s,x10,x11,x12,x13,x14,y,F,A,w=>by
  rw[aP]at F;cases turn (n:=n) (x4:=x4) (x11:=x11) (x12:=x12) (x13:=x13) (x14:=x14) (sb:=z) (by omega) B a h f e c C g (y z lQ7) A w with
  |@mk _ _ _ _ _ _ _ p o k j i H A1 r=>
   have x:=ZdZ B a h f e c C g l (x10:=p) (x11:=o) (x12:=k) (x13:=j) (x14:=i) (λu E=>y u (lM7 _ E)) (by omega) A1 r
   rw[show N+1+l.length=N+(z :: l).length by rw[aP];omega]at x
   cases x with
   |mk G A2 q=>
    have step:Zp (λd U s=>ex (rT (n+10)) Zu (Zh U 10 d) s) ((z :: l).map λ(z:Nat)=>D.int (z:Int)) (lE (pgD tk m rs) (pgD tk m rs0) x4 L v x10 x11 x12 x13 x14) s=(match ex (rT (n+10)) Zu (lE (pgD tk m rs) (pgD tk m rs0) x4 L v (jN z) x11 x12 x13 x14) s with
     |some (.nx U',st')=>Zp (λd U s=>ex (rT (n+10)) Zu (Zh U 10 d) s) (l.map λ(z:Nat)=>D.int (z:Int)) U' st'
     |some (.ct U',st')=>Zp (λd U s=>ex (rT (n+10)) Zu (Zh U 10 d) s) (l.map λ(z:Nat)=>D.int (z:Int)) U' st'
     |some (.bk U',st')=>some (.nx U',st')
     |some (.rt v,st')=>some (.rt v,st')
     |none=>none):=rfl
    rw[H]at step;exact .mk (step.trans G) A2 q
end
section
variable{wH t cnt:Nat}
theorem Zeu(ns:Li Int):∃ cv:Nat->Int,∀ (s:Za) (b:Bool),s[0]?=some (b,ns.map D.int)->Cv s cv:=by
 have h:∀ k:Nat,∃ v:Int,k<=1000->∀ (n:Nat) (s:Za) (b:Bool),s[0]?=some (b,ns.map D.int)->C (rT (n+1)) s 27 [.lst 0,.int (k:Int)] (.int v):=λk=>by
  by_cases a:k<=1000
  .obtain⟨v,c⟩:=JC (ns:=ns) a;exact⟨v,λ_=>c⟩
  .exact⟨0,λh=>absurd h a⟩
 exact⟨λk=>Classical.choose (h k),λs b hs n k a=>Classical.choose_spec (h k) a n s b hs⟩
theorem Zcf(hl:hs.length<=900)(h:s[wH]?=some (true,hs.map hdE))(hk:∀ p∈hs,s[p.2]?=some (true,p.1.map D.int))(j:U[9]?=some (jL wH)):Y F s (.cmp .Eq (.compT [] (.v 9) (.i 1) (.cmp .NotEq (.listOf (.v 0)) (.v 1))) (.lstE .aN)) U (.bl true):=λst g=>by
 obtain⟨b,o,e⟩:=W2 (s:=st) (ok:=λs=>s[wH]?=some (true,hs.map hdE)) (fe:=λd=>ev F (.i 1) (ZJ two U [] d)) (fc:=λd=>ev F (.cmp .NotEq (.listOf (.v 0)) (.v 1)) (ZJ two U [] d)) (l:=hs.map hdE) (λst' k=>k.get (g.get h)) (λa n=>by
  obtain⟨p,m,rfl⟩:=aR.mp n;intro st2 e;refine⟨st2++[(true,p.1.map D.int)],?_,.push⟩;show Z3 .NotEq (.lst st2.length) (.lst p.2) (st2++[(true,p.1.map D.int)])=_;unfold Z3;have:Xf .NotEq (.lst st2.length) (.lst p.2) (st2++[(true,p.1.map D.int)])=some false:=by
   show((o2 (λ(c d:ZI)=>WH c.2 d.2) (st2++[(true,p.1.map D.int)])[st2.length]? (st2++[(true,p.1.map D.int)])[p.2]?).join).map not=_
   rw[((g.trans e).trans .push).get (hk p m),Zl];show(WH (p.1.map D.int) (p.1.map D.int)).map not=_;rw[Qv];rfl
  rw[this]) st .refl
 have q:ev F (.compT [] (.v 9) (.i 1) (.cmp .NotEq (.listOf (.v 0)) (.v 1))) U st=some (.lst b.length,b++[(true,[])]):=by
  show ZT two X0 [] (ev F (.v 9)) (ev F (.i 1)) (ev F (.cmp .NotEq (.listOf (.v 0)) (.v 1))) U st=_;unfold ZT;rw[VN j];have f:X0 (.lst wH) st=some (hs.map hdE,λs=>s[wH]?=some (true,hs.map hdE)):=by
   unfold X0;simp only[g.get h];rw[if_pos (by rw[cX];exact bU.mpr λ_ _=>rfl)]
  simp only[f];rw[if_pos (by rw[aD];omega)]
  simp only[o]
 refine⟨(b++[(true,[])])++[(true,[])],?_,(e.trans .push).trans .push⟩;show Zw (ev F (.compT [] (.v 9) (.i 1) (.cmp .NotEq (.listOf (.v 0)) (.v 1)))) (ev F (.lstE .aN)) (Z3 .Eq) U st=_;unfold Zw;rw[q];show Z3 .Eq (.lst b.length) (.lst (b++[(true,[])]).length) ((b++[(true,[])])++[(true,[])])=_;unfold Z3;have:Xf .Eq (.lst b.length) (.lst (b++[(true,[])]).length) ((b++[(true,[])])++[(true,[])])=some true:=by
  show(o2 (λ(c d:ZI)=>WH c.2 d.2) ((b++[(true,[])])++[(true,[])])[b.length]? ((b++[(true,[])])++[(true,[])])[(b++[(true,[])]).length]?).join=_
  rw[Grw.push.get Zl,Zl];rfl
 rw[this]
theorem ZeD:eqS st (.tup (lb.map D.int)) (.tup (lb.map D.int))=some true:=by
 show(match (if okD 8 (.tup (lb.map D.int))&&okD 8 (.tup (lb.map D.int)) then some (Zy (lb.map D.int) (lb.map D.int)) else none) with
  |some k=>some k
  |none=>_)=_
 rw[show okD 8 (.tup (lb.map D.int))=ZZ 7 (lb.map D.int) from rfl,Vl,Wh];rfl
theorem ZcA(hN:N<=90)(A:Aw ns tk m L N v d0 rs tr ts hs s):∃ st',ex (rT (n+10)) (.seq (.set 12 (.call 276 (.aC (.v 6) (.aC (.v 1) (.aC (.v 3) (.aC (.v 5) (.aC (.v 7) (.u (.v 8))))))) [])) (.seq (.ite (.or (.cmp .Is (.v 12) (.c .non)) (.cmp .NotEq (.meth [(263,268)] (.mk 263 264 (.aC (.v 1) (.aC (.tOf (.v 3)) (.u (.v 5)))) []) .aN) (.v 12))) (.z (.ret (.c (.bl false)))) .skip) (.z (.ret (.cmp .Eq (.compT [] (.v 9) (.i 1) (.cmp .NotEq (.listOf (.v 0)) (.v 1))) (.lstE .aN)))))) (lE (pgD tk m rs) p0 x4 L v x10 x11 x12 x13 x14) s=some (.rt (.bl true),st'):=by
 obtain⟨g,K,o,Q,j⟩:=Qc (n:=n) hN A;obtain⟨lb,d⟩:∃ lb,bsL m rs L tr=lb:=⟨_,rfl⟩;rw[d]at o;have H:=A.n4;have C:=j.w;obtain⟨t,O,J,B,q,M⟩:=ZdM (n:=n+8) (tk:=tk) (m:=m) (rs:=rs) (L:=L) (tr:=tr) (ds:=[]) (a:=.aC (.v 1) (.aC (.tOf (.v 3)) (.u (.v 5)))) (U:=lE (pgD tk m rs) p0 x4 L v x10 x11 (some (.tup (lb.map D.int))) x13 x14) (st:=g) (st1:=g) (xs:=[pgD tk m rs,.tup (tr.map inD),.int (L:Int)]) (by omega) (Xn rfl (Xn (Yo rfl C) rfl)) rfl
 obtain⟨e,l,x,S⟩:=JB (n:=n+1) (by show 0 < _;decide) A.f q
 rw[JX,d]at l;have c3:=J7 (F:=rT (n+10)) (op:=.NotEq) (k:=false) (b:=.v 12) (y:=.tup (lb.map D.int)) (st2:=e) ((Y3 (tab:=[(263,268)]) (b:=.aN) (st':=t) (xs:=[]) q.ob J rfl rfl).trans l) rfl (by
  show(eqS e (.tup (lb.map D.int)) (.tup (lb.map D.int))).map Bool.not=_;rw[ZeD];rfl)
 have G:∀ {i:Nat}{c:ZI},g[i]?=some c->e[i]?=some c:=λh=>x.get (B.get h) (bA (Zd h)) (by have:=Zd h;omega)
 have R:=j.hl;obtain⟨r,I,P⟩:=Zcf (F:=rT (n+10)) (U:=lE (pgD tk m rs) p0 x4 L v x10 x11 (some (.tup (lb.map D.int))) x13 x14) (by omega) (G j.h) (λp E=>G (j.hk p E).1) rfl e .refl
 exact⟨r,(Zb (Zi (Z1 (F:=rT (n+10)) (xs:=[.dic v.bo,pgD tk m rs,.lst v.wt,.int (L:Int),.dic v.wT,.lst v.wD]) rfl o))).trans ((Zb ((ZN ((Zhd (st1:=g) rfl).trans c3)).trans Ze)).trans (Zm (ZC I)))⟩
theorem Zfz{b:Int}(f:0<=b)(e:b<=64):∃ l:Li Nat,Vb (.tup [.int 16,.int b,.int 4])=some (l.map λ(z:Nat)=>(z:Int))/\(∀ z∈l,z<=100)/\l.length<=20:=by
 have d:Z2 16 b 4<=12:=by
  unfold Z2;rw[if_pos (by decide)]
  split
  .omega
  .omega
 refine⟨(List.range (Z2 16 b 4)).map λk=>16+k * 4,?_,λz a=>?_,by rw[aD,dY];omega⟩
 .show(og (Yg 16 b 4=true) (some (Ym 16 b 4)))=_
  have:Yg 16 b 4=true:=by unfold Yg;exact aG ⟨⟨by decide,by decide⟩,⟨by omega,by omega⟩,by decide⟩
  unfold og;rw[if_pos this];unfold Ym;rw[bL];exact congrArg some (List.map_congr_left λk _=>by show(16:Int)+k * 4=((16+k * 4:Nat):Int);omega)
 .obtain⟨k,c,rfl⟩:=aR.mp a
  have:=cR.mp c;omega
def tlC:Nat->CS->CS
 |0,q=>q
 |n+1,.seq _ q=>tlC n q
 |_,q=>q
abbrev l0(P:D)(wt:Nat)(x4 a:Ot D):Env:=[jL 0,some P,some P,jL wt,x4,a,none,none,none,none,none,none,none,none,none]
theorem ZcB(V:s[0]?=some (false,ns.map D.int))(O:∀ (s:Za) (b:Bool),s[0]?=some (b,ns.map D.int)->Cv s cv)(ht:t<=2)(I:t<=m)(Q:tk=tkD (-9) 9 t)(K:0 < m)(J:m<=6)(W:Rs m rs)(h0:0 < rs.length)(hT:Trs m tr)(h2:tr.length<=2)(hL:L<=40)(H:s[wt]?=some (true,tr.map inD))(G:wt≠0):∃ st',ex (rT (n+10)) (tlC 5 c_law_k83.body) (l0 (pgD tk m rs) wt x4 (jN L)) s=some (.rt (.bl true),st'):=by
 have l0':=Zd V;have lw:=Zd H;obtain⟨c,h,e1,T,E,l1⟩:=ZdM (n:=n+8) (tk:=tk) (m:=m) (rs:=rs) (L:=L) (tr:=tr) (ds:=[]) (a:=.aC (.v 1) (.aC (.tOf (.v 3)) (.u (.v 5)))) (U:=l0 (pgD tk m rs) wt x4 (jN L)) (st:=s) (st1:=s) (xs:=[pgD tk m rs,.tup (tr.map inD),.int (L:Int)]) (by omega) (Xn rfl (Xn (Yo rfl H) rfl)) rfl
 have lb:=Zd E.ob;have lk:=Zd E.ke;have nb:=E.ne;obtain⟨e,f⟩:∃ e,((c++[(true,[])])++[(true,[D.int 0])])++[(true,[])]=e:=⟨_,rfl⟩;have P:Grw c e:=f ▸ Grw.push.trans (Grw.push.trans .push);have z4:e.length=c.length+3:=by rw[<-f,aI,aI,aI];rfl
 have c7:e[c.length]?=some (true,[]):=by rw[<-f];exact Grw.push.get (Grw.push.get Zl)
 have c8:e[c.length+1]?=some (true,[D.int 0]):=by
  have:=Zl (s:=c++[(true,[])]) (t:=(true,[D.int 0]));rw[aI]at this;rw[<-f];exact Grw.push.get this
 have c9:e[c.length+2]?=some (true,[]):=by
  have:=Zl (s:=(c++[(true,[])])++[(true,[D.int 0])]) (t:=(true,[]));rw[aI,aI]at this;rw[<-f];exact this
 have dj:[s.length,h,c.length,c.length+1,wt,c.length+2].Nodup:=nd6.mpr ⟨⟨nb,by omega,by omega,by omega,by omega⟩,⟨by omega,by omega,by omega,by omega⟩,⟨by omega,by omega,by omega⟩,⟨by omega,by omega⟩,by omega⟩
 have n0:0∉[s.length,h,c.length,c.length+1,wt,c.length+2]:=no6.mpr ⟨by omega,by omega,by omega,by omega,Ne.symm G,by omega⟩
 have A:Aw ns tk m L 0 ⟨s.length,h,c.length,c.length+1,wt,c.length+2⟩ 0 rs tr [] [] e:=⟨E.grw P,⟨c7,λx B=>(nomatch B),λx B=>(nomatch B)⟩,c8,(T.trans P).get H,c9,λp hp=>(nomatch hp),λx B=>(nomatch B),dj,(T.trans P).get V,n0,cW,⟨W,by omega,hT,by omega⟩,aV _,by omega,aV _⟩
 have y:∀ {q:CS},ex (rT (n+10)) (.seq (.set 7 .dnew) (.seq (.set 8 (.lstE (.u (.i 0)))) (.seq (.set 9 (.lstE .aN)) q))) [jL 0,some (pgD tk m rs),some (pgD tk m rs),jL wt,x4,jN L,some (.dic s.length),none,none,none,none,none,none,none,none] c=ex (rT (n+10)) q (lE (pgD tk m rs) (pgD tk m rs) x4 L ⟨s.length,h,c.length,c.length+1,wt,c.length+2⟩ none none none none none) e:=λ{q}=>by
  refine(Zb (p:=.set 7 .dnew) (s':=c++[(true,[])]) rfl).trans ((Zb (p:=.set 8 _) (s':=(c++[(true,[])])++[(true,[D.int 0])]) rfl).trans ((Zb (p:=.set 9 _) (s':=e) (by rw[<-f];rfl)).trans ?_))
  refine Zae ?_ rfl;show[jL 0,some (pgD tk m rs),some (pgD tk m rs),jL wt,x4,jN L,some (.dic s.length),some (.dic c.length),jL (c.length+1),jL (c.length+2),none,none,none,none,none]=[some (D.lst 0),some (pgD tk m rs),some (pgD tk m rs),jL wt,x4,jN L,some (.dic s.length),some (.dic c.length),some (.lst (c++[(true,[])]:Za).length),some (.lst ((c++[(true,[])])++[(true,[D.int 0])]:Za).length),none,none,none,none,none]
  rw[aI,aI,aI];rfl
 -- the deeds
 obtain⟨b,X⟩:∃ b:Int,(if (64:Int) < (ns.length:Int) then 64 else (ns.length:Int))=b:=⟨_,rfl⟩
 have C:0<=b/\b<=64:=by rw[<-X];split<;>omega
 obtain⟨l,il,M,hll⟩:=Zfz C.1 C.2;have g:Y (rT (n+10)) e (.aC (.i 16) (.aC (.min (.len (.v 0)) (.i 64)) (.u (.i 4)))) (lE (pgD tk m rs) (pgD tk m rs) x4 L ⟨s.length,h,c.length,c.length+1,wt,c.length+2⟩ none none none none none) (.tup [.int 16,.int b,.int 4]):=by
  have S:=Y.lenl (F:=rT (n+10)) (a:=.v 0) (U:=lE (pgD tk m rs) (pgD tk m rs) x4 L ⟨s.length,h,c.length,c.length+1,wt,c.length+2⟩ none none none none none) A.z (.r rf);rw[show((false,ns.map D.int):ZI).2.length=ns.length from aD _]at S;exact .cons (.r rf) (.cons (g2 S (.r rf) (gp λst=>by rw[<-X];rfl)) (.r rf))
 obtain⟨R,e5,k5⟩:=g e .refl;cases ZdZ (n:=n) (x4:=x4) (x10:=none) (x11:=none) (x12:=none) (x13:=none) (x14:=none) ht I Q K J W h0 O l (N:=0) M (by omega) (A.grw k5) rfl with
 |@mk Z d1 rs' tr' ts' hs' s6 g w o k j e6 A6 _=>
  have p6:ex (rT (n+10)) (.for3 10 (.aC (.i 16) (.aC (.min (.len (.v 0)) (.i 64)) (.u (.i 4)))) Zu) (lE (pgD tk m rs) (pgD tk m rs) x4 L ⟨s.length,h,c.length,c.length+1,wt,c.length+2⟩ none none none none none) e=some (.nx (lE (pgD tk m rs') (pgD tk m rs) x4 L Z g w o k j),s6):=by
   show VQ 10 (ev (rT (n+10)) _) (ex (rT (n+10)) Zu) _ e=_;unfold VQ;rw[e5];show(match Vb (.tup [.int 16,.int b,.int 4]) with
    |some xs=>Zp (λd U s=>ex (rT (n+10)) Zu (Zh U 10 d) s) (xs.map .int) _ R
    |none=>none)=_
   rw[il];show Zp _ ((l.map λ(z:Nat)=>(z:Int)).map D.int) _ R=_
   rw[bL];exact e6
  obtain⟨s7,e7⟩:=ZcA (n:=n) (p0:=pgD tk m rs) (x4:=x4) (x10:=g) (x11:=w) (x12:=o) (x13:=k) (x14:=j) (by omega) A6
  exact⟨s7,(Zb (Zi e1)).trans (y.trans ((Zb p6).trans e7))⟩
theorem Jq:∃ st',rT (n+11) 16 [.lst 0] [(false,ns.map .int)]=some (.bl true,st'):=by
 obtain⟨s,es⟩:∃ s:Za,[(false,ns.map .int)]=s:=⟨_,rfl⟩;have B:s[0]?=some (false,ns.map D.int):=by rw[<-es];rfl
 rw[es];obtain⟨cv,o⟩:=Zeu ns;have p:=o s false B;obtain⟨t,m,rs,b,⟨h1,h2,h3,A⟩,hR,W,l2,O,J⟩:=Zed (n:=n+6) p (.refl:Grw s s);obtain⟨tk,c⟩:∃ tk,tkD (-9) 9 t=tk:=⟨_,rfl⟩;rw[c]at O;have E:ev (rT (n+10)) (.call 30 (.u (.v 0)) []) ([jL 0]++List.replicate 14 none) s=some (pgD tk m rs,b):=Z1 (xs:=[.lst 0]) rfl O
 obtain⟨j,x⟩:∃ j,b.length=j:=⟨_,rfl⟩;have V:ex (rT (n+10)) (.set 3 (.lstE .aN)) ([jL 0,some (pgD tk m rs),some (pgD tk m rs)]++List.replicate 12 none) b=some (.nx (l0 (pgD tk m rs) j none none),b++[(true,[])]):=by rw[<-x];exact Zi rfl
 have g2:Grw s (b++[(true,[])]):=J.trans .push;obtain⟨cnt,hn,hn3⟩:∃ z:Nat,cv 1 / 3 % 3=(z:Int)/\z<=2:=by
  have:=Zx (cv 1 / 3) (j:=3) (by decide)
  exact⟨(cv 1 / 3 % 3).toNat,(bR (by omega)).symm,by omega⟩
 have R:Y (rT (n+10)) s (.bin .Mod (.bin .FloorDiv (.call 27 (.aC (.v 0) (.u (.i 1))) []) (.i 3)) (.i 3)) (l0 (pgD tk m rs) j none none) (.int (cnt:Int)):=by
  rw[<-hn];exact .md (.fd (Y.cell (k:=1) p rfl (by decide)) (.r rf) (by decide)) (.r rf) (by decide)
 obtain⟨G,C,e⟩:=R (b++[(true,[])]) g2;have l:s.length<=j:=by rw[<-x];exact J.len
 have lt:∀ {s:Za}{x4:Ot D},Y (rT (n+10)) s (.len (.ix (.v 2) (.i 0))) (l0 (pgD tk m rs) j x4 none) (.int (t:Int)):=λ{s x4}=>by
  have:=Y.lnT (F:=rT (n+10)) (s:=s) (a:=.ix (.v 2) (.i 0)) (U:=l0 (pgD tk m rs) j x4 none) (xs:=List.replicate t (.tup [.int (-9),.int 9])) (by rw[<-c];exact .r rf)
  rw[cA]at this;exact this
 obtain⟨xs,U',T,w,hx,⟨x4,rfl⟩,e5,X,h5⟩:=fill (F:=rT (n+10)) (q:=XS) (i:=4) (I:=λU=>∃ x4,U=l0 (pgD tk m rs) j x4 none) (P:=λd=>∃ u:Li Int,(u.length=t/\∀ v∈u,Sm v)/\d=inD u) (N:=cnt) (s:=s) (j:=j) C (by omega) ⟨none,rfl⟩ l (g2.trans e) (e.get (by rw[<-x];exact Zl)) λk hk U hI st acc g K hl=>by
  obtain⟨x4,rfl⟩:=hI;obtain⟨u,s3,f,e3,Z⟩:=ZdY (n:=n+9) (s:=s) (st:=st) (t:=t) (fr:=[4,0]) (it:=.len (.ix (.v 2) (.i 0))) (elt:=.call 27 (.aC (.v 2) (.u (.bin .Add (.bin .Add (.i 12) (.bin .Mult (.i 2) (.v 1))) (.v 0)))) []) (g0:=λa=>cv (12+2 * k+a)) (U:=l0 (pgD tk m rs) j (jN k) none) (by omega) lt (λa K=>.call (xs:=[.lst 0,.int ((12+2 * k+a:Nat):Int)]) (.cons (.r rf) (.cons (by
     rw[show((12+2 * k+a:Nat):Int)=12+2 * (k:Int)+(a:Int) by omega]
     exact .add (.add (.r rf) (.mul (.r rf) (.r rf) (ZaY (by omega)))) (.r rf)) .nil)) (p _ _ (by omega))) g
  obtain⟨G,C,e,A⟩:=Qk (i:=3) (j:=j) (acc:=acc) rfl e3 Z K hl;exact⟨inD u,_,G,⟨u,f,rfl⟩,⟨_,rfl⟩,C,e,A⟩
 obtain⟨tr,rfl,h⟩:=all_map hx;rw[aD]at w;have M:=X.grw l (g2.trans e);have hT:Trs m tr:=⟨λu f=>by have:=(h u f).1;omega,λu f=>(h u f).2,by omega⟩
 obtain⟨L,y,hL8⟩:∃ z:Nat,cv 2 % 7=(z:Int)/\z<=6:=by
  have:=Zx (cv 2) (j:=7) (by decide)
  exact⟨(cv 2 % 7).toNat,(bR (by omega)).symm,by omega⟩
 have Q:Y (rT (n+10)) s (.bin .Mod (.call 27 (.aC (.v 0) (.u (.i 2))) []) (.i 7)) (l0 (pgD tk m rs) j x4 none) (.int (L:Int)):=by
  rw[<-y];exact .md (Y.cell (k:=2) p rfl (by decide)) (.r rf) (by decide)
 obtain⟨s6,e6,H⟩:=Q T M;have ls:=Zd B;obtain⟨S,e7⟩:=ZcB (n:=n) (x4:=x4) ((M.trans H).get B) o h1 h2 c.symm h3 A hR W hT (by omega) (by omega:L<=40) (H.get h5) (by omega)
 exact⟨S,Z6 (v:=c_law_k83) rfl rfl ((Zb (Zi E)).trans ((Zb (Zi (v:=pgD tk m rs) (st':=b) rfl)).trans ((Zb V).trans ((Zb e5).trans ((Zb (Zi e6)).trans e7)))))⟩
end
end Dp
namespace PySem.W.Fast
def tw16204284347017439500:=0
def tw7803553889082490414:=0
def tw7275082842138320065:=0
def tw9491171798020615183:=0
def tw5871479350403591445:=0
def tw4260104423930342625:=0
def tw15453245793540989958:=0
def tw5397324350899067964:=0
def tw11671016541825607633:=0
def tw11078546924208285920:=0
def tw2755780853295313195:=0
def tw1928710163419421141:=0
def tw12020205835948342883:=0
def tw13208100057754651044:=0
def tw13139331869641640832:=0
def tw717448493185808737:=0
def tw2182712428536160647:=0
def tw16105126416790465435:=0
def tw1219691737032291162:=0
def tw12729326786837822344:=0
def tw7157312895711408986:=0
def tw11211122499993816327:=0
def tw11554939967647556098:=0
def tw16661776086263557820:=0
def tw9223577932204121831:=0
def tw10496340932073431451:=0
def tw11334934087749211625:=0
def tw18135198141539051789:=0
def tw13561429683707399796:=0
def tw13686048447968666004:=0
def tw7044313581023319005:=0
def tw14370768597489559267:=0
def tw10574542257220423216:=0
def tw10142772863030185514:=0
def tw18135593368356749825:=0
def tw1952618805266640819:=0
def tw10660959436585375158:=0
def tw7218122612837104451:=0
def tw10957983207771292917:=0
def tw8225501664478837357:=0
def tw6255035072500667902:=0
def tw11213426264094893283:=0
def tw9541970365561295697:=0
def tw7136569851603253556:=0
def tw169867458758016038:=0
def tw12907096101795779563:=0
def tw1633106690268648965:=0
def tw16902976936449165343:=0
def tw11999234322387863390:=0
def tw4174953344407723439:=0
def tw1096494894547542621:=0
def tw2587207990420080136:=0
def tw3198305930530335122:=0
def tw8350570187847639807:=0
def tw9211412922768976768:=0
def tw17460341144806741398:=0
def tw14963247894679167908:=0
def tw6515287163326917706:=0
def tw3043365191304956222:=0
def tw16793716458754440135:=0
def tw16862337723268657180:=0
def tw4744262916852345047:=0
def tw14631913321731113124:=0
def tw9559250148772700534:=0
def tw3907918972945725505:=0
def tw3477897700383963971:=0
def tw17173623940176494328:=0
def tw10730448414437790805:=0
def tw13987932242809685241:=0
def tw13294012433461905356:=0
def tw12886767396499750656:=0
def tw11423387928190018586:=0
def tw12710803027904904465:=0
def tw12054011407561259204:=0
def tw3298117045193169444:=0
def tw5859268949258763351:=0
def tw5241440203339462716:=0
def tw16875748693143951117:=0
def tw15336442153159831558:=0
def tw10375942156893050098:=0
def tw5065007614478996883:=0
def tw16278609505352841827:=0
def tw12025993893061654395:=0
def tw1300351894256328513:=0
def tw17820425224075969017:=0
def tw5227666890771144519:=0
def tw7131083764016580835:=0
def tw68420712284323202:=0
def tw13524785857918314125:=0
def tw16730100063132270517:=0
def tw9449220391519462064:=0
def tw15575653265269159508:=0
def tw15777403210505957106:=0
def tw11964151069747634148:=0
def tw2729914627778969206:=0
def tw28294877078953978:=0
def tw16686541513272636268:=0
def tw16307461912311123537:=0
def tw18054781361074486053:=0
def tw13219001688496381387:=0
def tw188045555920531041:=0
def tw14945834641238502316:=0
def tw9897789505333385147:=0
def tw14296977033404735201:=0
def tw18315935268405423411:=0
def tw747980255956775476:=0
def tw8913824681917973188:=0
def tw2357665065853722332:=0
def tw9907901691348424487:=0
def tw94059688694835441:=0
def tw12203390704218736300:=0
def tw5780149301821331101:=0
def tw10628528051006435096:=0
def tw5234877448554329088:=0
def tw11484561467370163603:=0
def tw9360963523556827265:=0
def tw701442954679526751:=0
def tw6468483028583287109:=0
def tw17892899820429795356:=0
def tw7675142527802207444:=0
def tw4918835080602069910:=0
def tw13578158135465558815:=0
def tw4311775570321259837:=0
def tw9062601782489776685:=0
def tw2898572780857984284:=0
def tw14918708744017491871:=0
def tw521509780465979107:=0
def tw17019846794342434403:=0
def tw18289044771544613881:=0
def tw16094853016138574376:=0
def tw11075946773046723224:=0
def tw15209801818936383543:=0
def tw2613805653762532237:=0
def tw4635100984955521363:=0
def tw17386186019657644058:=0
def tw4954768487964553214:=0
def tw4012552666076712697:=0
def tw6640629996042847611:=0
def tw1310668947571524625:=0
def tw8006611068268571369:=0
def tw1253736143375594694:=0
def tw12370834734072869600:=0
def tw12908543318476669094:=0
def tw17666410820193018784:=0
def tw4800918695316192073:=0
def tw18188238346084071801:=0
def tw13628465716893080401:=0
def tw6311814409529275683:=0
def tw15371423942607793385:=0
def tw10897866402898777520:=0
def tw18073913470802058071:=0
def tw164416432402838239:=0
def tw7261777427448334380:=0
def tw688558939814003113:=0
def tw7846026985333779581:=0
def tw4862900531735994683:=0
def tw10125291002714164067:=0
def tw18027297274251916578:=0
def tw7523743673344613537:=0
def tw15225025682661467824:=0
def tw11812501393594104667:=0
def tw9945681057285105516:=0
def tw2700044934763931266:=0
def tw15498705791752182897:=0
def tw11107496599989144028:=0
def tw4022371772850370058:=0
def tw11239011451218928066:=0
def tw9146910727930723713:=0
def tw8113801515003162482:=0
def tw2152158443639617010:=0
def tw13643978364216777669:=0
def tw13418874445271930671:=0
def tw13844961108474012552:=0
def tw6957319832678438540:=0
def tw11073969471889698903:=0
def tw6125174405063380997:=0
def tw18436948819442172898:=0
def tw2730380963283758319:=0
def tw11425430719278236595:=0
def tw16074497439197776097:=0
def tw6128080384270680524:=0
def tw6136303287023799647:=0
def tw11612062792177517720:=0
def tw8734886673013208716:=0
def tw4905392162774563861:=0
def tw381489006035095261:=0
def tw1724077526832468478:=0
def tw11726777997877093002:=0
def tw7094091270564078270:=0
def tw6635320594500943495:=0
def tw11261324566236306783:=0
def tw17968909352995961522:=0
end PySem.W.Fast
namespace Dp
open PySem L2
noncomputable def top(i:Nat):Stmt:=PySem.Challenge.pw_fakehunt_k83_whole_book.main.body.getD i (.Pass ⟨0,0,0,0⟩)
noncomputable def G:Gs:=[(S "Step",GV.cls 146 [(S "word",147,1),(S "turned",148,3)] [] []),(S "Sign",GV.cls 169 [(S "word",170,1),(S "turned",171,3)] [] []),(S "More",GV.cls 149 [(S "word",150,1),(S "turned",151,3)] [] []),(S "Turn",GV.cls 157 [(S "word",158,1),(S "turned",159,3)] [] []),(S "Out",GV.cls 152 [(S "word",153,1),(S "turned",154,3)] [] []),(S "Swap",GV.cls 160 [(S "word",161,1),(S "turned",162,3)] [] []),(S "Far",GV.cls 163 [(S "word",164,1),(S "turned",165,3)] [] []),(S "Book",GV.cls 263 [(S "__init__",264,4),(S "program_of",265,2),(S "outcome_of",266,3),(S "outcomes_of",267,2),(S "bits",268,1),(S "runs",269,1),(S "now",270,1),(S "change",271,3),(S "add",272,2)] [] [(.int 100)]),(S "OPERAND_PLACES",GV.dct [(S "put"),(S "if"),(S "tell"),(S "go"),(S "skip")] [(.tup [(.int 2),(.int 4)]),(.tup [(.int 1),(.int 3)]),(.tup [(.int 1)]),(.tup []),(.tup [])]),(S "replaced",GV.fn 42 3 []),(S "operand_places",GV.fn 113 1 []),(S "bit_of",GV.fn 43 1 []),(S "has_bit",GV.fn 114 2 []),(S "HALF",GV.c (.int 1000000000)),(S "RING",GV.c (.int 2000000000)),(S "PUT_SIGNS",GV.c (.kt [(S "+"),(S "-"),(S "*"),(S "/"),(S "mod")])),(S "IF_SIGNS",GV.c (.kt [(S "<"),(S "<="),(S "="),(S ">="),(S ">"),(S "!=")])),(S "around",GV.fn 0 1 []),(S "divided",GV.fn 1 2 []),(S "left_over",GV.fn 2 2 []),(S "reckon",GV.fn 3 3 []),(S "is_so",GV.fn 4 3 []),(S "CONTRARIES",GV.dct [(S "<"),(S ">="),(S "<="),(S ">"),(S "="),(S "!=")] [(.str (S ">=")),(.str (S "<")),(.str (S ">")),(.str (S "<=")),(.str (S "!=")),(.str (S "="))]),(S "behind",GV.fn 70 2 []),(S "fakes",GV.fn 172 1 []),(S "fake_of",GV.fn 180 3 []),(S "worth",GV.fn 5 2 []),(S "began",GV.fn 6 2 []),(S "at_end",GV.fn 7 2 []),(S "values_behind",GV.fn 8 2 []),(S "place_behind",GV.fn 9 3 []),(S "moved",GV.fn 10 2 []),(S "is_outcome",GV.fn 11 1 []),(S "trail",GV.fn 12 3 [(.int 100)]),(S "places_done",GV.fn 14 1 []),(S "seen_in",GV.fn 44 1 []),(S "MOST_TRIALS",GV.c (.int 10)),(S "check_trials",GV.fn 181 1 []),(S "bits_unlike",GV.fn 183 2 []),(S "OWN",GV.c (.tup [])),(S "codes_of",GV.fn 262 1 []),(S "stays",GV.fn 273 4 []),(S "_law_whole",GV.fn 17 1 []),(S "_law_cell_at",GV.fn 27 2 []),(S "_law_number",GV.fn 185 1 []),(S "_law_operand",GV.fn 28 2 []),(S "_law_row",GV.fn 29 3 []),(S "_law_round",GV.fn 89 1 []),(S "_law_sum",GV.fn 187 3 []),(S "_law_so",GV.fn 33 3 []),(S "_law_worth",GV.fn 34 2 []),(S "_law_run",GV.fn 40 4 []),(S "_law_alike",GV.fn 36 2 []),(S "_law_program",GV.fn 30 1 []),(S "_law_codes",GV.fn 278 1 []),(S "_law_put",GV.fn 92 3 []),(S "_law_outcome",GV.fn 188 5 []),(S "_law_due",GV.fn 38 4 []),(S "_law_asked",GV.fn 276 6 []),(S "_law_given_up",GV.fn 279 3 []),(S "_law_other_row",GV.fn 275 4 []),(S "_law_inputs",GV.fn 101 3 []),(S "_law_looked",GV.fn 280 4 []),(S "law",GV.fn 16 1 []),(S "len",GV.blt),(S "range",GV.blt),(S "tuple",GV.blt),(S "list",GV.blt),(S "int",GV.blt),(S "bool",GV.blt),(S "str",GV.blt),(S "min",GV.blt),(S "max",GV.blt),(S "isinstance",GV.blt),(S "all",GV.blt),(S "any",GV.blt),(S "zip",GV.blt),(S "sorted",GV.blt),(S "enumerate",GV.blt),(S "set",GV.blt)]
noncomputable def ZE(i k:Nat):Stmt:=match top i with
 |.ClassDef _ _ _ b _ _ _ _ _ _ _=>b.getD k (.Pass ⟨0,0,0,0⟩)
 |s=>s
abbrev Cmp(i:Nat)(N a:Li Str)(c:CS):Prop:=Z7 G (top i) N a c
local macro_rules
 |`(tactic| trivial)=>`(tactic| exact⟨⟨rfl,rfl,rfl,by decide +kernel,rfl,by decide +kernel,by decide +kernel⟩,by unfold L2.Loc;decide +kernel,by kernel_rfl⟩)
theorem q_5:Cmp 5 ["things","i","thing"] ["things","i","thing"] c_replaced.body:=by trivial
theorem q_6:Cmp 6 ["row"] ["row"] c_operand_places.body:=by trivial
theorem q_7:Cmp 7 ["i","bit","times"] ["i"] c_bit_of.body:=by trivial
theorem q_8:Cmp 8 ["bits","i"] ["bits","i"] c_has_bit.body:=by trivial
theorem Zhp:Cmp 14 ["number"] ["number"] c_around.body:=by trivial
theorem Zhq:Cmp 15 ["one","other"] ["one","other"] c_divided.body:=by trivial
theorem Zhr:Cmp 16 ["one","other"] ["one","other"] c_left_over.body:=by trivial
theorem Zhs:Cmp 17 ["one","sign","other"] ["one","sign","other"] c_reckon.body:=by trivial
theorem Zht:Cmp 18 ["one","sign","other"] ["one","sign","other"] c_is_so.body:=by trivial
theorem Zhu:Cmp 21 ["ring","sign"] ["ring","sign"] c_behind.body:=by trivial
theorem Zhv:Cmp 30 ["program","rows","steps","told","k","row","step"] ["program"] c_fakes.body:=by trivial
theorem Zhw:Cmp 31 ["program","k","row"] ["program","k","row"] c_fake_of.body:=by trivial
theorem Zhx:Cmp 33 ["operand","values"] ["operand","values"] c_worth.body:=by trivial
theorem Zhy:Cmp 34 ["program","inputs"] ["program","inputs"] c_began.body:=by trivial
theorem Zhz:Cmp 35 ["program","state"] ["program","state"] c_at_end.body:=by trivial
theorem ZhA:Cmp 36 ["row","values","number"] ["row","values"] c_values_behind.body:=by trivial
theorem ZhB:Cmp 37 ["row","k","values"] ["row","k","values"] c_place_behind.body:=by trivial
theorem ZhC:Cmp 38 ["program","state","k","values","row"] ["program","state"] c_moved.body:=by trivial
theorem ZhD:Cmp 39 ["thing"] ["thing"] c_is_outcome.body:=by trivial
theorem ZhE:Cmp 40 ["program","inputs","limit","state","things","done","thing"] ["program","inputs","limit"] c_trail.body:=by trivial
theorem ZhF:Cmp 41 ["things","states"] ["things"] c_places_done.body:=by trivial
theorem ZhG:Cmp 42 ["things","bits","k"] ["things"] c_seen_in.body:=by trivial
theorem ZhH:Cmp 45 ["trials"] ["trials"] c_check_trials.body:=by trivial
theorem ZhI:Cmp 46 ["things","beside","bits","bit","thing","along"] ["things","beside"] c_bits_unlike.body:=by trivial
theorem ZhJ:Cmp 49 ["program"] ["program"] c_codes_of.body:=by trivial
theorem ZhK:Cmp 50 ["code","places","j","codes"] ["code","places","j","codes"] c_stays.body:=by trivial
theorem ZhL:Cmp 53 ["_law_found"] ["_law_found"] c__law_whole.body:=by trivial
theorem ZhM:Cmp 54 ["_law_script","_law_k"] ["_law_script","_law_k"] c__law_cell_at.body:=by trivial
theorem ZhN:Cmp 55 ["_law_cell"] ["_law_cell"] c__law_number.body:=by trivial
theorem ZhO:Cmp 56 ["_law_cell","_law_many"] ["_law_cell","_law_many"] c__law_operand.body:=by trivial
theorem ZhP:Cmp 57 ["_law_cells","_law_many","_law_size","_law_more","_law_one","_law_other"] ["_law_cells","_law_many","_law_size"] c__law_row.body:=by trivial
theorem ZhQ:Cmp 58 ["_law_number_here"] ["_law_number_here"] c__law_round.body:=by trivial
theorem ZhR:Cmp 59 ["_law_one","_law_sign","_law_other"] ["_law_one","_law_sign","_law_other"] c__law_sum.body:=by trivial
theorem ZhS:Cmp 60 ["_law_one","_law_sign","_law_other"] ["_law_one","_law_sign","_law_other"] c__law_so.body:=by trivial
theorem ZhT:Cmp 61 ["_law_operand_here","_law_values"] ["_law_operand_here","_law_values"] c__law_worth.body:=by trivial
theorem ZhU:Cmp 62 ["_law_rows","_law_many","_law_inputs_here","_law_limit","_law_values","_law_at","_law_done","_law_row_here","_law_one"] ["_law_rows","_law_many","_law_inputs_here","_law_limit"] c__law_run.body:=by trivial
theorem ZhV:Cmp 63 ["_law_found","_law_due_here"] ["_law_found","_law_due_here"] c__law_alike.body:=by trivial
theorem ZhW:Cmp 64 ["_law_script","_law_head","_law_taken","_law_many","_law_size","_law_rows","_law_k"] ["_law_script"] c__law_program.body:=by trivial
theorem ZhX:Cmp 65 ["_law_program_here"] ["_law_program_here"] c__law_codes.body:=by trivial
theorem ZhY:Cmp 66 ["_law_program_here","_law_k","_law_row_here"] ["_law_program_here","_law_k","_law_row_here"] c__law_put.body:=by trivial
theorem ZhZ:Cmp 67 ["_law_program_here","_law_code","_law_inputs_here","_law_limit","_law_there","_law_rows","_law_found"] ["_law_program_here","_law_code","_law_inputs_here","_law_limit","_law_there"] c__law_outcome.body:=by trivial
theorem Zh0:Cmp 68 ["_law_program_here","_law_trials","_law_limit","_law_there","_law_due_here","_law_found","_law_code","_law_bits","_law_i"] ["_law_program_here","_law_trials","_law_limit","_law_there"] c__law_due.body:=by trivial
theorem Zh1:Cmp 69 ["_law_book","_law_program_here","_law_trials","_law_limit","_law_there","_law_done","_law_before","_law_due_here","_law_found"] ["_law_book","_law_program_here","_law_trials","_law_limit","_law_there","_law_done"] c__law_asked.body:=by trivial
theorem Zh2:Cmp 70 ["_law_program_here","_law_k","_law_there","_law_codes_here","_law_left","_law_code","_law_inputs_here","_law_good"] ["_law_program_here","_law_k","_law_there"] c__law_given_up.body:=by trivial
theorem Zh3:Cmp 71 ["_law_cells","_law_program_here","_law_first","_law_k","_law_some"] ["_law_cells","_law_program_here","_law_first","_law_k"] c__law_other_row.body:=by trivial
theorem Zh4:Cmp 72 ["_law_cells","_law_trials","_law_taken"] ["_law_cells","_law_trials","_law_taken"] c__law_inputs.body:=by trivial
theorem Zh5:Cmp 73 ["_law_book","_law_program_here","_law_done","_law_turn"] ["_law_book","_law_program_here","_law_done","_law_turn"] c__law_looked.body:=by trivial
theorem ZgM:Cmp 74 ["_law_script","_law_program_here","_law_first","_law_trials","_law_i","_law_limit","_law_book","_law_there","_law_done","_law_held","_law_start","_law_cells","_law_found","_law_k","_law_row_here"] ["_law_script"] c_law_k83.body:=by trivial
theorem Zfa:Z7 G (ZE 22 0) [S "self"] [S "self"] c_Step_word.body:=by trivial
theorem Zfb:Z7 G (ZE 22 1) [S "self",S "row",S "many"] [S "self",S "row",S "many"] c_Step_turned.body:=by trivial
theorem Zfc:Z7 G (ZE 23 0) [S "self"] [S "self"] c_Sign_word.body:=by trivial
theorem Zfd:Z7 G (ZE 23 1) [S "self",S "row",S "many"] [S "self",S "row",S "many"] c_Sign_turned.body:=by trivial
theorem Zfe:Z7 G (ZE 24 0) [S "self"] [S "self"] c_More_word.body:=by trivial
theorem Zff:Z7 G (ZE 24 1) [S "self",S "row",S "many",S "rows",S "i"] [S "self",S "row",S "many"] c_More_turned.body:=by trivial
theorem Zfg:Z7 G (ZE 25 0) [S "self"] [S "self"] c_Turn_word.body:=by trivial
theorem Zfh:Z7 G (ZE 25 1) [S "self",S "row",S "many"] [S "self",S "row",S "many"] c_Turn_turned.body:=by trivial
theorem Zfi:Z7 G (ZE 26 0) [S "self"] [S "self"] c_Out_word.body:=by trivial
theorem Zfj:Z7 G (ZE 26 1) [S "self",S "row",S "many"] [S "self",S "row",S "many"] c_Out_turned.body:=by trivial
theorem Zfk:Z7 G (ZE 27 0) [S "self"] [S "self"] c_Swap_word.body:=by trivial
theorem Zfl:Z7 G (ZE 27 1) [S "self",S "row",S "many"] [S "self",S "row",S "many"] c_Swap_turned.body:=by trivial
theorem Zfm:Z7 G (ZE 28 0) [S "self"] [S "self"] c_Far_word.body:=by trivial
theorem Zfn:Z7 G (ZE 28 1) [S "self",S "row",S "many"] [S "self",S "row",S "many"] c_Far_turned.body:=by trivial
theorem Zfo:Z7 G (ZE 51 0) [S "self",S "program",S "trials",S "limit"] [S "self",S "program",S "trials",S "limit"] c_Book___init__.body:=by trivial
theorem Zfp:Z7 G (ZE 51 1) [S "self",S "code"] [S "self",S "code"] c_Book_program_of.body:=by trivial
theorem Zfq:Z7 G (ZE 51 2) [S "self",S "code",S "inputs",S "things"] [S "self",S "code",S "inputs"] c_Book_outcome_of.body:=by trivial
theorem Zfr:Z7 G (ZE 51 3) [S "self",S "code"] [S "self",S "code"] c_Book_outcomes_of.body:=by trivial
theorem Zfs:Z7 G (ZE 51 4) [S "self",S "own"] [S "self"] c_Book_bits.body:=by trivial
theorem Zft:Z7 G (ZE 51 5) [S "self"] [S "self"] c_Book_runs.body:=by trivial
theorem Zfu:Z7 G (ZE 51 6) [S "self"] [S "self"] c_Book_now.body:=by trivial
theorem Zfv:Z7 G (ZE 51 7) [S "self",S "k",S "row",S "codes",S "left",S "key",S "run"] [S "self",S "k",S "row"] c_Book_change.body:=by trivial
theorem Zfw:Z7 G (ZE 51 8) [S "self",S "inputs",S "longer"] [S "self",S "inputs"] c_Book_add.body:=by trivial
@[reducible] noncomputable def tab (l:Li (Nat×Ad)):ClsTab:=⟨λi=>(l.lookup i).getD 0⟩
section
variable [ct:ClsTab]
theorem Zei{Pm:Params}{K:fG7}{h:Heap}{mg:Str->Ot vL}{fa:Ad}(X:K.In h)(a:h.Ns mainGlobals mg)(hfa:mg "law"=some (.ref fa)){C0:Ad}{C1:Ad}{C2:Ad}{C3:Ad}{C4:Ad}{C5:Ad}{C6:Ad}{C7:Ad}{A8:Ad}{Z:Obj}{ep8:Nat}{R:Tok}{i:Ad}{E:Obj}{bn8_0:Nat}{L:Tok}{J:Tok}{Q:Tok}{g:Ad}{D:Obj}{bn8_1:Nat}{I:Tok}{H:Tok}{P:Tok}{f:Ad}{C:Obj}{bn8_2:Nat}{F:Tok}{O:Tok}{c:Ad}{B:Obj}{bn8_3:Nat}{M:Tok}{b:Ad}{A:Obj}{bn8_4:Nat}{t13:Tok}{t14:Tok}{A15:Ad}{Y:Obj}{on15:Nat}{t15_0:Tok}{t15_1:Tok}{t15_2:Tok}{t15_3:Tok}{t15_4:Tok}{A16:Ad}{V:Obj}{on16:Nat}{t16_0:Tok}{t16_1:Tok}{t16_2:Tok}{t16_3:Tok}{t16_4:Tok}{t16_5:Tok}{A22:Ad}{j:Obj}{ep22:Nat}{z:Tok}{p:Tok}{y:Tok}{o:Tok}{x:Tok}{n:Tok}{w:Tok}{m:Tok}{r:Tok}{l:Tok}{q:Tok}{k:Tok}{t36:Tok}{A39:Ad}{U:Obj}{on39:Nat}
(yz0:ClsTab.ca 146=C0) (yz1:ClsTab.ca 169=C1) (yz2:ClsTab.ca 149=C2) (yz3:ClsTab.ca 157=C3) (yz4:ClsTab.ca 152=C4) (yz5:ClsTab.ca 160=C5) (yz6:ClsTab.ca 163=C6) (yz7:ClsTab.ca 263=C7)
  (y0:ClsAt K "Step" C0) (w0_147:MtAt K C0 "word" "Step.word" (ZE 22 0)) (w0_148:MtAt K C0 "turned" "Step.turned" (ZE 22 1))
  (y1:ClsAt K "Sign" C1) (w1_170:MtAt K C1 "word" "Sign.word" (ZE 23 0)) (w1_171:MtAt K C1 "turned" "Sign.turned" (ZE 23 1))
  (y2:ClsAt K "More" C2) (w2_150:MtAt K C2 "word" "More.word" (ZE 24 0)) (w2_151:MtAt K C2 "turned" "More.turned" (ZE 24 1))
  (y3:ClsAt K "Turn" C3) (w3_158:MtAt K C3 "word" "Turn.word" (ZE 25 0)) (w3_159:MtAt K C3 "turned" "Turn.turned" (ZE 25 1))
  (y4:ClsAt K "Out" C4) (w4_153:MtAt K C4 "word" "Out.word" (ZE 26 0)) (w4_154:MtAt K C4 "turned" "Out.turned" (ZE 26 1))
  (y5:ClsAt K "Swap" C5) (w5_161:MtAt K C5 "word" "Swap.word" (ZE 27 0)) (w5_162:MtAt K C5 "turned" "Swap.turned" (ZE 27 1))
  (y6:ClsAt K "Far" C6) (w6_164:MtAt K C6 "word" "Far.word" (ZE 28 0)) (w6_165:MtAt K C6 "turned" "Far.turned" (ZE 28 1))
  (y7:ClsAtB K "Book" C7) (w7_264:MtAtE K C7 "__init__" "Book.__init__" (ZE 51 0) 100) (w7_265:MtAt K C7 "program_of" "Book.program_of" (ZE 51 1)) (w7_266:MtAt K C7 "outcome_of" "Book.outcome_of" (ZE 51 2)) (w7_267:MtAt K C7 "outcomes_of" "Book.outcomes_of" (ZE 51 3)) (w7_268:MtAt K C7 "bits" "Book.bits" (ZE 51 4)) (w7_269:MtAt K C7 "runs" "Book.runs" (ZE 51 5)) (w7_270:MtAt K C7 "now" "Book.now" (ZE 51 6)) (w7_271:MtAt K C7 "change" "Book.change" (ZE 51 7)) (w7_272:MtAt K C7 "add" "Book.add" (ZE 51 8))
  (g8:W.nsIn K mainGlobals "OPERAND_PLACES"=some (some (.ref A8))) (d8:K.lookup A8=some Z) (f8c:Z.cls=.type "dict") (f8d:Z.dict=none) (f8s:Z.slots=#[]) (e8:Z.data=.dict #[⟨PyData.keyHash Pm "put",.str "put" R,.ref i⟩,⟨PyData.keyHash Pm "if",.str "if" Q,.ref g⟩,⟨PyData.keyHash Pm "tell",.str "tell" P,.ref f⟩,⟨PyData.keyHash Pm "go",.str "go" O,.ref c⟩,⟨PyData.keyHash Pm "skip",.str "skip" M,.ref b⟩] ep8) (s8:(A8==sysModules)=false)
  (h8_0:K.lookup i=some E) (i8_0:E.cls=.type "tuple") (j8_0:E.data=.seq #[.int (2) L,.int (4) J] bn8_0)
  (h8_1:K.lookup g=some D) (i8_1:D.cls=.type "tuple") (j8_1:D.data=.seq #[.int (1) I,.int (3) H] bn8_1)
  (h8_2:K.lookup f=some C) (i8_2:C.cls=.type "tuple") (j8_2:C.data=.seq #[.int (1) F] bn8_2)
  (h8_3:K.lookup c=some B) (i8_3:B.cls=.type "tuple") (j8_3:B.data=.seq #[] bn8_3)
  (h8_4:K.lookup b=some A) (i8_4:A.cls=.type "tuple") (j8_4:A.data=.seq #[] bn8_4)
  (a9:FnAt K "replaced" (top 5))
  (a10:FnAt K "operand_places" (top 6))
  (a11:FnAt K "bit_of" (top 7))
  (a12:FnAt K "has_bit" (top 8))
  (g13:W.nsIn K mainGlobals "HALF"=some (some (.int (1000000000) t13)))
  (g14:W.nsIn K mainGlobals "RING"=some (some (.int (2000000000) t14)))
  (g15:W.nsIn K mainGlobals "PUT_SIGNS"=some (some (.ref A15))) (d15:K.lookup A15=some Y) (f15c:Y.cls=.type "tuple") (f15d:Y.dict=none) (e15:Y.data=.seq #[.str "+" t15_0,.str "-" t15_1,.str "*" t15_2,.str "/" t15_3,.str "mod" t15_4] on15)
  (g16:W.nsIn K mainGlobals "IF_SIGNS"=some (some (.ref A16))) (d16:K.lookup A16=some V) (f16c:V.cls=.type "tuple") (f16d:V.dict=none) (e16:V.data=.seq #[.str "<" t16_0,.str "<=" t16_1,.str "=" t16_2,.str ">=" t16_3,.str ">" t16_4,.str "!=" t16_5] on16)
  (a17:FnAt K "around" (top 14))
  (a18:FnAt K "divided" (top 15))
  (a19:FnAt K "left_over" (top 16))
  (a20:FnAt K "reckon" (top 17))
  (a21:FnAt K "is_so" (top 18))
  (g22:W.nsIn K mainGlobals "CONTRARIES"=some (some (.ref A22))) (d22:K.lookup A22=some j) (f22c:j.cls=.type "dict") (f22d:j.dict=none) (f22s:j.slots=#[]) (e22:j.data=.dict #[⟨PyData.keyHash Pm "<",.str "<" z,.str ">=" p⟩,⟨PyData.keyHash Pm ">=",.str ">=" y,.str "<" o⟩,⟨PyData.keyHash Pm "<=",.str "<=" x,.str ">" n⟩,⟨PyData.keyHash Pm ">",.str ">" w,.str "<=" m⟩,⟨PyData.keyHash Pm "=",.str "=" r,.str "!=" l⟩,⟨PyData.keyHash Pm "!=",.str "!=" q,.str "=" k⟩] ep22) (s22:(A22==sysModules)=false)
  (a23:FnAt K "behind" (top 21))
  (a24:FnAt K "fakes" (top 30))
  (a25:FnAt K "fake_of" (top 31))
  (a26:FnAt K "worth" (top 33))
  (a27:FnAt K "began" (top 34))
  (a28:FnAt K "at_end" (top 35))
  (a29:FnAt K "values_behind" (top 36))
  (a30:FnAt K "place_behind" (top 37))
  (a31:FnAt K "moved" (top 38))
  (a32:FnAt K "is_outcome" (top 39))
  (a33:FnAtE K "trail" (top 40) 100)
  (a34:FnAt K "places_done" (top 41))
  (a35:FnAt K "seen_in" (top 42))
  (g36:W.nsIn K mainGlobals "MOST_TRIALS"=some (some (.int (10) t36)))
  (a37:FnAt K "check_trials" (top 45))
  (a38:FnAt K "bits_unlike" (top 46))
  (g39:W.nsIn K mainGlobals "OWN"=some (some (.ref A39))) (d39:K.lookup A39=some U) (f39c:U.cls=.type "tuple") (e39:U.data=.seq #[] on39)
  (a40:FnAt K "codes_of" (top 49))
  (a41:FnAt K "stays" (top 50))
  (a42:FnAt K "_law_whole" (top 53))
  (a43:FnAt K "_law_cell_at" (top 54))
  (a44:FnAt K "_law_number" (top 55))
  (a45:FnAt K "_law_operand" (top 56))
  (a46:FnAt K "_law_row" (top 57))
  (a47:FnAt K "_law_round" (top 58))
  (a48:FnAt K "_law_sum" (top 59))
  (a49:FnAt K "_law_so" (top 60))
  (a50:FnAt K "_law_worth" (top 61))
  (a51:FnAt K "_law_run" (top 62))
  (a52:FnAt K "_law_alike" (top 63))
  (a53:FnAt K "_law_program" (top 64))
  (a54:FnAt K "_law_codes" (top 65))
  (a55:FnAt K "_law_put" (top 66))
  (a56:FnAt K "_law_outcome" (top 67))
  (a57:FnAt K "_law_due" (top 68))
  (a58:FnAt K "_law_asked" (top 69))
  (a59:FnAt K "_law_given_up" (top 70))
  (a60:FnAt K "_law_other_row" (top 71))
  (a61:FnAt K "_law_inputs" (top 72))
  (a62:FnAt K "_law_looked" (top 73))
  (a63:FnAt K "law" (top 74))
  (z64:W.nsIn K mainGlobals "len"=some none)
  (z65:W.nsIn K mainGlobals "range"=some none)
  (z66:W.nsIn K mainGlobals "tuple"=some none)
  (z67:W.nsIn K mainGlobals "list"=some none)
  (z68:W.nsIn K mainGlobals "int"=some none)
  (z69:W.nsIn K mainGlobals "bool"=some none)
  (z70:W.nsIn K mainGlobals "str"=some none)
  (z71:W.nsIn K mainGlobals "min"=some none)
  (z72:W.nsIn K mainGlobals "max"=some none)
  (z73:W.nsIn K mainGlobals "isinstance"=some none)
  (z74:W.nsIn K mainGlobals "all"=some none)
  (z75:W.nsIn K mainGlobals "any"=some none)
  (z76:W.nsIn K mainGlobals "zip"=some none)
  (z77:W.nsIn K mainGlobals "sorted"=some none)
  (z78:W.nsIn K mainGlobals "enumerate"=some none)
  (z79:W.nsIn K mainGlobals "set"=some none) :
  Text Pm K mg G T/\∃ (fd:FuncData) (N:Li Str),(∀ (s:sH7) (u:vL),BindsTo s fd ⟨[u],[]⟩ [(S "_law_script",u)])/\DefOk K mg G T "law" 16 [] fa fd [S "_law_script"] N:=by
 exact⟨Zdm (gC X a yz0 y0 trivial (gM (by decide) w0_147 Zfa rfl (gM (by decide) w0_148 Zfb rfl trivial)) (gC X a yz1 y1 trivial (gM (by decide) w1_170 Zfc rfl (gM (by decide) w1_171 Zfd rfl trivial)) (gC X a yz2 y2 trivial (gM (by decide) w2_150 Zfe rfl (gM (by decide) w2_151 Zff rfl trivial)) (gC X a yz3 y3 trivial (gM (by decide) w3_158 Zfg rfl (gM (by decide) w3_159 Zfh rfl trivial)) (gC X a yz4 y4 trivial (gM (by decide) w4_153 Zfi rfl (gM (by decide) w4_154 Zfj rfl trivial)) (gC X a yz5 y5 trivial (gM (by decide) w5_161 Zfk rfl (gM (by decide) w5_162 Zfl rfl trivial)) (gC X a yz6 y6 trivial (gM (by decide) w6_164 Zfm rfl (gM (by decide) w6_165 Zfn rfl trivial)) (gCB X a yz7 y7 trivial (gMI y7 w7_264 Zfo rfl (gM (by decide) w7_265 Zfp rfl (gM (by decide) w7_266 Zfq rfl (gM (by decide) w7_267 Zfr rfl (gM (by decide) w7_268 Zfs rfl (gM (by decide) w7_269 Zft rfl (gM (by decide) w7_270 Zfu rfl (gM (by decide) w7_271 Zfv rfl (gM (by decide) w7_272 Zfw rfl trivial)))))))) (λ_ _ _ _ _ _ _ _ _ _ d e=>⟨λs us hK hl=>by obtain⟨_,_,_,_,rfl⟩:=ZgE (show us.length=4 by simpa using hl);exact W.binds_K hK rfl d e rfl rfl,λs us hK hl=>by obtain⟨_,_,_,rfl⟩:=ZeX (show us.length=3 by simpa using hl);exact W.binds_K hK rfl d e rfl rfl⟩)) (by decide) (⟨⟨A8,Z,#[⟨PyData.keyHash Pm "put",.str "put" R,.ref i⟩,⟨PyData.keyHash Pm "if",.str "if" Q,.ref g⟩,⟨PyData.keyHash Pm "tell",.str "tell" P,.ref f⟩,⟨PyData.keyHash Pm "go",.str "go" O,.ref c⟩,⟨PyData.keyHash Pm "skip",.str "skip" M,.ref b⟩],ep8,W.mg_of X a g8,d8,⟨f8c,f8d,f8s⟩,e8,s8,(by decide),(show EsOk Pm K [⟨PyData.keyHash Pm "put",.str "put" R,.ref i⟩,⟨PyData.keyHash Pm "if",.str "if" Q,.ref g⟩,⟨PyData.keyHash Pm "tell",.str "tell" P,.ref f⟩,⟨PyData.keyHash Pm "go",.str "go" O,.ref c⟩,⟨PyData.keyHash Pm "skip",.str "skip" M,.ref b⟩] _ _ from .cons (v:=.ref i) (t:=R) rfl rfl (show RelV (.ref i) (.ref i) from rfl) (λ_ _=>.tup (xs:=[.int (2),.int (4)]) (.inr ⟨E,#[.int (2) L,.int (4) J],bn8_0,h8_0,i8_0,j8_0,(show(2:Nat)<=sizeLine by decide),.cons ⟨_,rfl⟩ (.cons ⟨_,rfl⟩ (.nil))⟩) (.cons (.int _) (.cons (.int _) (.nil)))) (.cons (v:=.ref g) (t:=Q) rfl rfl (show RelV (.ref g) (.ref g) from rfl) (λ_ _=>.tup (xs:=[.int (1),.int (3)]) (.inr ⟨D,#[.int (1) I,.int (3) H],bn8_1,h8_1,i8_1,j8_1,(show(2:Nat)<=sizeLine by decide),.cons ⟨_,rfl⟩ (.cons ⟨_,rfl⟩ (.nil))⟩) (.cons (.int _) (.cons (.int _) (.nil)))) (.cons (v:=.ref f) (t:=P) rfl rfl (show RelV (.ref f) (.ref f) from rfl) (λ_ _=>.tup (xs:=[.int (1)]) (.inr ⟨C,#[.int (1) F],bn8_2,h8_2,i8_2,j8_2,(show(1:Nat)<=sizeLine by decide),.cons ⟨_,rfl⟩ (.nil)⟩) (.cons (.int _) (.nil))) (.cons (v:=.ref c) (t:=O) rfl rfl (show RelV (.ref c) (.ref c) from rfl) (λ_ _=>.tup (xs:=[]) (.inr ⟨B,#[],bn8_3,h8_3,i8_3,j8_3,(show(0:Nat)<=sizeLine by decide),.nil⟩) (.nil)) (.cons (v:=.ref b) (t:=M) rfl rfl (show RelV (.ref b) (.ref b) from rfl) (λ_ _=>.tup (xs:=[]) (.inr ⟨A,#[],bn8_4,h8_4,i8_4,j8_4,(show(0:Nat)<=sizeLine by decide),.nil⟩) (.nil)) (.nil))))))⟩,gD X a a9 q_5 rfl (gD X a a10 q_6 rfl (gD X a a11 q_7 rfl (gD X a a12 q_8 rfl (gI X a g13 (gI X a g14 (⟨⟨.ref A15,.ref A15,W.mg_of X a g15,rfl,λ_ _=>.kt (its:=#[.str "+" t15_0,.str "-" t15_1,.str "*" t15_2,.str "/" t15_3,.str "mod" t15_4]) d15 f15c f15d e15 (show(5:Nat)<=sizeLine by decide) (.cons ⟨_,rfl⟩ (.cons ⟨_,rfl⟩ (.cons ⟨_,rfl⟩ (.cons ⟨_,rfl⟩ (.cons ⟨_,rfl⟩ (.nil))))))⟩,⟨⟨.ref A16,.ref A16,W.mg_of X a g16,rfl,λ_ _=>.kt (its:=#[.str "<" t16_0,.str "<=" t16_1,.str "=" t16_2,.str ">=" t16_3,.str ">" t16_4,.str "!=" t16_5]) d16 f16c f16d e16 (show(6:Nat)<=sizeLine by decide) (.cons ⟨_,rfl⟩ (.cons ⟨_,rfl⟩ (.cons ⟨_,rfl⟩ (.cons ⟨_,rfl⟩ (.cons ⟨_,rfl⟩ (.cons ⟨_,rfl⟩ (.nil)))))))⟩,gD X a a17 Zhp rfl (gD X a a18 Zhq rfl (gD X a a19 Zhr rfl (gD X a a20 Zhs rfl (gD X a a21 Zht rfl (⟨⟨A22,j,#[⟨PyData.keyHash Pm "<",.str "<" z,.str ">=" p⟩,⟨PyData.keyHash Pm ">=",.str ">=" y,.str "<" o⟩,⟨PyData.keyHash Pm "<=",.str "<=" x,.str ">" n⟩,⟨PyData.keyHash Pm ">",.str ">" w,.str "<=" m⟩,⟨PyData.keyHash Pm "=",.str "=" r,.str "!=" l⟩,⟨PyData.keyHash Pm "!=",.str "!=" q,.str "=" k⟩],ep22,W.mg_of X a g22,d22,⟨f22c,f22d,f22s⟩,e22,s22,(by decide),(show EsOk Pm K [⟨PyData.keyHash Pm "<",.str "<" z,.str ">=" p⟩,⟨PyData.keyHash Pm ">=",.str ">=" y,.str "<" o⟩,⟨PyData.keyHash Pm "<=",.str "<=" x,.str ">" n⟩,⟨PyData.keyHash Pm ">",.str ">" w,.str "<=" m⟩,⟨PyData.keyHash Pm "=",.str "=" r,.str "!=" l⟩,⟨PyData.keyHash Pm "!=",.str "!=" q,.str "=" k⟩] _ _ from .cons (v:=.str ">=") (t:=z) rfl rfl (show RelV (.str ">=") (.str ">=" p) from⟨_,rfl⟩) (λ_ _=>.str _) (.cons (v:=.str "<") (t:=y) rfl rfl (show RelV (.str "<") (.str "<" o) from⟨_,rfl⟩) (λ_ _=>.str _) (.cons (v:=.str ">") (t:=x) rfl rfl (show RelV (.str ">") (.str ">" n) from⟨_,rfl⟩) (λ_ _=>.str _) (.cons (v:=.str "<=") (t:=w) rfl rfl (show RelV (.str "<=") (.str "<=" m) from⟨_,rfl⟩) (λ_ _=>.str _) (.cons (v:=.str "!=") (t:=r) rfl rfl (show RelV (.str "!=") (.str "!=" l) from⟨_,rfl⟩) (λ_ _=>.str _) (.cons (v:=.str "=") (t:=q) rfl rfl (show RelV (.str "=") (.str "=" k) from⟨_,rfl⟩) (λ_ _=>.str _) (.nil)))))))⟩,gD X a a23 Zhu rfl (gD X a a24 Zhv rfl (gD X a a25 Zhw rfl (gD X a a26 Zhx rfl (gD X a a27 Zhy rfl (gD X a a28 Zhz rfl (gD X a a29 ZhA rfl (gD X a a30 ZhB rfl (gD X a a31 ZhC rfl (gD X a a32 ZhD rfl (gE X a a33 ZhE rfl (λ_ _ _ _ _ _ _ _ _ _ d e=>⟨λs us hK hl=>by obtain⟨_,_,_,rfl⟩:=ZeX (show us.length=3 by simpa using hl);exact W.binds_K hK rfl d e rfl rfl,λs us hK hl=>by obtain⟨_,_,rfl⟩:=ZgD (show us.length=2 by simpa using hl);exact W.binds_K hK rfl d e rfl rfl⟩) (gD X a a34 ZhF rfl (gD X a a35 ZhG rfl (gI X a g36 (gD X a a37 ZhH rfl (gD X a a38 ZhI rfl (⟨⟨.ref A39,.ref A39,W.mg_of X a g39,rfl,λ_ _=>.tup (xs:=[]) (.inr ⟨U,#[],on39,d39,f39c,e39,(show(0:Nat)<=sizeLine by decide),.nil⟩) (.nil)⟩,gD X a a40 ZhJ rfl (gD X a a41 ZhK rfl (gD X a a42 ZhL rfl (gD X a a43 ZhM rfl (gD X a a44 ZhN rfl (gD X a a45 ZhO rfl (gD X a a46 ZhP rfl (gD X a a47 ZhQ rfl (gD X a a48 ZhR rfl (gD X a a49 ZhS rfl (gD X a a50 ZhT rfl (gD X a a51 ZhU rfl (gD X a a52 ZhV rfl (gD X a a53 ZhW rfl (gD X a a54 ZhX rfl (gD X a a55 ZhY rfl (gD X a a56 ZhZ rfl (gD X a a57 Zh0 rfl (gD X a a58 Zh1 rfl (gD X a a59 Zh2 rfl (gD X a a60 Zh3 rfl (gD X a a61 Zh4 rfl (gD X a a62 Zh5 rfl (gD X a a63 ZgM rfl (gB X a z64 (gB X a z65 (gB X a z66 (gB X a z67 (gB X a z68 (gB X a z69 (gB X a z70 (gB X a z71 (gB X a z72 (gB X a z73 (gB X a z74 (gB X a z75 (gB X a z76 (gB X a z77 (gB X a z78 (gB X a z79 (trivial))))))))))))))))))))))))))))))))))))))))⟩))))))))))))))))⟩)))))⟩⟩))))))⟩))))))))),gL X a hfa a63 ZgM rfl λ_ _ _ _ _ _ _=>rfl⟩
theorem ZcN:∀ n,YU G (run T n):=λ_=>Zb3
end
end Dp
open PySem PySem.W PyProof.Rows
set_option maxRecDepth 100000 in
set_option maxHeartbeats 0 in
theorem PySem.Challenge.cw_fakehunt_k83_whole_book_holds : PySem.Challenge.rw_fakehunt_k83_whole_book.Holds := by
 w_on;o_law;k_head;(case hw=>w_witness2)
 k_fill
 refine Dp.Jr (l:=PySem.Challenge.rw_fakehunt_k83_whole_book) (G:=Dp.G) (T:=Dp.T) (n:=11) (i:=16) (x := "_law_script") rfl rfl ⟨rfl,by decide,by decide⟩ (λw h Y=>PySem.W.kIn_of Y) Dp.ZcN ?F (λns hn=>Dp.Jq (n:=0))
 case F=>
  intro w mg fa h KX G0 hmg;refine' ⟨Dp.tab [(146,?C0),(169,?C1),(149,?C2),(157,?C3),(152,?C4),(160,?C5),(163,?C6),(263,?C7)],Dp.Zei (ct:=Dp.tab [(146,?C0),(169,?C1),(149,?C2),(157,?C3),(152,?C4),(160,?C5),(163,?C6),(263,?C7)]) (Pm:=w.params) (C0:=?C0) (C1:=?C1) (C2:=?C2) (C3:=?C3) (C4:=?C4) (C5:=?C5) (C6:=?C6) (C7:=?C7) KX G0 hmg ?z0 ?z1 ?z2 ?z3 ?z4 ?z5 ?z6 ?z7 ⟨?_,?_,?_,?_,?_,?_,?_,?_,?_,?_,?_,?_⟩ (.mk ?_ ?_ ?_ ?_ ?_) (.mk ?_ ?_ ?_ ?_ ?_) ⟨?_,?_,?_,?_,?_,?_,?_,?_,?_,?_,?_,?_⟩ (.mk ?_ ?_ ?_ ?_ ?_) (.mk ?_ ?_ ?_ ?_ ?_) ⟨?_,?_,?_,?_,?_,?_,?_,?_,?_,?_,?_,?_⟩ (.mk ?_ ?_ ?_ ?_ ?_) (.mk ?_ ?_ ?_ ?_ ?_) ⟨?_,?_,?_,?_,?_,?_,?_,?_,?_,?_,?_,?_⟩ (.mk ?_ ?_ ?_ ?_ ?_) (.mk ?_ ?_ ?_ ?_ ?_) ⟨?_,?_,?_,?_,?_,?_,?_,?_,?_,?_,?_,?_⟩ (.mk ?_ ?_ ?_ ?_ ?_) (.mk ?_ ?_ ?_ ?_ ?_) ⟨?_,?_,?_,?_,?_,?_,?_,?_,?_,?_,?_,?_⟩ (.mk ?_ ?_ ?_ ?_ ?_) (.mk ?_ ?_ ?_ ?_ ?_) ⟨?_,?_,?_,?_,?_,?_,?_,?_,?_,?_,?_,?_⟩ (.mk ?_ ?_ ?_ ?_ ?_) (.mk ?_ ?_ ?_ ?_ ?_) ⟨?_,?_,?_,?_,?_,?_,?_,?_,?_,?_,?_,?_⟩ (.mk ?_ ?_ ?_ ?_ ?_ ?_ ?_) (.mk ?_ ?_ ?_ ?_ ?_) (.mk ?_ ?_ ?_ ?_ ?_) (.mk ?_ ?_ ?_ ?_ ?_) (.mk ?_ ?_ ?_ ?_ ?_) (.mk ?_ ?_ ?_ ?_ ?_) (.mk ?_ ?_ ?_ ?_ ?_) (.mk ?_ ?_ ?_ ?_ ?_) (.mk ?_ ?_ ?_ ?_ ?_) ?_ ?_ ?_ ?_ ?_ ?_ ?_ ?_ ?_ ?_ ?_ ?_ ?_ ?_ ?_ ?_ ?_ ?_ ?_ ?_ ?_ ?_ (.mk ?_ ?_ ?_ ?_) (.mk ?_ ?_ ?_ ?_) (.mk ?_ ?_ ?_ ?_) (.mk ?_ ?_ ?_ ?_) ?_ ?_ ?_ ?_ ?_ ?_ ?_ ?_ ?_ ?_ ?_ ?_ (.mk ?_ ?_ ?_ ?_) (.mk ?_ ?_ ?_ ?_) (.mk ?_ ?_ ?_ ?_) (.mk ?_ ?_ ?_ ?_) (.mk ?_ ?_ ?_ ?_) ?_ ?_ ?_ ?_ ?_ ?_ ?_ (.mk ?_ ?_ ?_ ?_) (.mk ?_ ?_ ?_ ?_) (.mk ?_ ?_ ?_ ?_) (.mk ?_ ?_ ?_ ?_) (.mk ?_ ?_ ?_ ?_) (.mk ?_ ?_ ?_ ?_) (.mk ?_ ?_ ?_ ?_) (.mk ?_ ?_ ?_ ?_) (.mk ?_ ?_ ?_ ?_) (.mk ?_ ?_ ?_ ?_) (.mk ?_ ?_ ?_ ?_ ?_ ?_) (.mk ?_ ?_ ?_ ?_) (.mk ?_ ?_ ?_ ?_) ?_ (.mk ?_ ?_ ?_ ?_) (.mk ?_ ?_ ?_ ?_) ?_ ?_ ?_ ?_ (.mk ?_ ?_ ?_ ?_) (.mk ?_ ?_ ?_ ?_) (.mk ?_ ?_ ?_ ?_) (.mk ?_ ?_ ?_ ?_) (.mk ?_ ?_ ?_ ?_) (.mk ?_ ?_ ?_ ?_) (.mk ?_ ?_ ?_ ?_) (.mk ?_ ?_ ?_ ?_) (.mk ?_ ?_ ?_ ?_) (.mk ?_ ?_ ?_ ?_) (.mk ?_ ?_ ?_ ?_) (.mk ?_ ?_ ?_ ?_) (.mk ?_ ?_ ?_ ?_) (.mk ?_ ?_ ?_ ?_) (.mk ?_ ?_ ?_ ?_) (.mk ?_ ?_ ?_ ?_) (.mk ?_ ?_ ?_ ?_) (.mk ?_ ?_ ?_ ?_) (.mk ?_ ?_ ?_ ?_) (.mk ?_ ?_ ?_ ?_) (.mk ?_ ?_ ?_ ?_) (.mk ?_ ?_ ?_ ?_) (.mk ?_ ?_ ?_ ?_) (.mk ?_ ?_ ?_ ?_) ?_ ?_ ?_ ?_ ?_ ?_ ?_ ?_ ?_ ?_ ?_ ?_ ?_ ?_ ?_ ?_⟩
  all_goals (first|k_is|exact rfl|skip)
  all_goals (first|k_is|exact rfl|skip)
